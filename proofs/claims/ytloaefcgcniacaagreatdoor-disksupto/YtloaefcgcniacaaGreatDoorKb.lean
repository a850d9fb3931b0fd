import Derived.Test.YtloaefcgcniacaaGreatDoorMem
import Derived.Test.YtloaefcgcniacaaGreatDoorKa
namespace Go.Proofs.YtloaefcgcniacaaGreatDoor
open Go.RowKit

theorem three_get (E S : Nat) (hE : E < 4294967296) (hS : S < 4294967296) (i : Nat) : [1, E, S].getD i 0 < 4294967296 := by
  match i with
  | 0 => simp
  | 1 => simpa using hE
  | 2 => simpa using hS
  | n + 3 => simp

theorem conv_byte (n : Nat) : ((n : Int) % 256) = ((n % 256 : Nat) : Int) := by simp

set_option maxHeartbeats 400000 in
theorem stream_any (key ep sq n : Int) (w : World) (hk0 : 0 ≤ key) (hk : key < 4294967296) (he0 : 0 ≤ ep) (he : ep < 4294967296) (hs0 : 0 ≤ sq) (hs : sq < 4294967296)
    (hn0 : 0 ≤ n) (hn : n < 4294967296) :
    Calls Tryz.prog 138 #[.int .u32 key, .int .u32 ep, .int .u32 sq, .int .i64 n] w fun e w' =>
      ∃ g, e = .returned (.slice (some ⟨g, 0, none⟩) n.toNat n.toNat) ∧ w.heap.size ≤ g ∧ Blk w' g (Lbx.strm key.toNat ep.toNat sq.toNat n.toNat) ∧ Below w.heap.size w w' := by
  obtain ⟨K, rfl⟩ := Int.eq_ofNat_of_zero_le hk0
  obtain ⟨E, rfl⟩ := Int.eq_ofNat_of_zero_le he0
  obtain ⟨S, rfl⟩ := Int.eq_ofNat_of_zero_le hs0
  obtain ⟨N, rfl⟩ := Int.eq_ofNat_of_zero_le hn0
  have hmk := run_make_bytes N (by omega)
  go_enter Tryz.func138, Tryz.ntmps138
  go_wp2_with fail
  refine (sum_any _ _ 0 3 3 [1, E, S] _ (by omega) (by omega) rfl (by omega) (three_get E S (by omega) (by omega)) ?hc).mono ?_
  case hc =>
    intro i hi
    match i, hi with
    | 0, _ => simp
    | 1, _ => simp
    | 2, _ => simp
  rintro e w1 ⟨rfl, rfl⟩
  have hsl := Lbx.sumBy_lt (key := K) [1, E, S] (by omega)
  rw [Int.toNat_natCast]
  obtain ⟨A, hA⟩ : ∃ A, A = Lbx.sumBy K [1, E, S] := ⟨_, rfl⟩
  rw [← hA] at hsl ⊢
  have HA : Hid (A = Lbx.sumBy K [1, E, S]) := hA
  clear hA
  go_wp2
  go_loopw [21] (fun i wr => ∃ k : Nat, k ≤ N ∧ i = .int .i64 k ∧ Blk wr (w.heap.size + 1) (Lbx.part (Lbx.strm K E S N) (List.replicate N 0) k) ∧ Below w.heap.size w wr) (fun i _ => N - (intOf i).toNat)
  case atStart => 
    refine ⟨0, Nat.zero_le _, rfl, ?_, ?_⟩
    · rw [Lbx.part_zero]
      have := blk_new (w.alloc (Obj.cells #[Value.int IntKind.u32 1, Value.int IntKind.u32 ↑E, Value.int IntKind.u32 ↑S] 120)) (List.replicate N 0)
      simpa using this
    · exact ((Below.refl _ _).alloc (Nat.le_refl _) _).alloc (by simp) _
  case round =>
    obtain ⟨k, hk', rfl, hb, hbel⟩ := hrel
    have hlen : (Lbx.part (Lbx.strm K E S N) (List.replicate N 0) k).length = N := by
      rw [Lbx.part_length _ _ _ (by simp [Lbx.strm_length])]; simp
    have HL := hlen
    by_cases hlt : k < N
    · have hcell := hb.cell k (by omega)
      have hfr := hb.frozen k
      go_wp2_with (go_at_call 187; refine (step_any _ _ _ (by omega) (by omega) (by omega) (by omega)).mono ?_; rintro e w' ⟨rfl, rfl⟩)
      go_roundw
      case rel =>
        refine ⟨k + 1, by omega, by go_num, ?_, hbel.setCell (by simp) _⟩
        rw [conv_byte, ← Lbx.part_succ _ _ _ (by simp [Lbx.strm_length]) (by simpa using hlt), Lbx.strm_get _ _ _ _ _ hlt, ← HA.out]
        exact hb.set k _
      case measure => simp [intOf]; omega
    · go_wp2
      go_ret
      refine ⟨w.heap.size + 1, rfl, by omega, ?_, hbel⟩
      have e : k = (List.replicate N 0).length := by simp; omega
      rw [e, Lbx.part_all _ _ (by simp [Lbx.strm_length])] at hb
      exact hb
end Go.Proofs.YtloaefcgcniacaaGreatDoor
