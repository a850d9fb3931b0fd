import Derived.Test.YtloaefcgcniacaaGreatDoorRa
namespace Go.Proofs.YtloaefcgcniacaaGreatDoor
open Go.RowKit
set_option linter.unusedVariables false

theorem stp_int (X V Y : Nat) (h : Lbx.stp X V = Y * 668265261 % 4294967296 ^^^ Y * 668265261 % 4294967296 / 32768) :
    ((((Y : Int) * 668265261 % 4294967296).toNat ^^^ ((Y : Int) * 668265261 % 4294967296 / 32768).toNat : Nat) : Int) = ((Lbx.stp ((X : Int)).toNat ((V : Int)).toNat : Nat) : Int) := by
  have e : (Y : Int) * 668265261 % 4294967296 = ((Y * 668265261 % 4294967296 : Nat) : Int) := by
    rw [Int.natCast_emod, Int.natCast_mul]
    rfl
  have e2 : ((Y * 668265261 % 4294967296 : Nat) : Int) / 32768 = ((Y * 668265261 % 4294967296 / 32768 : Nat) : Int) := by
    rw [Int.natCast_ediv]
    rfl
  rw [e, e2, Int.toNat_natCast, Int.toNat_natCast, Int.toNat_natCast, Int.toNat_natCast, h]

set_option maxHeartbeats 400000 in
theorem rstep_any (x v : Int) (w : World) (hx0 : 0 ≤ x) (hx : x < 4294967296) (hv0 : 0 ≤ v) (hv : v < 4294967296) :
    Calls Tryz.prog 185 #[.int .i64 x, .int .i64 v] w fun e w' => e = .returned (.int .i64 ((Lbx.stp x.toNat v.toNat : Nat) : Int)) ∧ ∃ q, w' = w.drewN q := by
  obtain ⟨X, rfl⟩ := Int.eq_ofNat_of_zero_le hx0
  obtain ⟨V, rfl⟩ := Int.eq_ofNat_of_zero_le hv0
  have hxv := Lbx.xlt (a := X) (b := V) (by omega) (by omega)
  have hstp : Lbx.stp X V = ((X ^^^ V) * 668265261 % 4294967296) ^^^ ((X ^^^ V) * 668265261 % 4294967296 / 32768) := rfl
  have HS := (show Hid _ from hstp)
  clear hstp
  go_enter Tryz.func185, Tryz.ntmps185
  go_wp2_with fail
  refine (rxor_any _ _ _ (by omega) (by omega) (by omega) (by omega)).mono ?_
  rintro e w1 ⟨rfl, q1, rfl⟩
  simp only [Int.toNat_natCast] at HS ⊢
  generalize X ^^^ V = Y at *
  go_wp2_with fail
  refine (rxor_any _ _ _ (by omega) (by omega) (by omega) (by omega)).mono ?_
  rintro e w2 ⟨rfl, q2, rfl⟩
  go_wp2
  go_ret
  refine ⟨ret_int ?_, q1 + q2, by simp⟩
  exact stp_int X V Y HS.out

set_option maxHeartbeats 400000 in
theorem rsum_any (key : Int) (g off n cap : Nat) (l : List Nat) (w : World) (hk0 : 0 ≤ key) (hk : key < 4294967296) (hn : l.length = n) (hm : n < 4294967296)
    (hl : ∀ i : Nat, l[i]?.getD 0 < 4294967296) (hc : ∀ i : Nat, i < n → w.cell? ⟨g, off + i, none⟩ = some (.int .i64 ((l[i]?.getD 0 : Nat) : Int))) :
    Calls Tryz.prog 137 #[.int .i64 key, .slice (some ⟨g, off, none⟩) n cap] w fun e w' => e = .returned (.int .i64 ((Lbx.sumBy key.toNat l : Nat) : Int)) ∧ ∃ q, w' = w.drewN q := by
  obtain ⟨K, rfl⟩ := Int.eq_ofNat_of_zero_le hk0
  have HN : Hid (l.length = n) := hn
  clear hn
  go_enter Tryz.func137, Tryz.ntmps137
  go_wp2
  go_loopw [5, 6] (fun x i wr => ∃ k : Nat, k ≤ n ∧ i = .int .i64 k ∧ x = .int .i64 ((Lbx.sumBy K (l.take k) : Nat) : Int) ∧ ∃ q, wr = w.drewN q) (fun _ i _ => n - (intOf i).toNat)
  case atStart => exact ⟨0, Nat.zero_le _, rfl, rfl, 0, rfl⟩
  case round =>
    obtain ⟨k, hk', rfl, rfl, q, rfl⟩ := hrel
    have hs := Lbx.sumBy_lt (key := K) (l.take k) (by omega)
    by_cases hlt : k < n
    · have hck := hc k hlt
      have hlk := hl k
      go_wp2_with (go_at_call 185; refine (rstep_any _ _ _ (by omega) (by omega) (by omega) (by omega)).mono ?_; rintro e w' ⟨rfl, q2, rfl⟩)
      go_roundw
      case rel =>
        have e := sum_snoc K l k (by have := HN.out; omega)
        rw [List.getD_eq_getElem?_getD] at e
        exact ⟨k + 1, by omega, by go_num, by rw [e], q + q2, by simp⟩
      case measure => simp [intOf]; omega
    · go_wp2
      go_ret
      exact ⟨ret_int (by rw [List.take_of_length_le (by have := HN.out; omega), Int.toNat_natCast]), q, rfl⟩

set_option maxHeartbeats 400000 in
theorem rnumber_yes (k : Int) (w : World) (h1 : 0 ≤ k) (h2 : k ≤ 4294967295) : Calls Tryz.prog 77 #[.int .i64 k] w fun e w' => e = .returned (.bool true) ∧ w' = w := by
  go_enter Tryz.func77, Tryz.ntmps77
  go_wp2
  go_ret
  exact ⟨rfl, rfl⟩
set_option maxHeartbeats 400000 in
theorem rnumber_no (k : Int) (w : World) (h : k < 0 ∨ 4294967295 < k) : Calls Tryz.prog 77 #[.int .i64 k] w fun e w' => e = .returned (.bool false) ∧ w' = w := by
  by_cases h1 : 0 ≤ k
  · have h2 : ¬ k ≤ 4294967295 := by omega
    go_enter Tryz.func77, Tryz.ntmps77
    go_wp2
    go_ret
    exact ⟨rfl, rfl⟩
  · go_enter Tryz.func77, Tryz.ntmps77
    go_wp2
    go_ret
    exact ⟨rfl, rfl⟩

set_option maxHeartbeats 400000 in
theorem rfour_any (x : Int) (w : World) (hx0 : 0 ≤ x) (hx : x < 4294967296) :
    Calls Tryz.prog 79 #[.int .i64 x] w fun e w' => e = .returned (.slice (some ⟨w.heap.size, 0, none⟩) 4 4) ∧ Blk w' w.heap.size (Lbx.four x.toNat) ∧ Below w.heap.size w w' := by
  obtain ⟨X, rfl⟩ := Int.eq_ofNat_of_zero_le hx0
  simp only [Int.toNat_natCast]
  go_enter Tryz.func79, Tryz.ntmps79
  go_wp2
  go_ret
  refine ⟨rfl, ?_, (Below.refl _ _).alloc (Nat.le_refl _) _⟩
  have e : blkOf (Lbx.four X) = #[Value.int IntKind.u8 (↑X / 16777216), Value.int IntKind.u8 (↑X / 65536 % 256), Value.int IntKind.u8 (↑X / 256 % 256), Value.int IntKind.u8 (↑X % 256)] := by
    simp [blkOf, Lbx.four, byteV]
    omega
  have := blk_new w (Lbx.four X)
  rw [e] at this
  exact this
end Go.Proofs.YtloaefcgcniacaaGreatDoor
