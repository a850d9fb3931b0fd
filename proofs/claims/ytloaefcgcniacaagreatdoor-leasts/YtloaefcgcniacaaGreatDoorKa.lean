import Derived.Test.YtloaefcgcniacaaGreatDoorRows
import Derived.Test.YtloaefcgcniacaaGreatDoorMath
import Derived.WalkKit
import Derived.WalkSpells
import Derived.WalkLawsBesides
namespace Go.Proofs.YtloaefcgcniacaaGreatDoor
open Go.RowKit

theorem ret_int {k : IntKind} {a b : Int} (h : a = b) : Ending.returned (.int k a) = .returned (.int k b) := by rw [h]

theorem stp_bits (x v : Nat) (hx : x < 4294967296) (hv : v < 4294967296) :
    bits BinOp.xor IntKind.u32 (bits BinOp.xor IntKind.u32 (x : Int) (v : Int) * 668265261 % 4294967296) (bits BinOp.xor IntKind.u32 (x : Int) (v : Int) * 668265261 % 4294967296 / 32768) = ((Lbx.stp x v : Nat) : Int) := by
  rw [u32_xor_nat x v hx hv]
  have e1 : ((x ^^^ v : Nat) : Int) * 668265261 % 4294967296 = (((x ^^^ v) * 668265261 % 4294967296 : Nat) : Int) := by simp
  have e2 : (((x ^^^ v) * 668265261 % 4294967296 : Nat) : Int) / 32768 = (((x ^^^ v) * 668265261 % 4294967296 / 32768 : Nat) : Int) := by simp
  rw [e1, e2, u32_xor_nat _ _ (Nat.mod_lt _ (by decide)) (by omega)]
  rfl

set_option maxHeartbeats 400000 in
theorem step_any (x v : Int) (w : World) (hx0 : 0 ≤ x) (hx : x < 4294967296) (hv0 : 0 ≤ v) (hv : v < 4294967296) :
    Calls Tryz.prog 187 #[.int .u32 x, .int .u32 v] w fun e w' => e = .returned (.int .u32 ((Lbx.stp x.toNat v.toNat : Nat) : Int)) ∧ w' = w := by
  obtain ⟨X, rfl⟩ := Int.eq_ofNat_of_zero_le hx0
  obtain ⟨V, rfl⟩ := Int.eq_ofNat_of_zero_le hv0
  go_enter Tryz.func187, Tryz.ntmps187
  go_wp2
  go_ret
  exact ⟨ret_int (stp_bits X V (by omega) (by omega)), rfl⟩

theorem sum_snoc (K : Nat) (l : List Nat) (k : Nat) (hk : k < l.length) :
    Lbx.sumBy K (l.take (k + 1)) = Lbx.stp (Lbx.sumBy K (l.take k)) (l.getD k 0) := by
  rw [List.take_succ_eq_append_getElem hk, Lbx.sumBy_snoc]
  simp [hk]

set_option maxHeartbeats 400000 in
theorem sum_any (key : Int) (g off n cap : Nat) (l : List Nat) (w : World) (hk0 : 0 ≤ key) (hk : key < 4294967296) (hn : l.length = n) (hm : n < 4294967296)
    (hl : ∀ i, l.getD i 0 < 4294967296) (hc : ∀ i, i < n → w.cell? ⟨g, off + i, none⟩ = some (.int .u32 ((l.getD i 0 : Nat) : Int))) :
    Calls Tryz.prog 186 #[.int .u32 key, .slice (some ⟨g, off, none⟩) n cap] w fun e w' => e = .returned (.int .u32 ((Lbx.sumBy key.toNat l : Nat) : Int)) ∧ w' = w := by
  obtain ⟨K, rfl⟩ := Int.eq_ofNat_of_zero_le hk0
  have HN : Hid (l.length = n) := hn
  clear hn
  go_enter Tryz.func186, Tryz.ntmps186
  go_wp2
  go_loop [5, 11] (fun x i => ∃ k : Nat, k ≤ n ∧ i = .int .i64 k ∧ x = .int .u32 ((Lbx.sumBy K (l.take k) : Nat) : Int)) (fun _ i => n - (intOf i).toNat)
  case atStart => exact ⟨0, Nat.zero_le _, rfl, rfl⟩
  case round =>
    obtain ⟨k, hk', rfl, rfl⟩ := hrel
    have hs := Lbx.sumBy_lt (key := K) (l.take k) (by omega)
    by_cases hlt : k < n
    · have hck := hc k hlt
      have hlk : l[k]?.getD 0 < 4294967296 := by have := hl k; simpa using this
      go_wp2_with (go_at_call 187; refine (step_any _ _ _ (by omega) (by omega) (by omega) (by omega)).mono ?_; rintro e w' ⟨rfl, rfl⟩)
      go_round
      case rel => exact ⟨k + 1, by omega, by go_num, by rw [sum_snoc K l k (by have := HN.out; omega)]; simp⟩
      case measure => simp [intOf]; omega
    · go_wp2
      go_ret
      exact ⟨ret_int (by rw [List.take_of_length_le (by have := HN.out; omega)]), rfl⟩
end Go.Proofs.YtloaefcgcniacaaGreatDoor
