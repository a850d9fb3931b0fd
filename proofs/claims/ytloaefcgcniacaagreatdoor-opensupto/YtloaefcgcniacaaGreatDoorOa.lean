import Derived.Test.YtloaefcgcniacaaGreatDoorFe
namespace Go.Proofs.YtloaefcgcniacaaGreatDoor
open Go.RowKit
set_option linter.unusedVariables false

/-- The number that the first j bytes from place k on make. -/
def pv (l : List Nat) (k : Nat) : Nat → Nat
  | 0 => 0
  | j + 1 => 256 * pv l k j + l[k + j]?.getD 0
theorem pv_four (l : List Nat) (k : Nat) : pv l k 4 = val4 l k := by
  simp only [pv, val4, Nat.add_zero]
  omega
theorem pv_lt (l : List Nat) (hl : ∀ x ∈ l, x < 256) (k : Nat) : ∀ j, j ≤ 4 → pv l k j < 4294967296 ∧ (j ≤ 3 → pv l k j < 16777216) ∧ (j ≤ 2 → pv l k j < 65536) ∧ (j ≤ 1 → pv l k j < 256) := by
  intro j hj
  have h0 := Lbx.get_lt l 256 (by decide) hl k
  have h1 := Lbx.get_lt l 256 (by decide) hl (k + 1)
  have h2 := Lbx.get_lt l 256 (by decide) hl (k + 2)
  have h3 := Lbx.get_lt l 256 (by decide) hl (k + 3)
  obtain rfl | rfl | rfl | rfl | rfl : j = 0 ∨ j = 1 ∨ j = 2 ∨ j = 3 ∨ j = 4 := by omega
  all_goals
    simp only [pv, Nat.add_zero]
    omega

set_option maxHeartbeats 400000 in
theorem rvalue_any (g off n cap k : Nat) (l : List Nat) (w : World) (hn : l.length = n) (hk : k + 4 ≤ n) (hm : n < 4294967296) (hl : ∀ x ∈ l, x < 256) (hr : Rd w g off l) :
    Calls Tryz.prog 142 #[.slice (some ⟨g, off, none⟩) n cap, .int .i64 (k : Int)] w fun e w' => e = .returned (.int .i64 ((val4 l k : Nat) : Int)) ∧ ∃ q, w' = w.drewN q := by
  have HN : Hid (l.length = n) := hn
  clear hn
  go_enter Tryz.func142, Tryz.ntmps142
  go_wp2
  go_loopw [5, 6] (fun x i wr => ∃ j : Nat, j ≤ 4 ∧ i = .int .i64 ((k + j : Nat) : Int) ∧ x = .int .i64 ((pv l k j : Nat) : Int) ∧ ∃ q, wr = w.drewN q) (fun _ i _ => k + 4 - (intOf i).toNat)
  case atStart => exact ⟨0, Nat.zero_le _, rfl, rfl, 0, rfl⟩
  case round =>
    obtain ⟨j, hj, rfl, rfl, q, rfl⟩ := hrel
    have hp := pv_lt l hl k j hj
    by_cases hlt : j < 4
    · have hc := hr (k + j) (by have := HN.out; omega)
      have hb := Lbx.get_lt l 256 (by decide) hl (k + j)
      have hi : ((k + j : Nat) : Int) < (k : Int) + 4 := by omega
      have hp2 : pv l k j < 16777216 := hp.2.1 (by omega)
      have hpp : pv l k (j + 1) = 256 * pv l k j + l[k + j]?.getD 0 := rfl
      clear hp
      go_wp2
      go_roundw
      case rel => exact ⟨j + 1, by omega, by go_num, by rw [hpp]; go_num, q, by simp⟩
      case measure => simp [intOf]; omega
    · have h4 : j = 4 := by omega
      subst h4
      have hi : ¬ ((k + 4 : Nat) : Int) < (k : Int) + 4 := by omega
      go_wp2
      go_ret
      exact ⟨ret_int (by rw [pv_four]), q, rfl⟩
end Go.Proofs.YtloaefcgcniacaaGreatDoor
