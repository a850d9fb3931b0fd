import Derived.Test.YtloaefcgcniacaaGreatDoorBg
namespace Go.Proofs.YtloaefcgcniacaaGreatDoor
open Go.RowKit
set_option linter.unusedVariables false

theorem isSlots_yes (k : Int) (w : World) (h1 : 1 ≤ k) (h2 : k ≤ 32) : Calls Tryz.prog 98 #[.int .i64 k] w fun e w' => e = .returned (.bool true) ∧ w' = w := by
  go_enter Tryz.func98, Tryz.ntmps98
  go_wp2
  go_ret
  exact ⟨rfl, rfl⟩
set_option maxHeartbeats 400000 in
theorem isSlots_no (k : Int) (w : World) (h : k < 1 ∨ 32 < k) : Calls Tryz.prog 98 #[.int .i64 k] w fun e w' => e = .returned (.bool false) ∧ w' = w := by
  by_cases h1 : 1 ≤ k
  · have h2 : ¬ k ≤ 32 := by omega
    go_enter Tryz.func98, Tryz.ntmps98
    go_wp2
    go_ret
    exact ⟨rfl, rfl⟩
  · go_enter Tryz.func98, Tryz.ntmps98
    go_wp2
    go_ret
    exact ⟨rfl, rfl⟩
theorem isBlocks_yes (k : Int) (w : World) (h1 : 1 ≤ k) (h2 : k ≤ 16) : Calls Tryz.prog 73 #[.int .i64 k] w fun e w' => e = .returned (.bool true) ∧ w' = w := by
  go_enter Tryz.func73, Tryz.ntmps73
  go_wp2
  go_ret
  exact ⟨rfl, rfl⟩
set_option maxHeartbeats 400000 in
theorem isBlocks_no (k : Int) (w : World) (h : k < 1 ∨ 16 < k) : Calls Tryz.prog 73 #[.int .i64 k] w fun e w' => e = .returned (.bool false) ∧ w' = w := by
  by_cases h1 : 1 ≤ k
  · have h2 : ¬ k ≤ 16 := by omega
    go_enter Tryz.func73, Tryz.ntmps73
    go_wp2
    go_ret
    exact ⟨rfl, rfl⟩
  · go_enter Tryz.func73, Tryz.ntmps73
    go_wp2
    go_ret
    exact ⟨rfl, rfl⟩

/-- How many frames so many blocks need; how many zones they fill; LEAST. -/
def kFr (b : Nat) : Nat := b + (b + 3) / 4 + 1
def mZo (f s : Nat) : Nat := (f + s - 1) / s
def lst (s b : Nat) : Nat := 2 * mZo (kFr b) s + 1

theorem mZo_le {f s : Nat} (hs : 1 ≤ s) : mZo f s ≤ f := by
  unfold mZo
  have : f + s - 1 < s * (f + 1) := by
    have h := Nat.mul_le_mul hs (Nat.le_refl f)
    rw [Nat.mul_add, Nat.mul_one]
    omega
  have := (Nat.div_lt_iff_lt_mul (by omega : 0 < s)).2 (by rw [Nat.mul_comm]; exact this)
  omega

set_option maxHeartbeats 400000 in
theorem leavesOf_any (b : Nat) (w : World) (hb : b ≤ 1000) : Calls Tryz.prog 176 #[.int .i64 (b : Int)] w fun e w' => e = .returned (.int .i64 (((b + 3) / 4 : Nat) : Int)) ∧ w' = w := by
  go_enter Tryz.func176, Tryz.ntmps176
  go_wp2
  go_ret
  exact ⟨ret_int (by omega), rfl⟩
set_option maxHeartbeats 400000 in
theorem framesOf_any (b : Nat) (w : World) (hb : b ≤ 1000) : Calls Tryz.prog 157 #[.int .i64 (b : Int)] w fun e w' => e = .returned (.int .i64 ((kFr b : Nat) : Int)) ∧ w' = w := by
  go_enter Tryz.func157, Tryz.ntmps157
  go_wp2_with (go_at_call 176; refine (leavesOf_any b _ hb).mono ?_; rintro e w' ⟨rfl, rfl⟩)
  go_ret
  exact ⟨ret_int (by unfold kFr; omega), rfl⟩
set_option maxHeartbeats 400000 in
theorem zonesOf_any (f s : Nat) (w : World) (hf : f ≤ 10000) (hs : 1 ≤ s) (hs2 : s ≤ 1000) : Calls Tryz.prog 156 #[.int .i64 (f : Int), .int .i64 (s : Int)] w fun e w' => e = .returned (.int .i64 ((mZo f s : Nat) : Int)) ∧ w' = w := by
  go_enter Tryz.func156, Tryz.ntmps156
  go_wp2
  go_ret
  exact ⟨ret_int (by unfold mZo; rw [Int.natCast_ediv]; congr 1; omega), rfl⟩

theorem kFr_le (b : Nat) (hb : b ≤ 16) : kFr b ≤ 21 := by unfold kFr; omega

set_option maxHeartbeats 400000 in
theorem leastOf_any (s b : Nat) (w : World) (hs : 1 ≤ s) (hs2 : s ≤ 32) (hb : b ≤ 16) : Calls Tryz.prog 99 #[.int .i64 (s : Int), .int .i64 (b : Int)] w fun e w' => e = .returned (.int .i64 ((lst s b : Nat) : Int)) ∧ w' = w := by
  have hk := kFr_le b hb
  have hm := mZo_le (f := kFr b) hs
  go_enter Tryz.func99, Tryz.ntmps99
  go_wp2_with (first
    | (go_at_call 157; refine (framesOf_any b _ (by omega)).mono ?_; rintro e w' ⟨rfl, rfl⟩)
    | (go_at_call 156; refine (zonesOf_any (kFr b) s _ (by omega) hs (by omega)).mono ?_; rintro e w' ⟨rfl, rfl⟩))
  go_ret
  exact ⟨ret_int (by unfold lst; omega), rfl⟩

/-- May these be slots and blocks? -/
def lstOK (a b : Int) : Prop := (1 ≤ a ∧ a ≤ 32) ∧ 1 ≤ b ∧ b ≤ 16
instance (a b : Int) : Decidable (lstOK a b) := inferInstanceAs (Decidable (_ ∧ _))

set_option maxHeartbeats 400000 in
theorem sleast_ok (a b : Int) (w : World) (h : lstOK a b) : Calls Tryz.prog 40 #[.int .i64 a, .int .i64 b] w fun e w' => e = .returned (.tuple #[.int .i64 ((lst a.toNat b.toNat : Nat) : Int), .int .i64 0]) ∧ w' = w := by
  obtain ⟨⟨h1, h2⟩, h3, h4⟩ := h
  obtain ⟨s, rfl⟩ := Int.eq_ofNat_of_zero_le (show 0 ≤ a by omega)
  obtain ⟨c, rfl⟩ := Int.eq_ofNat_of_zero_le (show 0 ≤ b by omega)
  go_enter Tryz.func40, Tryz.ntmps40
  go_wp2_with (first
    | (go_at_call 98; refine (isSlots_yes _ _ h1 h2).mono ?_; rintro e w' ⟨rfl, rfl⟩)
    | (go_at_call 73; refine (isBlocks_yes _ _ h3 h4).mono ?_; rintro e w' ⟨rfl, rfl⟩)
    | (go_at_call 99; refine (leastOf_any s c _ (by omega) (by omega) (by omega)).mono ?_; rintro e w' ⟨rfl, rfl⟩))
  go_ret2
  exact ⟨rfl, rfl⟩

set_option maxHeartbeats 400000 in
theorem sleast_no (a b : Int) (w : World) (h : ¬ lstOK a b) : Calls Tryz.prog 40 #[.int .i64 a, .int .i64 b] w fun e w' => e = .returned (.tuple #[.int .i64 0, .int .i64 1]) ∧ w' = w := by
  by_cases h1 : 1 ≤ a ∧ a ≤ 32
  · have h2 : b < 1 ∨ 16 < b := by unfold lstOK at h; omega
    clear h
    go_enter Tryz.func40, Tryz.ntmps40
    go_wp2_with (first
      | (go_at_call 98; refine (isSlots_yes _ _ h1.1 h1.2).mono ?_; rintro e w' ⟨rfl, rfl⟩)
      | (go_at_call 73; refine (isBlocks_no _ _ h2).mono ?_; rintro e w' ⟨rfl, rfl⟩))
    go_ret2
    exact ⟨rfl, rfl⟩
  · have h2 : a < 1 ∨ 32 < a := by omega
    clear h h1
    go_enter Tryz.func40, Tryz.ntmps40
    go_wp2_with (go_at_call 98; refine (isSlots_no _ _ h2).mono ?_; rintro e w' ⟨rfl, rfl⟩)
    go_ret2
    exact ⟨rfl, rfl⟩
end Go.Proofs.YtloaefcgcniacaaGreatDoor
