import Derived.Test.YtloaefcgcniacaaGreatDoorKt
namespace Go.Proofs.YtloaefcgcniacaaGreatDoor
open Go.RowKit
set_option linter.unusedVariables false

/-- May it be sealed? -/
def FrameOK (kd ix ep sq : Int) (n : Nat) : Prop := 1 ≤ kd ∧ kd ≤ 3 ∧ 0 ≤ ix ∧ ix ≤ 255 ∧ 0 ≤ ep ∧ ep ≤ 4294967295 ∧ 0 ≤ sq ∧ sq ≤ 4294967295 ∧ n = 40

set_option maxHeartbeats 1000000 in
theorem isFrame_no (kd ix ep sq : Int) (a : Option Addr) (n cap : Nat) (w : World) (hn : n ≤ 9223372036854775807) (h : ¬ FrameOK kd ix ep sq n) :
    Calls Tryz.prog 139 #[.agg #[.int .i64 kd, .int .i64 ix, .int .i64 ep, .int .i64 sq, .slice a n cap]] w fun e w' => e = .returned (.bool false) ∧ Below w.heap.size w w' := by
  unfold FrameOK at h
  by_cases h1 : 1 ≤ kd ∧ kd ≤ 3
  · by_cases h2 : 0 ≤ ix
    · by_cases h3 : ix ≤ 255
      · by_cases h4 : 0 ≤ ep ∧ ep ≤ 4294967295
        · by_cases h5 : 0 ≤ sq ∧ sq ≤ 4294967295
          · have h6 : ((n : Int) == 40) = false := by rw [beq_eq_false_iff_ne]; omega
            obtain ⟨a1, b1⟩ := h1
            obtain ⟨a4, b4⟩ := h4
            obtain ⟨a5, b5⟩ := h5
            clear h
            go_enter Tryz.func139, Tryz.ntmps139
            go_wp2_with (first | (go_at_call 68; refine (isNumber_yes _ _ (by omega) (by omega)).mono ?_; rintro e w' ⟨rfl, rfl⟩) | (go_at_call 188; refine (isKind_yes _ _ (by omega) (by omega)).mono ?_; rintro e w' ⟨rfl, rfl⟩))
            go_ret
            exact ⟨rfl, (Below.refl _ _).alloc (Nat.le_refl _) _⟩
          · have h6 : sq < 0 ∨ 4294967295 < sq := by omega
            obtain ⟨a1, b1⟩ := h1
            obtain ⟨a4, b4⟩ := h4
            have H6 := (show Hid _ from h6)
            clear h h5 h6
            go_enter Tryz.func139, Tryz.ntmps139
            go_wp2_with (go_at_call 188; refine (isKind_yes _ _ (by omega) (by omega)).mono ?_; rintro e w' ⟨rfl, rfl⟩)
            refine (isNumber_yes _ _ a4 b4).mono ?_
            rintro e w' ⟨rfl, rfl⟩
            go_wp2_with fail
            refine (isNumber_no _ _ H6.out).mono ?_
            rintro e w' ⟨rfl, rfl⟩
            go_wp2
            go_ret
            exact ⟨rfl, (Below.refl _ _).alloc (Nat.le_refl _) _⟩
        · have h6 : ep < 0 ∨ 4294967295 < ep := by omega
          obtain ⟨a1, b1⟩ := h1
          have H6 := (show Hid _ from h6)
          clear h h4 h6
          go_enter Tryz.func139, Tryz.ntmps139
          go_wp2_with (go_at_call 188; refine (isKind_yes _ _ (by omega) (by omega)).mono ?_; rintro e w' ⟨rfl, rfl⟩)
          refine (isNumber_no _ _ H6.out).mono ?_
          rintro e w' ⟨rfl, rfl⟩
          go_wp2
          go_ret
          exact ⟨rfl, (Below.refl _ _).alloc (Nat.le_refl _) _⟩
      · obtain ⟨a1, b1⟩ := h1
        clear h
        go_enter Tryz.func139, Tryz.ntmps139
        go_wp2_with (go_at_call 188; refine (isKind_yes _ _ (by omega) (by omega)).mono ?_; rintro e w' ⟨rfl, rfl⟩)
        go_ret
        exact ⟨rfl, (Below.refl _ _).alloc (Nat.le_refl _) _⟩
    · obtain ⟨a1, b1⟩ := h1
      clear h
      go_enter Tryz.func139, Tryz.ntmps139
      go_wp2_with (go_at_call 188; refine (isKind_yes _ _ (by omega) (by omega)).mono ?_; rintro e w' ⟨rfl, rfl⟩)
      go_ret
      exact ⟨rfl, (Below.refl _ _).alloc (Nat.le_refl _) _⟩
  · have h6 : kd < 1 ∨ 3 < kd := by omega
    have H6 := (show Hid _ from h6)
    clear h h1 h6
    go_enter Tryz.func139, Tryz.ntmps139
    go_wp2_with (go_at_call 188; refine (isKind_no _ _ H6.out).mono ?_; rintro e w' ⟨rfl, rfl⟩)
    go_ret
    exact ⟨rfl, (Below.refl _ _).alloc (Nat.le_refl _) _⟩

set_option maxHeartbeats 1000000 in
theorem sseal_no (key kd ix ep sq : Int) (a : Option Addr) (n cap : Nat) (w : World) (hn : n ≤ 9223372036854775807) (h : ¬ (0 ≤ key ∧ key ≤ 4294967295 ∧ FrameOK kd ix ep sq n)) :
    Calls Tryz.prog 86 #[.int .i64 key, .agg #[.int .i64 kd, .int .i64 ix, .int .i64 ep, .int .i64 sq, .slice a n cap]] w fun e w' => e = .returned (.tuple #[.slice none 0 0, .int .i64 1]) ∧ Below w.heap.size w w' := by
  by_cases h1 : 0 ≤ key ∧ key ≤ 4294967295
  · have h2 : ¬ FrameOK kd ix ep sq n := fun e => h ⟨h1.1, h1.2, e⟩
    have H1 := (show Hid _ from h1)
    have H2 := (show Hid _ from h2)
    clear h h1 h2
    go_enter Tryz.func86, Tryz.ntmps86
    go_wp2_with fail
    refine (isNumber_yes _ _ H1.out.1 H1.out.2).mono ?_
    rintro e w' ⟨rfl, hw'⟩
    have hw2 := hw'.symm
    clear hw'
    subst hw2
    go_wp2_with fail
    refine (isFrame_no _ _ _ _ _ _ _ _ hn H2.out).mono ?_
    rintro e w1 ⟨rfl, hb1⟩
    have hb01 : Below w.heap.size w w1 := ((Below.refl _ _).alloc (Nat.le_refl _) _).trans (hb1.mono (by simp))
    clear hb1
    go_wp2
    go_ret2
    exact ⟨rfl, hb01⟩
  · have h2 : key < 0 ∨ 4294967295 < key := by omega
    have H2 := (show Hid _ from h2)
    clear h h1 h2
    go_enter Tryz.func86, Tryz.ntmps86
    go_wp2_with fail
    refine (isNumber_no _ _ H2.out).mono ?_
    rintro e w' ⟨rfl, hw'⟩
    have hw2 := hw'.symm
    clear hw'
    subst hw2
    go_wp2
    go_ret2
    exact ⟨rfl, (Below.refl _ _).alloc (Nat.le_refl _) _⟩
end Go.Proofs.YtloaefcgcniacaaGreatDoor
