import Derived.Test.YtloaefcgcniacaaGreatDoorFb
import Derived.Test.YtloaefcgcniacaaGreatDoorRe
namespace Go.Proofs.YtloaefcgcniacaaGreatDoor
open Go.RowKit
set_option linter.unusedVariables false

def numB (k : Int) : Bool := decide (0 ≤ k ∧ k ≤ 4294967295)
theorem rnumber_b (k : Int) (w : World) : Calls Tryz.prog 77 #[.int .i64 k] w fun e w' => e = .returned (.bool (numB k)) ∧ w' = w := by
  by_cases h : 0 ≤ k ∧ k ≤ 4294967295
  · have e : numB k = true := decide_eq_true h
    rw [e]
    exact rnumber_yes k w h.1 h.2
  · have e : numB k = false := decide_eq_false h
    rw [e]
    exact rnumber_no k w (by omega)

set_option maxHeartbeats 1000000 in
theorem rframe_no (kd ix ep sq : Int) (a : Option Addr) (n cap : Nat) (w : World) (hn : n ≤ 9223372036854775807) (h : ¬ FrameOK kd ix ep sq n) :
    Calls Tryz.prog 78 #[.agg #[.int .i64 kd, .int .i64 ix, .int .i64 ep, .int .i64 sq, .slice a n cap]] w fun e w' => e = .returned (.bool false) ∧ Below w.heap.size w w' := by
  have hd : kd < 1 ∨ (1 ≤ kd ∧ 3 < kd) ∨ (1 ≤ kd ∧ kd ≤ 3 ∧ ix < 0) ∨ (1 ≤ kd ∧ kd ≤ 3 ∧ 0 ≤ ix ∧ 255 < ix) ∨ (1 ≤ kd ∧ kd ≤ 3 ∧ 0 ≤ ix ∧ ix ≤ 255 ∧ numB ep = false) ∨ (1 ≤ kd ∧ kd ≤ 3 ∧ 0 ≤ ix ∧ ix ≤ 255 ∧ numB ep = true ∧ numB sq = false) ∨ (1 ≤ kd ∧ kd ≤ 3 ∧ 0 ≤ ix ∧ ix ≤ 255 ∧ numB ep = true ∧ numB sq = true ∧ ((n : Int) == 40) = false) := by
    unfold FrameOK at h
    by_cases h4 : 0 ≤ ep ∧ ep ≤ 4294967295
    · have e4 : numB ep = true := decide_eq_true h4
      by_cases h5 : 0 ≤ sq ∧ sq ≤ 4294967295
      · have e5 : numB sq = true := decide_eq_true h5
        have e6 : 1 ≤ kd → kd ≤ 3 → 0 ≤ ix → ix ≤ 255 → ((n : Int) == 40) = false := by
          intro a1 a2 a3 a4
          rw [beq_eq_false_iff_ne]
          omega
        by_cases b1 : 1 ≤ kd
        · by_cases b2 : kd ≤ 3
          · by_cases b3 : 0 ≤ ix
            · by_cases b4 : ix ≤ 255
              · exact .inr (.inr (.inr (.inr (.inr (.inr ⟨b1, b2, b3, b4, e4, e5, e6 b1 b2 b3 b4⟩)))))
              · exact .inr (.inr (.inr (.inl ⟨b1, b2, b3, by omega⟩)))
            · exact .inr (.inr (.inl ⟨b1, b2, by omega⟩))
          · exact .inr (.inl ⟨b1, by omega⟩)
        · exact .inl (by omega)
      · have e5 : numB sq = false := decide_eq_false h5
        by_cases b1 : 1 ≤ kd
        · by_cases b2 : kd ≤ 3
          · by_cases b3 : 0 ≤ ix
            · by_cases b4 : ix ≤ 255
              · exact .inr (.inr (.inr (.inr (.inr (.inl ⟨b1, b2, b3, b4, e4, e5⟩)))))
              · exact .inr (.inr (.inr (.inl ⟨b1, b2, b3, by omega⟩)))
            · exact .inr (.inr (.inl ⟨b1, b2, by omega⟩))
          · exact .inr (.inl ⟨b1, by omega⟩)
        · exact .inl (by omega)
    · have e4 : numB ep = false := decide_eq_false h4
      by_cases b1 : 1 ≤ kd
      · by_cases b2 : kd ≤ 3
        · by_cases b3 : 0 ≤ ix
          · by_cases b4 : ix ≤ 255
            · exact .inr (.inr (.inr (.inr (.inl ⟨b1, b2, b3, b4, e4⟩))))
            · exact .inr (.inr (.inr (.inl ⟨b1, b2, b3, by omega⟩)))
          · exact .inr (.inr (.inl ⟨b1, b2, by omega⟩))
        · exact .inr (.inl ⟨b1, by omega⟩)
      · exact .inl (by omega)
  clear h
  rcases hd with h | ⟨h1, h2⟩ | ⟨h1, h2, h3⟩ | ⟨h1, h2, h3, h4⟩ | ⟨h1, h2, h3, h4, h5⟩ | ⟨h1, h2, h3, h4, h5, h6⟩ | ⟨h1, h2, h3, h4, h5, h6, h7⟩
  all_goals
    go_enter Tryz.func78, Tryz.ntmps78
    go_wp2_with (go_at_call 77; refine (rnumber_b _ _).mono ?_; rintro e w' ⟨rfl, rfl⟩)
    go_ret
    exact ⟨rfl, (Below.refl _ _).alloc (Nat.le_refl _) _⟩

set_option maxHeartbeats 1000000 in
theorem rseal_no (key kd ix ep sq : Int) (a : Option Addr) (n cap : Nat) (w : World) (hn : n ≤ 9223372036854775807) (h : ¬ (0 ≤ key ∧ key ≤ 4294967295 ∧ FrameOK kd ix ep sq n)) :
    Calls Tryz.prog 37 #[.int .i64 key, .agg #[.int .i64 kd, .int .i64 ix, .int .i64 ep, .int .i64 sq, .slice a n cap]] w fun e w' => e = .returned (.tuple #[.slice none 0 0, .int .i64 1]) ∧ Below w.heap.size w w' := by
  by_cases h1 : 0 ≤ key ∧ key ≤ 4294967295
  · have h2 : ¬ FrameOK kd ix ep sq n := fun e => h ⟨h1.1, h1.2, e⟩
    have H1 := (show Hid _ from h1)
    have H2 := (show Hid _ from h2)
    clear h h1 h2
    go_enter Tryz.func37, Tryz.ntmps37
    go_wp2_with fail
    refine (rnumber_yes _ _ H1.out.1 H1.out.2).mono ?_
    rintro e w' ⟨rfl, hw'⟩
    have hw2 := hw'.symm
    clear hw'
    subst hw2
    go_wp2_with fail
    refine (rframe_no _ _ _ _ _ _ _ _ hn H2.out).mono ?_
    rintro e w1 ⟨rfl, hb1⟩
    have hb01 : Below w.heap.size w w1 := ((Below.refl _ _).alloc (Nat.le_refl _) _).trans (hb1.mono (by simp))
    clear hb1
    go_wp2
    go_ret2
    exact ⟨rfl, hb01⟩
  · have h2 : key < 0 ∨ 4294967295 < key := by omega
    have H2 := (show Hid _ from h2)
    clear h h1 h2
    by_cases hf : FrameOK kd ix ep sq n
    · unfold FrameOK at hf
      obtain ⟨f1, f2, f3, f4, f5, f6, f7, f8, rfl⟩ := hf
      have HF := (show Hid _ from And.intro f1 (And.intro f2 (And.intro f3 (And.intro f4 (And.intro f5 (And.intro f6 (And.intro f7 f8)))))))
      clear f1 f2 f3 f4 f5 f6 f7 f8
      go_enter Tryz.func37, Tryz.ntmps37
      go_wp2_with fail
      refine (rnumber_no _ _ H2.out).mono ?_
      rintro e w' ⟨rfl, hw'⟩
      have hw2 := hw'.symm
      clear hw'
      subst hw2
      go_wp2_with fail
      refine (rframe_yes _ _ _ _ _ _ _ HF.out.1 HF.out.2.1 HF.out.2.2.1 HF.out.2.2.2.1 HF.out.2.2.2.2.1 HF.out.2.2.2.2.2.1 HF.out.2.2.2.2.2.2.1 HF.out.2.2.2.2.2.2.2).mono ?_
      rintro e w1 ⟨rfl, hb1⟩
      have hb01 : Below w.heap.size w w1 := ((Below.refl _ _).alloc (Nat.le_refl _) _).trans (hb1.mono (by simp))
      clear hb1
      go_wp2
      go_ret2
      exact ⟨rfl, hb01⟩
    · have HF := (show Hid _ from hf)
      clear hf
      go_enter Tryz.func37, Tryz.ntmps37
      go_wp2_with fail
      refine (rnumber_no _ _ H2.out).mono ?_
      rintro e w' ⟨rfl, hw'⟩
      have hw2 := hw'.symm
      clear hw'
      subst hw2
      go_wp2_with fail
      refine (rframe_no _ _ _ _ _ _ _ _ hn HF.out).mono ?_
      rintro e w1 ⟨rfl, hb1⟩
      have hb01 : Below w.heap.size w w1 := ((Below.refl _ _).alloc (Nat.le_refl _) _).trans (hb1.mono (by simp))
      clear hb1
      go_wp2
      go_ret2
      exact ⟨rfl, hb01⟩
end Go.Proofs.YtloaefcgcniacaaGreatDoor
