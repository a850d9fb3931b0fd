import Derived.Test.YtloaefcgcniacaaGreatDoorLa
namespace Go.Proofs.YtloaefcgcniacaaGreatDoor
open Go.RowKit
set_option linter.unusedVariables false

theorem mZo_eq {f s z : Nat} (hs : 1 ≤ s) (h1 : s * z < f + s) (h2 : f ≤ s * z) : z = mZo f s := by
  unfold mZo
  apply Eq.symm
  apply Nat.div_eq_of_lt_le
  · rw [Nat.mul_comm]; omega
  · rw [Nat.mul_comm, Nat.mul_add, Nat.mul_one]; omega

set_option maxHeartbeats 1000000 in
theorem rleast_ok (a b : Int) (w : World) (h : lstOK a b) : Calls Tryz.prog 41 #[.int .i64 a, .int .i64 b] w fun e w' => e = .returned (.tuple #[.int .i64 ((lst a.toNat b.toNat : Nat) : Int), .int .i64 0]) ∧ w' = w := by
  obtain ⟨⟨h1, h2⟩, h3, h4⟩ := h
  obtain ⟨s, rfl⟩ := Int.eq_ofNat_of_zero_le (show 0 ≤ a by omega)
  obtain ⟨c, rfl⟩ := Int.eq_ofNat_of_zero_le (show 0 ≤ b by omega)
  go_enter Tryz.func41, Tryz.ntmps41
  go_wp2
  go_loop [6, 7] (fun x i => ∃ k : Nat, 4 * k < c + 4 ∧ i = .int .i64 ((4 * k : Nat) : Int) ∧ x = .int .i64 ((c + 1 + k : Nat) : Int)) (fun _ i => c + 4 - (intOf i).toNat)
  case atStart => exact ⟨0, by omega, rfl, rfl⟩
  case round =>
    obtain ⟨k, hk, rfl, rfl⟩ := hrel
    by_cases hlt : 4 * k < c
    · have hlti : ((4 * k : Nat) : Int) < (c : Int) := by omega
      go_wp2
      go_round
      case rel => exact ⟨k + 1, by omega, by go_num, by go_num⟩
      case measure => simp [intOf]; omega
    · have hlti : ¬ ((4 * k : Nat) : Int) < (c : Int) := by omega
      have hkf : c + 1 + k = kFr c := by unfold kFr; omega
      rw [hkf]
      have hle := kFr_le c (by omega)
      generalize hf : kFr c = f at *
      go_wp2
      go_loop [8, 9] (fun z r => ∃ m : Nat, s * m < f + s ∧ z = .int .i64 (m : Int) ∧ r = .int .i64 ((s * m : Nat) : Int)) (fun _ r => f + s - (intOf r).toNat)
      case atStart => exact ⟨0, by omega, rfl, rfl⟩
      case round =>
        obtain ⟨m, hm, rfl, rfl⟩ := hrel
        have hmm : m ≤ s * m := Nat.le_mul_of_pos_left m (by omega)
        have hs1 : s * (m + 1) = s * m + s := by rw [Nat.mul_add, Nat.mul_one]
        by_cases hlm : s * m < f
        · have hlmi : ((s * m : Nat) : Int) < (f : Int) := by omega
          generalize hq : s * m = q at *
          go_wp2
          go_round
          case rel => exact ⟨m + 1, by omega, by go_num, by rw [hs1]; go_num⟩
          case measure => simp [intOf]; omega
        · have hlmi : ¬ ((s * m : Nat) : Int) < (f : Int) := by omega
          have HZ : Hid (m = mZo f s) := mZo_eq (f := f) (s := s) (z := m) (by omega) hm (by omega)
          generalize hq : s * m = q at *
          go_wp2
          go_ret2
          refine ⟨?_, rfl⟩
          have e : lst ((s : Int).toNat) ((c : Int).toNat) = 2 * m + 1 := by unfold lst; rw [Int.toNat_natCast, Int.toNat_natCast, hf, ← HZ.out]
          have e2 : ((lst ((s : Int).toNat) ((c : Int).toNat) : Nat) : Int) = (m : Int) + m + 1 := by rw [e]; omega
          show Ending.returned (Value.tuple #[Value.int IntKind.i64 ((m : Int) + m + 1), Value.int IntKind.i64 0]) = _
          rw [← e2]
          rfl

set_option maxHeartbeats 1000000 in
theorem rleast_no (a b : Int) (w : World) (h : ¬ lstOK a b) : Calls Tryz.prog 41 #[.int .i64 a, .int .i64 b] w fun e w' => e = .returned (.tuple #[.int .i64 0, .int .i64 1]) ∧ w' = w := by
  have hd : (decide (a < 1) || decide (32 < a) || decide (b < 1) || decide (16 < b)) = true := by
    unfold lstOK at h
    simp only [Bool.or_eq_true, decide_eq_true_eq]
    omega
  clear h
  by_cases q1 : a < 1
  · go_enter Tryz.func41, Tryz.ntmps41
    go_wp2
    go_ret2
    exact ⟨rfl, rfl⟩
  · by_cases q2 : 32 < a
    · go_enter Tryz.func41, Tryz.ntmps41
      go_wp2
      go_ret2
      exact ⟨rfl, rfl⟩
    · by_cases q3 : b < 1
      · go_enter Tryz.func41, Tryz.ntmps41
        go_wp2
        go_ret2
        exact ⟨rfl, rfl⟩
      · have q4 : 16 < b := by simp only [Bool.or_eq_true, decide_eq_true_eq] at hd; omega
        go_enter Tryz.func41, Tryz.ntmps41
        go_wp2
        go_ret2
        exact ⟨rfl, rfl⟩

/-- A step of the kind Least: true, and nothing but new blocks. -/
theorem step_least (WB : Nat) (a b c d e0 : Int) (s : ByteArray) (w : World) :
    Calls Tryz.prog 17 #[.pointer (some ⟨WB, 0, none⟩), .agg #[.int .i64 13, .int .i64 a, .int .i64 b, .int .i64 c, .int .i64 d, .int .i64 e0, .string s]] w fun e w' => e = .returned (.bool true) ∧ Below w.heap.size w w' := by
  have hbx : Below w.heap.size w (w.alloc (Obj.cells #[.int .i64 13, .int .i64 a, .int .i64 b, .int .i64 c, .int .i64 d, .int .i64 e0, .string s] 56)) := (Below.refl _ _).alloc (Nat.le_refl _) _
  by_cases h : lstOK a b
  · have HH := (show Hid _ from h)
    clear h
    go_enter Tryz.func17, Tryz.ntmps17
    go_wp2_with (first
      | (go_at_call 40; refine (sleast_ok _ _ _ HH.out).mono ?_; rintro e w' ⟨rfl, rfl⟩)
      | (go_at_call 41; refine (rleast_ok _ _ _ HH.out).mono ?_; rintro e w' ⟨rfl, rfl⟩)
      | (go_at_call 42; refine (num_any _ _).mono ?_; rintro e w' ⟨rfl, rfl⟩))
    go_ret
    exact ⟨rfl, hbx⟩
  · have HH := (show Hid _ from h)
    clear h
    go_enter Tryz.func17, Tryz.ntmps17
    go_wp2_with (first
      | (go_at_call 40; refine (sleast_no _ _ _ HH.out).mono ?_; rintro e w' ⟨rfl, rfl⟩)
      | (go_at_call 41; refine (rleast_no _ _ _ HH.out).mono ?_; rintro e w' ⟨rfl, rfl⟩)
      | (go_at_call 42; refine (num_any _ _).mono ?_; rintro e w' ⟨rfl, rfl⟩))
    go_ret
    exact ⟨rfl, hbx⟩
end Go.Proofs.YtloaefcgcniacaaGreatDoor
