import Derived.Test.YtloaefcgcniacaaGreatDoorBd
namespace Go.Proofs.YtloaefcgcniacaaGreatDoor
open Go.RowKit
set_option linter.unusedVariables false

set_option maxHeartbeats 400000 in
theorem sstream_no (key ep sq n : Int) (w : World) (h : ¬ (0 ≤ key ∧ key ≤ 4294967295 ∧ 0 ≤ ep ∧ ep ≤ 4294967295 ∧ 0 ≤ sq ∧ sq ≤ 4294967295 ∧ 0 ≤ n ∧ n ≤ 200)) :
    Calls Tryz.prog 82 #[.int .i64 key, .int .i64 ep, .int .i64 sq, .int .i64 n] w fun e w' => e = .returned (.tuple #[.slice none 0 0, .int .i64 1]) ∧ w' = w := by
  by_cases h1 : 0 ≤ key ∧ key ≤ 4294967295
  · by_cases h2 : 0 ≤ ep ∧ ep ≤ 4294967295
    · by_cases h3 : 0 ≤ sq ∧ sq ≤ 4294967295
      · by_cases h4 : n < 0
        · go_enter Tryz.func82, Tryz.ntmps82
          go_wp2_with (go_at_call 68; refine (isNumber_yes _ _ (by omega) (by omega)).mono ?_; rintro e w' ⟨rfl, hw'⟩; have hw2 := hw'.symm; clear hw'; subst hw2)
          go_ret2
          exact ⟨rfl, rfl⟩
        · have h5 : 200 < n := by omega
          go_enter Tryz.func82, Tryz.ntmps82
          go_wp2_with (go_at_call 68; refine (isNumber_yes _ _ (by omega) (by omega)).mono ?_; rintro e w' ⟨rfl, hw'⟩; have hw2 := hw'.symm; clear hw'; subst hw2)
          go_ret2
          exact ⟨rfl, rfl⟩
      · go_enter Tryz.func82, Tryz.ntmps82
        go_wp2_with fail
        refine (isNumber_yes _ _ (by omega) (by omega)).mono ?_
        rintro e w1 ⟨rfl, rfl⟩
        go_wp2_with fail
        refine (isNumber_yes _ _ (by omega) (by omega)).mono ?_
        rintro e w1 ⟨rfl, rfl⟩
        go_wp2_with fail
        refine (isNumber_no _ _ (by omega)).mono ?_
        rintro e w1 ⟨rfl, rfl⟩
        go_wp2
        go_ret2
        exact ⟨rfl, rfl⟩
    · go_enter Tryz.func82, Tryz.ntmps82
      go_wp2_with fail
      refine (isNumber_yes _ _ (by omega) (by omega)).mono ?_
      rintro e w1 ⟨rfl, rfl⟩
      go_wp2_with fail
      refine (isNumber_no _ _ (by omega)).mono ?_
      rintro e w1 ⟨rfl, rfl⟩
      go_wp2
      go_ret2
      exact ⟨rfl, rfl⟩
  · go_enter Tryz.func82, Tryz.ntmps82
    go_wp2_with fail
    refine (isNumber_no _ _ (by omega)).mono ?_
    rintro e w1 ⟨rfl, rfl⟩
    go_wp2
    go_ret2
    exact ⟨rfl, rfl⟩

set_option maxHeartbeats 400000 in
theorem num_any (k : Int) (w : World) : Calls Tryz.prog 42 #[.int .i64 k] w fun e w' => e = .returned (.int .i64 k) ∧ w' = w := by
  go_enter Tryz.func42, Tryz.ntmps42
  go_wp2
  go_ret
  exact ⟨rfl, rfl⟩

set_option maxHeartbeats 1000000 in
set_option maxRecDepth 100000 in
theorem frames_stream (base WB N : Nat) (a b c d e0 : Int) (s : ByteArray) (w : World) (hN : N < 1000000) (hB : Books w base WB N) :
    Calls Tryz.prog 38 #[.pointer (some ⟨WB, 0, none⟩), .agg #[.int .i64 1, .int .i64 a, .int .i64 b, .int .i64 c, .int .i64 d, .int .i64 e0, .string s]] w fun e w' => e = .returned (.bool true) ∧ Books w' base WB (N + 1) ∧ Below base w w' ∧ Keeps w w' := by
  have hwb := hB.wb
  by_cases h : 0 ≤ a ∧ a ≤ 4294967295 ∧ 0 ≤ b ∧ b ≤ 4294967295 ∧ 0 ≤ c ∧ c ≤ 4294967295 ∧ 0 ≤ d ∧ d ≤ 200
  · have HH := (show Hid _ from h)
    clear h
    have hbx : Below w.heap.size w (w.alloc (Obj.cells #[.int .i64 1, .int .i64 a, .int .i64 b, .int .i64 c, .int .i64 d, .int .i64 e0, .string s] 56)) := (Below.refl _ _).alloc (Nat.le_refl _) _
    go_enter Tryz.func38, Tryz.ntmps38
    go_wp2_with fail
    refine (sstream_ok _ _ _ _ _ HH.out.1 HH.out.2.1 HH.out.2.2.1 HH.out.2.2.2.1 HH.out.2.2.2.2.1 HH.out.2.2.2.2.2.1 HH.out.2.2.2.2.2.2.1 HH.out.2.2.2.2.2.2.2).mono ?_
    rintro e w1 ⟨g1, rfl, hg1, hB1, hb1⟩
    obtain ⟨hcc, _⟩ := bcell hb1
    simp only [World.size_alloc] at hg1
    go_wp2_with fail
    clear hcc
    refine (rstream_ok _ _ _ _ _ HH.out.1 HH.out.2.1 HH.out.2.2.1 HH.out.2.2.2.1 HH.out.2.2.2.2.1 HH.out.2.2.2.2.2.1 HH.out.2.2.2.2.2.2.1 HH.out.2.2.2.2.2.2.2).mono ?_
    rintro e w2 ⟨g2, rfl, hg2, hB2, hb2⟩
    have hz1 := hb1.size
    simp only [World.size_alloc] at hz1
    have hz2 := hb2.size
    have hg1z := hB1.lt
    have hB12 := hB1.below hb2 hg1z
    obtain ⟨n, hn⟩ := Int.eq_ofNat_of_zero_le HH.out.2.2.2.2.2.2.1
    have hn2 : n ≤ 200 := by have := HH.out.2.2.2.2.2.2.2; omega
    have hdn : d.toNat = n := by omega
    rw [hdn] at hB12 hB2 ⊢
    clear hn hdn
    have hlen : (Lbx.strm a.toNat b.toNat c.toNat n).length = n := Lbx.strm_length _ _ _ _
    have hs1 := run_str w2 g1 0 n n _ hlen hB12.rd
    have hs2 := run_str w2 g2 0 n n _ hlen hB2.rd
    have hnil := fun w : World => Lib.run_eql_slice_nil (P := Tryz.prog) w 66 5 (some ⟨g1, 0, none⟩) n n 0 0 Tryz.underlying66
    have hb02 : Below w.heap.size w w2 := hbx.trans ((hb1.mono (by simp)).trans (hb2.mono (by omega)))
    have hF : FullB w2 (some ⟨g1, 0, none⟩) n (Lbx.strm a.toNat b.toNat c.toNat n) := .inr ⟨g1, rfl, hlen.symm, hB12⟩
    have HF := (show Hid _ from hF)
    have HLN := (show Hid _ from hlen)
    clear hb1 hb2 hB1 hB2 hB12 hbx hF hlen
    have hlt := Lbx.strm_lt a.toNat b.toNat c.toNat n
    generalize Lbx.strm a.toNat b.toNat c.toNat n = L at *
    go_wp2_with (go_at_call 42; refine (num_any _ _).mono ?_; rintro e w' ⟨rfl, hw'⟩; have hw2 := hw'.symm; clear hw'; subst hw2)
    refine (keep_any base WB N n _ L w _ hN (by omega) hB hb02 HF.out hlt (by intro x hx; cases hx; show w.heap.size ≤ g1; omega)).mono ?_
    rintro e w3 ⟨rfl, hB3, hb3, hk3⟩
    go_wp2
    go_ret
    exact ⟨ret_bool (by simp), hB3, (hb02.mono (by omega)).trans hb3, (Keeps.of_below hb02).trans hk3⟩
  · have HH := (show Hid _ from h)
    clear h
    have hbx : Below w.heap.size w (w.alloc (Obj.cells #[.int .i64 1, .int .i64 a, .int .i64 b, .int .i64 c, .int .i64 d, .int .i64 e0, .string s] 56)) := (Below.refl _ _).alloc (Nat.le_refl _) _
    have hs1 := fun w : World => run_convert_bytes_nil (P := Tryz.prog) w 66 5 Tryz.underlying66 Tryz.underlying5 0 0 9 Tryz.underlying9
    have hnil := fun w : World => Lib.run_eql_slice_nil (P := Tryz.prog) w 66 5 none 0 0 0 0 Tryz.underlying66
    go_enter Tryz.func38, Tryz.ntmps38
    go_wp2_with fail
    refine (sstream_no _ _ _ _ _ HH.out).mono ?_
    rintro e w1 ⟨rfl, hw'⟩
    have hw2 := hw'.symm
    clear hw'
    subst hw2
    go_wp2_with fail
    refine (rstream_no _ _ _ _ _ HH.out).mono ?_
    rintro e w1 ⟨rfl, hw'⟩
    have hw2 := hw'.symm
    clear hw'
    subst hw2
    go_wp2_with (go_at_call 42; refine (num_any _ _).mono ?_; rintro e w' ⟨rfl, hw'⟩; have hw2 := hw'.symm; clear hw'; subst hw2)
    refine (keep_any base WB N 0 none [] w _ hN (by omega) hB hbx (.inl ⟨rfl, rfl, rfl⟩) (by simp) (by intro x hx; cases hx)).mono ?_
    rintro e w3 ⟨rfl, hB3, hb3, hk3⟩
    go_wp2
    go_ret
    exact ⟨rfl, hB3, (hbx.mono (by omega)).trans hb3, (Keeps.of_below hbx).trans hk3⟩
end Go.Proofs.YtloaefcgcniacaaGreatDoor
