import Derived.Test.YtloaefcgcniacaaGreatDoorFd
namespace Go.Proofs.YtloaefcgcniacaaGreatDoor
open Go.RowKit
set_option linter.unusedVariables false

set_option maxRecDepth 100000 in
set_option maxHeartbeats 2000000 in
theorem frames_seal_no (base WB N : Nat) (key D I E S : Int) (s : ByteArray) (w : World) (hN : N < 1000000) (hB : Books w base WB N) (hs : s.size ≤ 2000000) (hno : ¬ (0 ≤ key ∧ key ≤ 4294967295 ∧ FrameOK D I E S s.size)) :
    Calls Tryz.prog 38 #[.pointer (some ⟨WB, 0, none⟩), .agg #[.int .i64 2, .int .i64 key, .int .i64 D, .int .i64 I, .int .i64 E, .int .i64 S, .string s]] w fun e w' => e = .returned (.bool true) ∧ Books w' base WB (N + 1) ∧ Below base w w' ∧ Keeps w w' := by
  have hwb := hB.wb
  have HNo := (show Hid _ from hno)
  clear hno
  have hbox := box_new w 2 key D I E S s
  have hbx : Below w.heap.size w (w.alloc (Obj.cells #[.int .i64 2, .int .i64 key, .int .i64 D, .int .i64 I, .int .i64 E, .int .i64 S, .string s] 56)) := (Below.refl _ _).alloc (Nat.le_refl _) _
  go_enter Tryz.func38, Tryz.ntmps38
  go_wp2_with fail
  refine (lent_any s _ (by omega)).mono ?_
  rintro e w1 ⟨rfl, hL1, hb1⟩
  simp only [World.size_alloc] at hL1 hb1 ⊢
  have hz1 := hb1.size
  simp only [World.size_alloc] at hz1
  have hbox1 := hbox.below hb1 (by omega)
  have hb01 : Below w.heap.size w w1 := hbx.trans (hb1.mono (by omega))
  obtain ⟨c0, c1, c2, c3, c4, c5, c6⟩ := hbox1.cells
  have hlt1 := hL1.lt
  go_wp2_with fail
  refine (sseal_no key D I E S _ s.size _ w1 (by omega) HNo.out).mono ?_
  rintro e w2 ⟨rfl, hb2⟩
  have hz2 := hb2.size
  have hbox2 := hbox1.below hb2 (by omega)
  have hL2 := hL1.below hb2 hlt1
  obtain ⟨d0, d1, d2, d3, d4, d5, d6⟩ := hbox2.cells
  clear c0 c1 c2 c3 c4 c5 c6
  have hby := run_bytes s w2
  have hb3 := bytes_below s w2
  generalize Lib.bytesWorld w2 5 s = W3 at *
  generalize grownCap w2 s.size 0 5 = cp3 at *
  have hz3 := hb3.size
  go_wp2_with fail
  clear d0 d1 d2 d3 d4 d5 d6
  refine (rseal_no key D I E S _ s.size cp3 W3 (by omega) HNo.out).mono ?_
  rintro e w4 ⟨rfl, hb4⟩
  have hz4 := hb4.size
  have hb24 : Below w2.heap.size w2 w4 := hb3.trans (hb4.mono hz3)
  have hL4 := hL2.below hb24 (by omega)
  have hbox4 := hbox2.below hb24 (by omega)
  have hs1 := fun w : World => run_convert_bytes_nil (P := Tryz.prog) w 66 5 Tryz.underlying66 Tryz.underlying5 0 0 9 Tryz.underlying9
  have hnil := fun w : World => Lib.run_eql_slice_nil (P := Tryz.prog) w 66 5 none 0 0 0 0 Tryz.underlying66
  have hb04 : Below w.heap.size w w4 := hb01.trans ((hb2.mono (by omega)).trans (hb24.mono (by omega)))
  clear hL1 hL2 hbox hbox1 hbox2 hb3 hb4 hb2 hb24 hby hbx hb1
  go_wp2_with (go_at_call 42; refine (num_any _ _).mono ?_; rintro e w' ⟨rfl, hw'⟩; have hw2 := hw'.symm; clear hw'; subst hw2)
  refine (keep_any2 base WB N 0 none [] w w4 hN (by omega) hB hb04 (.inl ⟨rfl, rfl, rfl⟩) (by simp) (by intro x hx; cases hx) (w.heap.size + 1) (by omega) (by omega) (by intro a ha; cases ha) ⟨_, _, hL4⟩).mono ?_
  rintro e w5 ⟨rfl, hB5, hb5, hk5, hx5⟩
  have hL5 : Blk w5 (w.heap.size + 1) (lentL s) := hx5.trans hL4
  have hbox5 := hbox4.keep hk5
  obtain ⟨f0, f1, f2, f3, f4, f5, f6⟩ := hbox5.cells
  go_wp2_with fail
  clear f0 f1 f2 f3 f4 f5 f6
  refine (back_any (w.heap.size + 1) s w5 (by omega) hL5).mono ?_
  rintro e w6 ⟨rfl, hg6, hz6, l6, hL6⟩
  have hB6 : Books w6 base WB (N + 1) := hB5 w6 (fun k hk => by
    by_cases hkz : k < w5.heap.size
    · exact hg6.block k hkz (fun e => hk (by cases e; rfl))
    · rw [Array.getElem?_eq_none (by omega), Array.getElem?_eq_none (by omega)])
  go_wp2
  go_ret
  refine ⟨ret_bool (by simp), hB6, (hb04.mono (by omega)).trans (hb5.trans ((Below.refl _ _).grown hg6 (by have := hb5.size; omega) (fun k e => by cases e; omega))), ((Keeps.of_below hb04).trans hk5).trans ?_⟩
  intro k cur t fz t5 t68 t47 h1
  have hkz : k < w5.heap.size := (Array.getElem?_eq_some_iff.1 h1).1
  rw [hg6.block k hkz ?_, h1]
  intro e
  cases e
  unfold Blk at hL5
  rw [h1] at hL5
  cases hL5
  exact t5 rfl

theorem frames_seal (base WB N : Nat) (key D I E S : Int) (s : ByteArray) (w : World) (hN : N < 1000000) (hB : Books w base WB N) (hs : s.size ≤ 2000000) :
    Calls Tryz.prog 38 #[.pointer (some ⟨WB, 0, none⟩), .agg #[.int .i64 2, .int .i64 key, .int .i64 D, .int .i64 I, .int .i64 E, .int .i64 S, .string s]] w fun e w' => e = .returned (.bool true) ∧ Books w' base WB (N + 1) ∧ Below base w w' ∧ Keeps w w' := by
  by_cases h : 0 ≤ key ∧ key ≤ 4294967295 ∧ FrameOK D I E S s.size
  · obtain ⟨h1, h2, f1, f2, f3, f4, f5, f6, f7, f8, f9⟩ := h
    obtain ⟨D', rfl⟩ := Int.eq_ofNat_of_zero_le (show 0 ≤ D by omega)
    obtain ⟨I', rfl⟩ := Int.eq_ofNat_of_zero_le f3
    obtain ⟨E', rfl⟩ := Int.eq_ofNat_of_zero_le f5
    obtain ⟨S', rfl⟩ := Int.eq_ofNat_of_zero_le f7
    exact frames_seal_ok base WB N D' I' E' S' key s w hN hB f9 ⟨h1, h2⟩ ⟨by omega, by omega, by omega, by omega, by omega⟩
  · exact frames_seal_no base WB N key D I E S s w hN hB hs h
end Go.Proofs.YtloaefcgcniacaaGreatDoor
