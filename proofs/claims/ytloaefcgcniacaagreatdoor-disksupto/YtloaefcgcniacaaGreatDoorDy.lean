import Derived.Test.YtloaefcgcniacaaGreatDoorDv
namespace Go.Proofs.YtloaefcgcniacaaGreatDoor
open Go.RowKit
set_option linter.unusedVariables false

set_option maxRecDepth 20000 in
set_option maxHeartbeats 1000000 in
theorem dAppend_no1 (x g gz : Nat) (sl lf ca wr cn : Int) (z : Int) (bd lg : Value) (zs : List (Value × Int)) (p : Option Addr) (n c : Nat) (w : World) (hx : DkAt w x g) (h : StAt w g sl lf ca wr (.slice (some ⟨gz, 0, none⟩) zs.length zs.length) cn bd lg) (hz : ZAt w gz zs) (hlf : lf ≠ 0) (hf : fits lf) (hca : small ca) (hwr : small wr) (hno : ¬ (0 ≤ z ∧ z < (zs.length : Int))) :
    Calls Tryz.prog 144 #[.pointer (some ⟨x, 0, none⟩), .int .i64 z, .slice p n c] w fun e w' => e = .returned (.tuple #[.int .i64 0, .bool false]) ∧ Chg w w' (fun k => k = g) ∧ StAt w' g sl (less lf) (ca + 1) (wr + 1) (.slice (some ⟨gz, 0, none⟩) zs.length zs.length) cn bd lg := by
  have k0 := hx.cell0
  have HF := (show Hid _ from hf)
  have HC := (show Hid _ from hca)
  have HW := (show Hid _ from hwr)
  have hgz := st_z_ne h hz
  have HD : Hid (StAt w.drew g sl lf ca wr (.slice (some ⟨gz, 0, none⟩) zs.length zs.length) cn bd lg) := h
  clear h hx hf hca hwr
  go_enter Tryz.func144, Tryz.ntmps144
  go_wp2_with fail
  refine wp_region_any rfl ?_
  refine wpAny_forced 0 (by kernel_rfl) ?_
  refine .inl ?_
  go_simp
  refine wpAny_forced 1 (by kernel_rfl) ?_
  refine .inl ?_
  go_simp
  refine (goes_on g sl lf ca wr cn _ bd lg _ HD.out hlf HF.out HC.out).mono ?_
  rintro e w1 ⟨rfl, hS1, ho1⟩
  simp only []
  have hhb : hasB z zs.length = false := decide_eq_false hno
  have hasC := has_any g sl (less lf) (ca + 1) wr cn z _ _ _ bd lg w1 hS1
  rw [hhb] at hasC
  go_simp
  refine wpAny_forced 2 (by kernel_rfl) ?_
  refine .inl ?_
  go_simp
  refine wpAny_forced 3 (by kernel_rfl) ?_
  refine .inl ?_
  go_simp
  refine wpAny_cut_held (S := fun w' => w' = w1) 29 25 (by decide) (by kernel_rfl) (by kernel_rfl) (by kernel_rfl) (by kernel_rfl) ?inv rfl rfl ?_
  case inv => exact headPut 3 (headPut 2 (headPut 1 (headPut 0 (headInv0 29) (by kernel_rfl) (by decide)) (by kernel_rfl) (by decide)) (by kernel_rfl) (by decide)) (by kernel_rfl) (by decide)
  simp only [List.take_succ_cons, List.take_zero, List.drop_succ_cons, List.drop_zero]
  refine held_take (i := 4) (v := ?v4) rfl (by kernel_rfl) (by kernel_rfl) (by kernel_rfl) (fun _ _ _ h => h) (Or.inl ⟨by rfl, ?hy4⟩) rfl ?rest4
  case hy4 => (intro w' hSw; (try dsimp only at hSw); subst hSw; go_simp; try with_reducible rfl)
  simp only [Act.put, List.setIfInBounds_toArray, List.set_cons_zero, List.set_cons_succ]
  refine held_take (i := 5) (v := ?v5) rfl (by kernel_rfl) (by kernel_rfl) (by kernel_rfl) (fun _ _ _ h => h) (Or.inl ⟨by rfl, ?hy5⟩) rfl ?rest5
  case hy5 => (intro w' hSw; (try dsimp only at hSw); subst hSw; go_simp; try with_reducible rfl)
  simp only [Act.put, List.setIfInBounds_toArray, List.set_cons_zero, List.set_cons_succ]
  refine held_take (i := 6) (v := ?v6) rfl (by kernel_rfl) (by kernel_rfl) (by kernel_rfl) (fun _ _ _ h => h) (Or.inl ⟨by rfl, ?hy6⟩) rfl ?rest6
  case hy6 => (intro w' hSw; (try dsimp only at hSw); subst hSw; go_simp; try with_reducible rfl)
  simp only [Act.put, List.setIfInBounds_toArray, List.set_cons_zero, List.set_cons_succ]
  refine held_one (i := 7) rfl (by kernel_rfl) (fun K hK => ?_)
  go_simp
  refine hasC.mono ?_
  rintro e w' ⟨rfl, hw'⟩
  refine hK.out _ _ hw' (fun hHeld => ?_)
  clear hK K hHeld
  have hw2 := hw'.symm
  clear hw'
  subst hw2
  refine held_take (i := 8) (v := ?v8) rfl (by kernel_rfl) (by kernel_rfl) (by kernel_rfl) (fun _ _ _ h => h) (Or.inl ⟨by rfl, ?hy8⟩) rfl ?rest8
  case hy8 => (intro w' hSw; (try dsimp only at hSw); subst hSw; go_simp; try with_reducible rfl)
  simp only [Act.put, List.setIfInBounds_toArray, List.set_cons_zero, List.set_cons_succ]
  refine held_skip (i := 9) rfl (by kernel_rfl) (by kernel_rfl) (by kernel_rfl) (fun _ _ _ h => h) (by rfl) rfl ?_
  simp only [Act.put, List.setIfInBounds_toArray, List.set_cons_zero, List.set_cons_succ]
  refine held_skip (i := 10) rfl (by kernel_rfl) (by kernel_rfl) (by kernel_rfl) (fun _ _ _ h => h) (by rfl) rfl ?_
  simp only [Act.put, List.setIfInBounds_toArray, List.set_cons_zero, List.set_cons_succ]
  refine held_skip (i := 11) rfl (by kernel_rfl) (by kernel_rfl) (by kernel_rfl) (fun _ _ _ h => h) (by rfl) rfl ?_
  simp only [Act.put, List.setIfInBounds_toArray, List.set_cons_zero, List.set_cons_succ]
  refine held_take (i := 12) (v := ?v12) rfl (by kernel_rfl) (by kernel_rfl) (by kernel_rfl) (fun _ _ _ h => h) (Or.inl ⟨by rfl, ?hy12⟩) rfl ?rest12
  case hy12 => (intro w' hSw; (try dsimp only at hSw); subst hSw; go_simp; try with_reducible rfl)
  simp only [Act.put, List.setIfInBounds_toArray, List.set_cons_zero, List.set_cons_succ]
  refine held_take (i := 13) (v := ?v13) rfl (by kernel_rfl) (by kernel_rfl) (by kernel_rfl) (fun _ _ _ h => h) (Or.inl ⟨by rfl, ?hy13⟩) rfl ?rest13
  case hy13 => (intro w' hSw; (try dsimp only at hSw); subst hSw; go_simp; try with_reducible rfl)
  simp only [Act.put, List.setIfInBounds_toArray, List.set_cons_zero, List.set_cons_succ]
  refine held_skip (i := 14) rfl (by kernel_rfl) (by kernel_rfl) (by kernel_rfl) (fun _ _ _ h => h) (by rfl) rfl ?_
  simp only [Act.put, List.setIfInBounds_toArray, List.set_cons_zero, List.set_cons_succ]
  refine held_skip (i := 15) rfl (by kernel_rfl) (by kernel_rfl) (by kernel_rfl) (fun _ _ _ h => h) (by rfl) rfl ?_
  simp only [Act.put, List.setIfInBounds_toArray, List.set_cons_zero, List.set_cons_succ]
  refine held_skip (i := 16) rfl (by kernel_rfl) (by kernel_rfl) (by kernel_rfl) (fun _ _ _ h => h) (by rfl) rfl ?_
  simp only [Act.put, List.setIfInBounds_toArray, List.set_cons_zero, List.set_cons_succ]
  refine held_skip (i := 17) rfl (by kernel_rfl) (by kernel_rfl) (by kernel_rfl) (fun _ _ _ h => h) (by rfl) rfl ?_
  simp only [Act.put, List.setIfInBounds_toArray, List.set_cons_zero, List.set_cons_succ]
  refine held_skip (i := 18) rfl (by kernel_rfl) (by kernel_rfl) (by kernel_rfl) (fun _ _ _ h => h) (by rfl) rfl ?_
  simp only [Act.put, List.setIfInBounds_toArray, List.set_cons_zero, List.set_cons_succ]
  refine held_skip (i := 19) rfl (by kernel_rfl) (by kernel_rfl) (by kernel_rfl) (fun _ _ _ h => h) (by rfl) rfl ?_
  simp only [Act.put, List.setIfInBounds_toArray, List.set_cons_zero, List.set_cons_succ]
  refine held_skip (i := 20) rfl (by kernel_rfl) (by kernel_rfl) (by kernel_rfl) (fun _ _ _ h => h) (by rfl) rfl ?_
  simp only [Act.put, List.setIfInBounds_toArray, List.set_cons_zero, List.set_cons_succ]
  refine held_skip (i := 21) rfl (by kernel_rfl) (by kernel_rfl) (by kernel_rfl) (fun _ _ _ h => h) (by rfl) rfl ?_
  simp only [Act.put, List.setIfInBounds_toArray, List.set_cons_zero, List.set_cons_succ]
  refine held_skip (i := 22) rfl (by kernel_rfl) (by kernel_rfl) (by kernel_rfl) (fun _ _ _ h => h) (by rfl) rfl ?_
  simp only [Act.put, List.setIfInBounds_toArray, List.set_cons_zero, List.set_cons_succ]
  refine held_skip (i := 23) rfl (by kernel_rfl) (by kernel_rfl) (by kernel_rfl) (fun _ _ _ h => h) (by rfl) rfl ?_
  simp only [Act.put, List.setIfInBounds_toArray, List.set_cons_zero, List.set_cons_succ]
  refine held_skip (i := 24) rfl (by kernel_rfl) (by kernel_rfl) (by kernel_rfl) (fun _ _ _ h => h) (by rfl) rfl ?_
  simp only [Act.put, List.setIfInBounds_toArray, List.set_cons_zero, List.set_cons_succ]
  refine held_skip (i := 25) rfl (by kernel_rfl) (by kernel_rfl) (by kernel_rfl) (fun _ _ _ h => h) (by rfl) rfl ?_
  simp only [Act.put, List.setIfInBounds_toArray, List.set_cons_zero, List.set_cons_succ]
  refine held_skip (i := 26) rfl (by kernel_rfl) (by kernel_rfl) (by kernel_rfl) (fun _ _ _ h => h) (by rfl) rfl ?_
  simp only [Act.put, List.setIfInBounds_toArray, List.set_cons_zero, List.set_cons_succ]
  refine held_skip (i := 27) rfl (by kernel_rfl) (by kernel_rfl) (by kernel_rfl) (fun _ _ _ h => h) (by rfl) rfl ?_
  simp only [Act.put, List.setIfInBounds_toArray, List.set_cons_zero, List.set_cons_succ]
  refine held_take (i := 28) (v := ?v28) rfl (by kernel_rfl) (by kernel_rfl) (by kernel_rfl) (fun _ _ _ h => h) (Or.inl ⟨by rfl, ?hy28⟩) rfl ?rest28
  case hy28 => (intro w' hSw; (try dsimp only at hSw); subst hSw; go_simp; try with_reducible rfl)
  simp only [Act.put, List.setIfInBounds_toArray, List.set_cons_zero, List.set_cons_succ]
  refine wpAnyH_done (by kernel_rfl) ?_ _
  show wpList Tryz.prog _ _ _ _ _
  go_wp2_with fail
  refine (may_no g sl (less lf) (ca + 1) wr cn _ bd lg w1 hS1 HW.out).mono ?_
  rintro e w2 ⟨rfl, hS2, ho2⟩
  have hc2 : Chg w w2 (fun k => k = g) := (((Chg.refl w _).drew).trans (Chg.of_only ho1) (fun _ _ h => h)).trans (Chg.of_only ho2) (fun _ _ h => h)
  go_wp2
  go_ret2
  exact ⟨rfl, hc2, hS2⟩

set_option maxRecDepth 20000 in
set_option maxHeartbeats 1000000 in
theorem dAppend_no2 (x g gz : Nat) (sl lf ca wr cn : Int) (z : Int) (bd lg : Value) (zs : List (Value × Int)) (p : Option Addr) (n c : Nat) (w : World) (hx : DkAt w x g) (h : StAt w g sl lf ca wr (.slice (some ⟨gz, 0, none⟩) zs.length zs.length) cn bd lg) (hz : ZAt w gz zs) (hlf : lf ≠ 0) (hf : fits lf) (hca : small ca) (hwr : small wr) (hin : 0 ≤ z ∧ z < (zs.length : Int)) (hno : n ≠ 58) :
    Calls Tryz.prog 144 #[.pointer (some ⟨x, 0, none⟩), .int .i64 z, .slice p n c] w fun e w' => e = .returned (.tuple #[.int .i64 0, .bool false]) ∧ Chg w w' (fun k => k = g) ∧ StAt w' g sl (less lf) (ca + 1) (wr + 1) (.slice (some ⟨gz, 0, none⟩) zs.length zs.length) cn bd lg := by
  have k0 := hx.cell0
  have HF := (show Hid _ from hf)
  have HC := (show Hid _ from hca)
  have HW := (show Hid _ from hwr)
  have hgz := st_z_ne h hz
  have HD : Hid (StAt w.drew g sl lf ca wr (.slice (some ⟨gz, 0, none⟩) zs.length zs.length) cn bd lg) := h
  clear h hx hf hca hwr
  go_enter Tryz.func144, Tryz.ntmps144
  go_wp2_with fail
  refine wp_region_any rfl ?_
  refine wpAny_forced 0 (by kernel_rfl) ?_
  refine .inl ?_
  go_simp
  refine wpAny_forced 1 (by kernel_rfl) ?_
  refine .inl ?_
  go_simp
  refine (goes_on g sl lf ca wr cn _ bd lg _ HD.out hlf HF.out HC.out).mono ?_
  rintro e w1 ⟨rfl, hS1, ho1⟩
  simp only []
  have hhb : hasB z zs.length = true := decide_eq_true hin
  have hasC := has_any g sl (less lf) (ca + 1) wr cn z _ _ _ bd lg w1 hS1
  rw [hhb] at hasC
  have hl58 : ((n : Int) == 58) = false := by rw [beq_eq_false_iff_ne]; omega
  go_simp
  refine wpAny_forced 2 (by kernel_rfl) ?_
  refine .inl ?_
  go_simp
  refine wpAny_forced 3 (by kernel_rfl) ?_
  refine .inl ?_
  go_simp
  refine wpAny_cut_held (S := fun w' => w' = w1) 29 25 (by decide) (by kernel_rfl) (by kernel_rfl) (by kernel_rfl) (by kernel_rfl) ?inv rfl rfl ?_
  case inv => exact headPut 3 (headPut 2 (headPut 1 (headPut 0 (headInv0 29) (by kernel_rfl) (by decide)) (by kernel_rfl) (by decide)) (by kernel_rfl) (by decide)) (by kernel_rfl) (by decide)
  simp only [List.take_succ_cons, List.take_zero, List.drop_succ_cons, List.drop_zero]
  refine held_take (i := 4) (v := ?v4) rfl (by kernel_rfl) (by kernel_rfl) (by kernel_rfl) (fun _ _ _ h => h) (Or.inl ⟨by rfl, ?hy4⟩) rfl ?rest4
  case hy4 => (intro w' hSw; (try dsimp only at hSw); subst hSw; go_simp; try with_reducible rfl)
  simp only [Act.put, List.setIfInBounds_toArray, List.set_cons_zero, List.set_cons_succ]
  refine held_take (i := 5) (v := ?v5) rfl (by kernel_rfl) (by kernel_rfl) (by kernel_rfl) (fun _ _ _ h => h) (Or.inl ⟨by rfl, ?hy5⟩) rfl ?rest5
  case hy5 => (intro w' hSw; (try dsimp only at hSw); subst hSw; go_simp; try with_reducible rfl)
  simp only [Act.put, List.setIfInBounds_toArray, List.set_cons_zero, List.set_cons_succ]
  refine held_take (i := 6) (v := ?v6) rfl (by kernel_rfl) (by kernel_rfl) (by kernel_rfl) (fun _ _ _ h => h) (Or.inl ⟨by rfl, ?hy6⟩) rfl ?rest6
  case hy6 => (intro w' hSw; (try dsimp only at hSw); subst hSw; go_simp; try with_reducible rfl)
  simp only [Act.put, List.setIfInBounds_toArray, List.set_cons_zero, List.set_cons_succ]
  refine held_one (i := 7) rfl (by kernel_rfl) (fun K hK => ?_)
  go_simp
  refine hasC.mono ?_
  rintro e w' ⟨rfl, hw'⟩
  refine hK.out _ _ hw' (fun hHeld => ?_)
  clear hK K hHeld
  have hw2 := hw'.symm
  clear hw'
  subst hw2
  refine held_take (i := 8) (v := ?v8) rfl (by kernel_rfl) (by kernel_rfl) (by kernel_rfl) (fun _ _ _ h => h) (Or.inl ⟨by rfl, ?hy8⟩) rfl ?rest8
  case hy8 => (intro w' hSw; (try dsimp only at hSw); subst hSw; go_simp; try with_reducible rfl)
  simp only [Act.put, List.setIfInBounds_toArray, List.set_cons_zero, List.set_cons_succ]
  refine held_take (i := 9) (v := ?v9) rfl (by kernel_rfl) (by kernel_rfl) (by kernel_rfl) (fun _ _ _ h => h) (Or.inl ⟨by rfl, ?hy9⟩) rfl ?rest9
  case hy9 => (intro w' hSw; (try dsimp only at hSw); subst hSw; go_simp; try with_reducible rfl)
  simp only [Act.put, List.setIfInBounds_toArray, List.set_cons_zero, List.set_cons_succ]
  refine held_take (i := 10) (v := ?v10) rfl (by kernel_rfl) (by kernel_rfl) (by kernel_rfl) (fun _ _ _ h => h) (Or.inl ⟨by rfl, ?hy10⟩) rfl ?rest10
  case hy10 => (intro w' hSw; (try dsimp only at hSw); subst hSw; go_simp; try with_reducible rfl)
  simp only [Act.put, List.setIfInBounds_toArray, List.set_cons_zero, List.set_cons_succ]
  refine held_take (i := 11) (v := ?v11) rfl (by kernel_rfl) (by kernel_rfl) (by kernel_rfl) (fun _ _ _ h => h) (Or.inl ⟨by rfl, ?hy11⟩) rfl ?rest11
  case hy11 => (intro w' hSw; (try dsimp only at hSw); subst hSw; go_simp; try with_reducible rfl)
  simp only [Act.put, List.setIfInBounds_toArray, List.set_cons_zero, List.set_cons_succ]
  refine held_take (i := 12) (v := ?v12) rfl (by kernel_rfl) (by kernel_rfl) (by kernel_rfl) (fun _ _ _ h => h) (Or.inl ⟨by rfl, ?hy12⟩) rfl ?rest12
  case hy12 => (intro w' hSw; (try dsimp only at hSw); subst hSw; go_simp; try with_reducible rfl)
  simp only [Act.put, List.setIfInBounds_toArray, List.set_cons_zero, List.set_cons_succ]
  refine held_take (i := 13) (v := ?v13) rfl (by kernel_rfl) (by kernel_rfl) (by kernel_rfl) (fun _ _ _ h => h) (Or.inl ⟨by rfl, ?hy13⟩) rfl ?rest13
  case hy13 => (intro w' hSw; (try dsimp only at hSw); subst hSw; go_simp; try with_reducible rfl)
  simp only [Act.put, List.setIfInBounds_toArray, List.set_cons_zero, List.set_cons_succ]
  refine held_skip (i := 14) rfl (by kernel_rfl) (by kernel_rfl) (by kernel_rfl) (fun _ _ _ h => h) (by rfl) rfl ?_
  simp only [Act.put, List.setIfInBounds_toArray, List.set_cons_zero, List.set_cons_succ]
  refine held_skip (i := 15) rfl (by kernel_rfl) (by kernel_rfl) (by kernel_rfl) (fun _ _ _ h => h) (by rfl) rfl ?_
  simp only [Act.put, List.setIfInBounds_toArray, List.set_cons_zero, List.set_cons_succ]
  refine held_skip (i := 16) rfl (by kernel_rfl) (by kernel_rfl) (by kernel_rfl) (fun _ _ _ h => h) (by rfl) rfl ?_
  simp only [Act.put, List.setIfInBounds_toArray, List.set_cons_zero, List.set_cons_succ]
  refine held_skip (i := 17) rfl (by kernel_rfl) (by kernel_rfl) (by kernel_rfl) (fun _ _ _ h => h) (by rfl) rfl ?_
  simp only [Act.put, List.setIfInBounds_toArray, List.set_cons_zero, List.set_cons_succ]
  refine held_skip (i := 18) rfl (by kernel_rfl) (by kernel_rfl) (by kernel_rfl) (fun _ _ _ h => h) (by rfl) rfl ?_
  simp only [Act.put, List.setIfInBounds_toArray, List.set_cons_zero, List.set_cons_succ]
  refine held_skip (i := 19) rfl (by kernel_rfl) (by kernel_rfl) (by kernel_rfl) (fun _ _ _ h => h) (by rfl) rfl ?_
  simp only [Act.put, List.setIfInBounds_toArray, List.set_cons_zero, List.set_cons_succ]
  refine held_skip (i := 20) rfl (by kernel_rfl) (by kernel_rfl) (by kernel_rfl) (fun _ _ _ h => h) (by rfl) rfl ?_
  simp only [Act.put, List.setIfInBounds_toArray, List.set_cons_zero, List.set_cons_succ]
  refine held_skip (i := 21) rfl (by kernel_rfl) (by kernel_rfl) (by kernel_rfl) (fun _ _ _ h => h) (by rfl) rfl ?_
  simp only [Act.put, List.setIfInBounds_toArray, List.set_cons_zero, List.set_cons_succ]
  refine held_skip (i := 22) rfl (by kernel_rfl) (by kernel_rfl) (by kernel_rfl) (fun _ _ _ h => h) (by rfl) rfl ?_
  simp only [Act.put, List.setIfInBounds_toArray, List.set_cons_zero, List.set_cons_succ]
  refine held_skip (i := 23) rfl (by kernel_rfl) (by kernel_rfl) (by kernel_rfl) (fun _ _ _ h => h) (by rfl) rfl ?_
  simp only [Act.put, List.setIfInBounds_toArray, List.set_cons_zero, List.set_cons_succ]
  refine held_skip (i := 24) rfl (by kernel_rfl) (by kernel_rfl) (by kernel_rfl) (fun _ _ _ h => h) (by rfl) rfl ?_
  simp only [Act.put, List.setIfInBounds_toArray, List.set_cons_zero, List.set_cons_succ]
  refine held_skip (i := 25) rfl (by kernel_rfl) (by kernel_rfl) (by kernel_rfl) (fun _ _ _ h => h) (by rfl) rfl ?_
  simp only [Act.put, List.setIfInBounds_toArray, List.set_cons_zero, List.set_cons_succ]
  refine held_skip (i := 26) rfl (by kernel_rfl) (by kernel_rfl) (by kernel_rfl) (fun _ _ _ h => h) (by rfl) rfl ?_
  simp only [Act.put, List.setIfInBounds_toArray, List.set_cons_zero, List.set_cons_succ]
  refine held_skip (i := 27) rfl (by kernel_rfl) (by kernel_rfl) (by kernel_rfl) (fun _ _ _ h => h) (by rfl) rfl ?_
  simp only [Act.put, List.setIfInBounds_toArray, List.set_cons_zero, List.set_cons_succ]
  refine held_take (i := 28) (v := ?v28) rfl (by kernel_rfl) (by kernel_rfl) (by kernel_rfl) (fun _ _ _ h => h) (Or.inl ⟨by rfl, ?hy28⟩) rfl ?rest28
  case hy28 => (intro w' hSw; (try dsimp only at hSw); subst hSw; go_simp; try with_reducible rfl)
  simp only [Act.put, List.setIfInBounds_toArray, List.set_cons_zero, List.set_cons_succ]
  refine wpAnyH_done (by kernel_rfl) ?_ _
  show wpList Tryz.prog _ _ _ _ _
  go_wp2_with fail
  refine (may_no g sl (less lf) (ca + 1) wr cn _ bd lg w1 hS1 HW.out).mono ?_
  rintro e w2 ⟨rfl, hS2, ho2⟩
  have hc2 : Chg w w2 (fun k => k = g) := (((Chg.refl w _).drew).trans (Chg.of_only ho1) (fun _ _ h => h)).trans (Chg.of_only ho2) (fun _ _ h => h)
  go_wp2
  go_ret2
  exact ⟨rfl, hc2, hS2⟩

set_option maxRecDepth 20000 in
set_option maxHeartbeats 1000000 in
theorem dAppend_no3 (x g gz : Nat) (sl lf ca wr cn : Int) (i : Nat) (pf : Option Addr) (m cap : Nat) (kp : Int) (bd lg : Value) (zs : List (Value × Int)) (p : Option Addr) (n c : Nat) (w : World) (hx : DkAt w x g) (h : StAt w g sl lf ca wr (.slice (some ⟨gz, 0, none⟩) zs.length zs.length) cn bd lg) (hz : ZAt w gz zs) (hlf : lf ≠ 0) (hf : fits lf) (hca : small ca) (hwr : small wr) (hi : zs[i]? = some (.slice pf m cap, kp)) (hn : n = 58) (hno : ¬ (m : Int) < sl) :
    Calls Tryz.prog 144 #[.pointer (some ⟨x, 0, none⟩), .int .i64 (i : Int), .slice p n c] w fun e w' => e = .returned (.tuple #[.int .i64 0, .bool false]) ∧ Chg w w' (fun k => k = g) ∧ StAt w' g sl (less lf) (ca + 1) (wr + 1) (.slice (some ⟨gz, 0, none⟩) zs.length zs.length) cn bd lg := by
  have k0 := hx.cell0
  have HF := (show Hid _ from hf)
  have HC := (show Hid _ from hca)
  have HW := (show Hid _ from hwr)
  have hgz := st_z_ne h hz
  have HD : Hid (StAt w.drew g sl lf ca wr (.slice (some ⟨gz, 0, none⟩) zs.length zs.length) cn bd lg) := h
  clear h hx hf hca hwr
  go_enter Tryz.func144, Tryz.ntmps144
  go_wp2_with fail
  refine wp_region_any rfl ?_
  refine wpAny_forced 0 (by kernel_rfl) ?_
  refine .inl ?_
  go_simp
  refine wpAny_forced 1 (by kernel_rfl) ?_
  refine .inl ?_
  go_simp
  refine (goes_on g sl lf ca wr cn _ bd lg _ HD.out hlf HF.out HC.out).mono ?_
  rintro e w1 ⟨rfl, hS1, ho1⟩
  simp only []
  have hil : i < zs.length := (List.getElem?_eq_some_iff.1 hi).1
  have hlti : (i : Int) < (zs.length : Int) := by omega
  have hz1 : ZAt w1 gz zs := Cel.only (w := w.drew) hz ho1 hgz.symm
  have q0 := (hz1.cells i _ hi).1
  simp only at q0
  have c0 := hS1.cells.1
  have c4 := hS1.cells.2.2.2.2.1
  have hhb : hasB (i : Int) zs.length = true := decide_eq_true ⟨by omega, by omega⟩
  have hasC := has_any g sl (less lf) (ca + 1) wr cn (i : Int) _ _ _ bd lg w1 hS1
  rw [hhb] at hasC
  subst hn
  go_simp
  refine wpAny_forced 2 (by kernel_rfl) ?_
  refine .inl ?_
  go_simp
  refine wpAny_forced 3 (by kernel_rfl) ?_
  refine .inl ?_
  go_simp
  refine wpAny_cut_held (S := fun w' => w' = w1) 29 25 (by decide) (by kernel_rfl) (by kernel_rfl) (by kernel_rfl) (by kernel_rfl) ?inv rfl rfl ?_
  case inv => exact headPut 3 (headPut 2 (headPut 1 (headPut 0 (headInv0 29) (by kernel_rfl) (by decide)) (by kernel_rfl) (by decide)) (by kernel_rfl) (by decide)) (by kernel_rfl) (by decide)
  simp only [List.take_succ_cons, List.take_zero, List.drop_succ_cons, List.drop_zero]
  refine held_take (i := 4) (v := ?v4) rfl (by kernel_rfl) (by kernel_rfl) (by kernel_rfl) (fun _ _ _ h => h) (Or.inl ⟨by rfl, ?hy4⟩) rfl ?rest4
  case hy4 => (intro w' hSw; (try dsimp only at hSw); subst hSw; go_simp; try with_reducible rfl)
  simp only [Act.put, List.setIfInBounds_toArray, List.set_cons_zero, List.set_cons_succ]
  refine held_take (i := 5) (v := ?v5) rfl (by kernel_rfl) (by kernel_rfl) (by kernel_rfl) (fun _ _ _ h => h) (Or.inl ⟨by rfl, ?hy5⟩) rfl ?rest5
  case hy5 => (intro w' hSw; (try dsimp only at hSw); subst hSw; go_simp; try with_reducible rfl)
  simp only [Act.put, List.setIfInBounds_toArray, List.set_cons_zero, List.set_cons_succ]
  refine held_take (i := 6) (v := ?v6) rfl (by kernel_rfl) (by kernel_rfl) (by kernel_rfl) (fun _ _ _ h => h) (Or.inl ⟨by rfl, ?hy6⟩) rfl ?rest6
  case hy6 => (intro w' hSw; (try dsimp only at hSw); subst hSw; go_simp; try with_reducible rfl)
  simp only [Act.put, List.setIfInBounds_toArray, List.set_cons_zero, List.set_cons_succ]
  refine held_one (i := 7) rfl (by kernel_rfl) (fun K hK => ?_)
  go_simp
  refine hasC.mono ?_
  rintro e w' ⟨rfl, hw'⟩
  refine hK.out _ _ hw' (fun hHeld => ?_)
  clear hK K hHeld
  have hw2 := hw'.symm
  clear hw'
  subst hw2
  refine held_take (i := 8) (v := ?v8) rfl (by kernel_rfl) (by kernel_rfl) (by kernel_rfl) (fun _ _ _ h => h) (Or.inl ⟨by rfl, ?hy8⟩) rfl ?rest8
  case hy8 => (intro w' hSw; (try dsimp only at hSw); subst hSw; go_simp; try with_reducible rfl)
  simp only [Act.put, List.setIfInBounds_toArray, List.set_cons_zero, List.set_cons_succ]
  refine held_take (i := 9) (v := ?v9) rfl (by kernel_rfl) (by kernel_rfl) (by kernel_rfl) (fun _ _ _ h => h) (Or.inl ⟨by rfl, ?hy9⟩) rfl ?rest9
  case hy9 => (intro w' hSw; (try dsimp only at hSw); subst hSw; go_simp; try with_reducible rfl)
  simp only [Act.put, List.setIfInBounds_toArray, List.set_cons_zero, List.set_cons_succ]
  refine held_take (i := 10) (v := ?v10) rfl (by kernel_rfl) (by kernel_rfl) (by kernel_rfl) (fun _ _ _ h => h) (Or.inl ⟨by rfl, ?hy10⟩) rfl ?rest10
  case hy10 => (intro w' hSw; (try dsimp only at hSw); subst hSw; go_simp; try with_reducible rfl)
  simp only [Act.put, List.setIfInBounds_toArray, List.set_cons_zero, List.set_cons_succ]
  refine held_take (i := 11) (v := ?v11) rfl (by kernel_rfl) (by kernel_rfl) (by kernel_rfl) (fun _ _ _ h => h) (Or.inl ⟨by rfl, ?hy11⟩) rfl ?rest11
  case hy11 => (intro w' hSw; (try dsimp only at hSw); subst hSw; go_simp; try with_reducible rfl)
  simp only [Act.put, List.setIfInBounds_toArray, List.set_cons_zero, List.set_cons_succ]
  refine held_take (i := 12) (v := ?v12) rfl (by kernel_rfl) (by kernel_rfl) (by kernel_rfl) (fun _ _ _ h => h) (Or.inl ⟨by rfl, ?hy12⟩) rfl ?rest12
  case hy12 => (intro w' hSw; (try dsimp only at hSw); subst hSw; go_simp; try with_reducible rfl)
  simp only [Act.put, List.setIfInBounds_toArray, List.set_cons_zero, List.set_cons_succ]
  refine held_take (i := 13) (v := ?v13) rfl (by kernel_rfl) (by kernel_rfl) (by kernel_rfl) (fun _ _ _ h => h) (Or.inl ⟨by rfl, ?hy13⟩) rfl ?rest13
  case hy13 => (intro w' hSw; (try dsimp only at hSw); subst hSw; go_simp; try with_reducible rfl)
  simp only [Act.put, List.setIfInBounds_toArray, List.set_cons_zero, List.set_cons_succ]
  refine held_take (i := 14) (v := ?v14) rfl (by kernel_rfl) (by kernel_rfl) (by kernel_rfl) (fun _ _ _ h => h) (Or.inl ⟨by rfl, ?hy14⟩) rfl ?rest14
  case hy14 => (intro w' hSw; (try dsimp only at hSw); subst hSw; go_simp; try with_reducible rfl)
  simp only [Act.put, List.setIfInBounds_toArray, List.set_cons_zero, List.set_cons_succ]
  refine held_take (i := 15) (v := ?v15) rfl (by kernel_rfl) (by kernel_rfl) (by kernel_rfl) (fun _ _ _ h => h) (Or.inl ⟨by rfl, ?hy15⟩) rfl ?rest15
  case hy15 => (intro w' hSw; (try dsimp only at hSw); subst hSw; go_simp; try with_reducible rfl)
  simp only [Act.put, List.setIfInBounds_toArray, List.set_cons_zero, List.set_cons_succ]
  refine held_take (i := 16) (v := ?v16) rfl (by kernel_rfl) (by kernel_rfl) (by kernel_rfl) (fun _ _ _ h => h) (Or.inl ⟨by rfl, ?hy16⟩) rfl ?rest16
  case hy16 => (intro w' hSw; (try dsimp only at hSw); subst hSw; go_simp; try with_reducible rfl)
  simp only [Act.put, List.setIfInBounds_toArray, List.set_cons_zero, List.set_cons_succ]
  refine held_take (i := 17) (v := ?v17) rfl (by kernel_rfl) (by kernel_rfl) (by kernel_rfl) (fun _ _ _ h => h) (Or.inl ⟨by rfl, ?hy17⟩) rfl ?rest17
  case hy17 => (intro w' hSw; (try dsimp only at hSw); subst hSw; go_simp; try with_reducible rfl)
  simp only [Act.put, List.setIfInBounds_toArray, List.set_cons_zero, List.set_cons_succ]
  refine held_take (i := 18) (v := ?v18) rfl (by kernel_rfl) (by kernel_rfl) (by kernel_rfl) (fun _ _ _ h => h) (Or.inl ⟨by rfl, ?hy18⟩) rfl ?rest18
  case hy18 => (intro w' hSw; (try dsimp only at hSw); subst hSw; go_simp; try with_reducible rfl)
  simp only [Act.put, List.setIfInBounds_toArray, List.set_cons_zero, List.set_cons_succ]
  refine held_take (i := 19) (v := ?v19) rfl (by kernel_rfl) (by kernel_rfl) (by kernel_rfl) (fun _ _ _ h => h) (Or.inl ⟨by rfl, ?hy19⟩) rfl ?rest19
  case hy19 => (intro w' hSw; (try dsimp only at hSw); subst hSw; go_simp; try with_reducible rfl)
  simp only [Act.put, List.setIfInBounds_toArray, List.set_cons_zero, List.set_cons_succ]
  refine held_take (i := 20) (v := ?v20) rfl (by kernel_rfl) (by kernel_rfl) (by kernel_rfl) (fun _ _ _ h => h) (Or.inl ⟨by rfl, ?hy20⟩) rfl ?rest20
  case hy20 => (intro w' hSw; (try dsimp only at hSw); subst hSw; go_simp; try with_reducible rfl)
  simp only [Act.put, List.setIfInBounds_toArray, List.set_cons_zero, List.set_cons_succ]
  refine held_take (i := 21) (v := ?v21) rfl (by kernel_rfl) (by kernel_rfl) (by kernel_rfl) (fun _ _ _ h => h) (Or.inl ⟨by rfl, ?hy21⟩) rfl ?rest21
  case hy21 => (intro w' hSw; (try dsimp only at hSw); subst hSw; go_simp; try with_reducible rfl)
  simp only [Act.put, List.setIfInBounds_toArray, List.set_cons_zero, List.set_cons_succ]
  refine held_take (i := 22) (v := ?v22) rfl (by kernel_rfl) (by kernel_rfl) (by kernel_rfl) (fun _ _ _ h => h) (Or.inl ⟨by rfl, ?hy22⟩) rfl ?rest22
  case hy22 => (intro w' hSw; (try dsimp only at hSw); subst hSw; go_simp; try with_reducible rfl)
  simp only [Act.put, List.setIfInBounds_toArray, List.set_cons_zero, List.set_cons_succ]
  refine held_take (i := 23) (v := ?v23) rfl (by kernel_rfl) (by kernel_rfl) (by kernel_rfl) (fun _ _ _ h => h) (Or.inl ⟨by rfl, ?hy23⟩) rfl ?rest23
  case hy23 => (intro w' hSw; (try dsimp only at hSw); subst hSw; go_simp; try with_reducible rfl)
  simp only [Act.put, List.setIfInBounds_toArray, List.set_cons_zero, List.set_cons_succ]
  refine held_take (i := 24) (v := ?v24) rfl (by kernel_rfl) (by kernel_rfl) (by kernel_rfl) (fun _ _ _ h => h) (Or.inl ⟨by rfl, ?hy24⟩) rfl ?rest24
  case hy24 => (intro w' hSw; (try dsimp only at hSw); subst hSw; go_simp; try with_reducible rfl)
  simp only [Act.put, List.setIfInBounds_toArray, List.set_cons_zero, List.set_cons_succ]
  refine held_take (i := 25) (v := ?v25) rfl (by kernel_rfl) (by kernel_rfl) (by kernel_rfl) (fun _ _ _ h => h) (Or.inl ⟨by rfl, ?hy25⟩) rfl ?rest25
  case hy25 => (intro w' hSw; (try dsimp only at hSw); subst hSw; go_simp; try with_reducible rfl)
  simp only [Act.put, List.setIfInBounds_toArray, List.set_cons_zero, List.set_cons_succ]
  refine held_take (i := 26) (v := ?v26) rfl (by kernel_rfl) (by kernel_rfl) (by kernel_rfl) (fun _ _ _ h => h) (Or.inl ⟨by rfl, ?hy26⟩) rfl ?rest26
  case hy26 => (intro w' hSw; (try dsimp only at hSw); subst hSw; go_simp; try with_reducible rfl)
  simp only [Act.put, List.setIfInBounds_toArray, List.set_cons_zero, List.set_cons_succ]
  refine held_take (i := 27) (v := ?v27) rfl (by kernel_rfl) (by kernel_rfl) (by kernel_rfl) (fun _ _ _ h => h) (Or.inl ⟨by rfl, ?hy27⟩) rfl ?rest27
  case hy27 => (intro w' hSw; (try dsimp only at hSw); subst hSw; go_simp; try with_reducible rfl)
  simp only [Act.put, List.setIfInBounds_toArray, List.set_cons_zero, List.set_cons_succ]
  refine held_take (i := 28) (v := ?v28) rfl (by kernel_rfl) (by kernel_rfl) (by kernel_rfl) (fun _ _ _ h => h) (Or.inl ⟨by rfl, ?hy28⟩) rfl ?rest28
  case hy28 => (intro w' hSw; (try dsimp only at hSw); subst hSw; go_simp; try with_reducible rfl)
  simp only [Act.put, List.setIfInBounds_toArray, List.set_cons_zero, List.set_cons_succ]
  refine wpAnyH_done (by kernel_rfl) ?_ _
  show wpList Tryz.prog _ _ _ _ _
  go_wp2_with fail
  rw [show decide ((m : Int) < sl) = false from decide_eq_false (by omega)]
  refine (may_no g sl (less lf) (ca + 1) wr cn _ bd lg w1 hS1 HW.out).mono ?_
  rintro e w2 ⟨rfl, hS2, ho2⟩
  have hc2 : Chg w w2 (fun k => k = g) := (((Chg.refl w _).drew).trans (Chg.of_only ho1) (fun _ _ h => h)).trans (Chg.of_only ho2) (fun _ _ h => h)
  clear c0 c4 q0 hz1 hlti hhb hasC k0
  go_wp2
  go_ret2
  exact ⟨rfl, hc2, hS2⟩
end Go.Proofs.YtloaefcgcniacaaGreatDoor
