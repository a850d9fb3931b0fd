import Derived.Test.YtloaefcgcniacaaGreatDoorDt
import Derived.BigQuiet
import Derived.Test.YtloaefcgcniacaaGreatDoorCut
import Derived.Test.YtloaefcgcniacaaGreatDoorDA4
import Derived.Deep.AppendLies
namespace Go.Proofs.YtloaefcgcniacaaGreatDoor
open Go.RowKit
set_option linter.unusedVariables false

theorem row_ne_state {w : World} {base g : Nat} {F : Nat → Prop} {v : Value} {fs : List (List Nat)} {t : TypeId} {cs : Array Value} (hr : RowG w base F v fs) (h : Cel w g t cs) (ht : t ≠ 66) : ∀ k, v.ownBlock = some k → k ≠ g := fun k hk e => by
  subst e
  obtain ⟨xs, h1, _⟩ := hr
  rcases h1.2 with ⟨hv, _⟩ | ⟨gr, cap, cur, hv, _, hg, _⟩
  · rw [hv] at hk; cases hk
  · rw [hv] at hk
    cases hk
    unfold Cel at h
    rw [hg] at h
    injection h with h
    injection h with _ h2
    exact ht h2.symm

set_option maxRecDepth 20000 in
set_option maxHeartbeats 4000000 in
theorem dAppend_yes (base x g gz i : Nat) (F : Nat → Prop) (sl lf ca wr cn : Int) (bd lg : Value) (zs : List (Value × Int)) (fv : Value) (kp : Int) (fs logs : List (List Nat)) (l : List Nat) (p : Option Addr) (c : Nat) (w : World) (hx : DkAt w x g) (h : StAt w g sl lf ca wr (.slice (some ⟨gz, 0, none⟩) zs.length zs.length) cn bd lg) (hz : ZAt w gz zs) (hlf : lf ≠ 0) (hf : fits lf) (hca : small ca)
    (hi : zs[i]? = some (fv, kp)) (hrow : RowG w base F fv fs) (hlog : RowG w base F lg logs) (hne : ∀ k, fv.ownBlock = some k → lg.ownBlock ≠ some k) (hb : ByV w p l) (hl : l.length = 58) (hroom : (fs.length : Int) < sl) (hfl : fs.length < 1000000) (hll : logs.length < 1000000) (hbase : base ≤ w.heap.size) :
    Calls Tryz.prog 144 #[.pointer (some ⟨x, 0, none⟩), .int .i64 (i : Int), .slice p l.length c] w fun e w' => e = .returned (.tuple #[.int .i64 (fs.length : Int), .bool true]) ∧
      Chg w w' (fun k => k = g ∨ k = gz ∨ fv.ownBlock = some k ∨ lg.ownBlock = some k) ∧
      ∃ fv' lg', StAt w' g sl (less lf) (ca + 1) wr (.slice (some ⟨gz, 0, none⟩) zs.length zs.length) cn bd lg' ∧ ZAt w' gz (zs.set i (fv', kp)) ∧ RowG w' base (fun k => F k ∨ w.heap.size ≤ k) fv' (fs ++ [l]) ∧ RowG w' base (fun k => F k ∨ w.heap.size ≤ k) lg' (logs ++ [l]) ∧
        (fv'.ownBlock = fv.ownBlock ∨ ∃ k, fv'.ownBlock = some k ∧ w.heap.size ≤ k) ∧ (lg'.ownBlock = lg.ownBlock ∨ ∃ k, lg'.ownBlock = some k ∧ w.heap.size ≤ k) ∧ (∀ k, fv'.ownBlock = some k → lg'.ownBlock ≠ some k) := by
  obtain ⟨ib, hib, hqb⟩ : ∃ i, Tryz.prog.info? 66 = some i ∧ (i.zero, i.size, i.bytes) = (some (Value.slice none 0 0), 1, 24) := by
    have := infoB
    cases hq : Tryz.prog.info? 66 with
    | none => rw [hq] at this; cases this
    | some i => rw [hq] at this; exact ⟨i, rfl, by simpa using this⟩
  have hz0 : ib.zero = some (Value.slice none 0 0) := congrArg (·.1) hqb
  have hz1' : ib.size = 1 := congrArg (·.2.1) hqb
  have hz2 : ib.bytes = 24 := congrArg (·.2.2) hqb
  have k0 := hx.cell0
  have H := (show Hid _ from h)
  have HF := (show Hid _ from hf)
  have HC := (show Hid _ from hca)
  have hxg := st_dk_ne hx h
  have hgz := st_z_ne h hz
  have hnb := NoB.state h
  have hil : i < zs.length := (List.getElem?_eq_some_iff.1 hi).1
  have hr1g := row_ne_state hrow h (by decide)
  have hr2g := row_ne_state hlog h (by decide)
  have HLW : Hid (∀ k, lg.ownBlock = some k → k < w.heap.size) := fun k hk => (hlog.own k hk).2.1
  clear h hx hf hca
  go_enter Tryz.func144, Tryz.ntmps144
  go_wp2_with fail
  have HD : Hid (StAt w.drew g sl lf ca wr (.slice (some ⟨gz, 0, none⟩) zs.length zs.length) cn bd lg) := H.out
  refine wp_region_any rfl ?_
  refine wpAny_forced 0 (by kernel_rfl) ?_
  refine .inl ?_
  go_simp
  refine wpAny_forced 1 (by kernel_rfl) ?_
  refine .inl ?_
  go_simp
  refine (goes_on g sl lf ca wr cn _ bd lg _ HD.out hlf HF.out HC.out).mono ?_
  rintro e w1 ⟨rfl, hS1, ho1⟩
  simp only []
  have hz1 : ZAt w1 gz zs := Cel.only (w := w.drew) hz ho1 hgz.symm
  obtain ⟨pf, capf, hfv⟩ := hrow.form
  subst hfv
  have q0 := (hz1.cells i _ hi).1
  simp only at q0
  have c0 := hS1.cells.1
  have c4 := hS1.cells.2.2.2.2.1
  have hlti : (i : Int) < (zs.length : Int) := by omega
  have hhb : hasB (i : Int) zs.length = true := decide_eq_true ⟨by omega, by omega⟩
  have hasC := has_any g sl (less lf) (ca + 1) wr cn (i : Int) _ _ _ bd lg w1 hS1
  rw [hhb] at hasC
  have hl58 : ((l.length : Int) == 58) = true := by rw [hl]; rfl
  go_simp
  refine wpAny_forced 2 (by kernel_rfl) ?_
  refine .inl ?_
  go_simp
  refine wpAny_forced 3 (by kernel_rfl) ?_
  refine .inl ?_
  go_simp
  refine wpAny_still_tail 4 29 _ (by kernel_rfl) (by decide) (by decide) (by kernel_rfl) (by kernel_rfl) ?inv (by kernel_rfl) ?_
  case inv => exact headPut 3 (headPut 2 (headPut 1 (headPut 0 (headInv0 29) (by kernel_rfl) (by decide)) (by kernel_rfl) (by decide)) (by kernel_rfl) (by decide)) (by kernel_rfl) (by decide)
  simp only [List.take_succ_cons, List.take_zero, List.drop_succ_cons, List.drop_zero]
  repeat still_step
  still_call hasC
  repeat still_step
  refine wpStill_nil ?_
  go_wp2_with fail
  refine (may_yes g w1).mono ?_
  rintro e w' ⟨rfl, hw'⟩
  have hw2 := hw'.symm
  clear hw'
  subst hw2
  clear hasC hhb hl58 k0 hxg HD
  have HBZ1 : Hid (w1.heap.size = w.heap.size) := ho1.2
  have hc1 : Chg w w1 (fun k => k = g) := ((Chg.refl w _).drew).trans (Chg.of_only ho1) (fun _ _ h => h)
  have hrow1 := hrow.chgB hc1 hnb (fun k hk e => hr1g k hk e)
  have hlog1 := hlog.chgB hc1 hnb (fun k hk e => hr2g k hk e)
  have hb1 := ByV.chg hb hc1 hnb
  have HLOG := (show Hid _ from hlog1)
  have HB1 := (show Hid _ from hb1)
  have HS1 := (show Hid _ from hS1)
  have HZ1 := (show Hid _ from hz1)
  have hzn : ∀ k, (Value.slice pf fs.length capf).ownBlock = some k → k ≠ gz := row_ne_state hrow1 hz1 (by decide)
  have HRN : Hid (∀ k', (Value.slice pf fs.length capf).ownBlock = some k' → base ≤ k' ∧ k' ≠ g ∧ k' ≠ gz ∧ k' < w1.heap.size) := fun k hk => ⟨(hrow1.own k hk).1, hr1g k hk, hzn k hk, (hrow1.own k hk).2.1⟩
  have HNB : Hid (NoB w1 (fun k' => (Value.slice pf fs.length capf).ownBlock = some k')) := fun k' hk' cur' fz' e => by
    obtain ⟨cur, h3⟩ := (hrow1.own k' hk').2.2
    rw [h3] at e
    cases e
  obtain ⟨xs, hown, hent⟩ := hrow1
  have hxl : xs.length = fs.length := by have := hown.1; omega
  have HENT := (show Hid _ from hent)
  have HN : Hid (fs.length < 1000000) := hfl
  have HNF : Hid (fs.length < 1000000) := hfl
  have HK2 : Hid (∀ w2, Below w1.drew.heap.size w1.drew w2 → (w2.cell? ⟨g, 4, none⟩ = some (.slice (some ⟨gz, 0, none⟩) zs.length zs.length) ∧ w2.cell? ⟨gz, i * 2, none⟩ = some (.slice pf fs.length capf)) ∧ (∀ o : Obj, (w2.alloc o).cell? ⟨g, 4, none⟩ = some (.slice (some ⟨gz, 0, none⟩) zs.length zs.length)) ∧ (∀ o : Obj, (w2.alloc o).cell? ⟨gz, i * 2, none⟩ = some (.slice pf fs.length capf))) := fun w2 hb2 => by
    have h1 : StAt w2 g sl (less lf) (ca + 1) wr (.slice (some ⟨gz, 0, none⟩) zs.length zs.length) cn bd lg := Cel.below (w := w1.drew) HS1.out hb2 (Cel.lt (w := w1.drew) HS1.out)
    have h2 : ZAt w2 gz zs := Cel.below (w := w1.drew) HZ1.out hb2 (Cel.lt (w := w1.drew) HZ1.out)
    refine ⟨⟨h1.cells.2.2.2.2.1, (h2.cells i _ hi).1⟩, fun o => ?_, fun o => ?_⟩
    · have h3 : StAt (w2.alloc o) g sl (less lf) (ca + 1) wr (.slice (some ⟨gz, 0, none⟩) zs.length zs.length) cn bd lg := Cel.below h1 ((Below.refl w2.heap.size w2).alloc (Nat.le_refl _) o) (Cel.lt h1)
      exact h3.cells.2.2.2.2.1
    · have h3 : ZAt (w2.alloc o) gz zs := Cel.below h2 ((Below.refl w2.heap.size w2).alloc (Nat.le_refl _) o) (Cel.lt h2)
      exact (h3.cells i _ hi).1
  have HOWN : Hid (∀ w2, Below w1.drew.heap.size w1.drew w2 → ∀ o : Obj, (w2.alloc o).ownsRow base 66 1 (.slice pf fs.length capf) fs.length xs) := fun w2 hb2 o =>
    ownsRow_chg (w := w1.drew) hown (Chg.of_below (hb2.trans ((Below.refl _ _).alloc hb2.size o)) (fun _ => False)) (fun _ _ h => h)
  have HST : Hid (∀ w2, Below w1.drew.heap.size w1.drew w2 → ∀ (o : Obj) (w9 : World), (w2.alloc o).grownBy w9 (Value.slice pf fs.length capf).ownBlock → Chg w1 w9 (fun k' => (Value.slice pf fs.length capf).ownBlock = some k')) := fun w2 hb2 o w9 hg =>
    (Chg.of_below (a := w1) ((Below.refl w1.heap.size w1).drew.trans (hb2.trans ((Below.refl _ _).alloc hb2.size o))) _).trans (Chg.of_grown hg) (fun i hi h => h)
  have HBLK : Hid (∀ w2 : World, w2.heap.size = w1.heap.size + 1 → ∀ vs : Array Value, (w2.alloc (Obj.cells vs 66)).heap[w1.heap.size + 1]? = some (Obj.cells vs 66 (0, 0))) := fun w2 h vs => by rw [← h]; exact heap_alloc_new w2 _
  have HL2 : Hid (l.length ≤ 2000000) := by show l.length ≤ _; omega
  have HRD : Hid (Rds w1.drew p 58 l) := by have := (ByV.rds HB1.out).below ((Below.refl _ _).drew); rw [hl] at this; exact this
  have HI := (show Hid _ from hi)
  have HBB : Hid (base ≤ w.heap.size) := hbase
  have HL58 : Hid (l.length = 58) := hl
  have HRL := (show Hid _ from hroom)
  clear hown hent hrow hlog hlog1 hb hb1 hS1 hz1 hi hl hfl hr1g hr2g hzn hnb hc1 hbase hroom hlf HF HC H hz
  have hgz' : gz ≠ g := fun e => hgz e.symm
  go_wp2_with fail
  have hHeld : w1.drew.cell? ⟨g, 4, none⟩ = some (.slice (some ⟨gz, 0, none⟩) zs.length zs.length) ∧ w1.drew.cell? ⟨gz, i * 2, none⟩ = some (.slice pf fs.length capf) := ⟨c4, q0⟩
  refine wp_region_cut_held (S := fun w' => w'.cell? ⟨g, 4, none⟩ = some (.slice (some ⟨gz, 0, none⟩) zs.length zs.length) ∧ w'.cell? ⟨gz, i * 2, none⟩ = some (.slice pf fs.length capf)) 17 (by kernel_rfl) (by decide) (by kernel_rfl) (by kernel_rfl) (by kernel_rfl) (by kernel_rfl) ?_
  simp only [List.take_succ_cons, List.take_zero, List.drop_succ_cons, List.drop_zero]
  refine held_take (i := 0) (v := ?v0) rfl (by kernel_rfl) (by kernel_rfl) (by kernel_rfl) (fun _ _ _ h => h) (Or.inl ⟨by rfl, ?hy0⟩) hHeld ?rest0
  case hy0 => (intro w' hSw; (try dsimp only at hSw); go_simp; try with_reducible rfl)
  simp only [Act.put, List.setIfInBounds_toArray, List.set_cons_zero, List.set_cons_succ]
  refine held_take (i := 1) (v := ?v1) rfl (by kernel_rfl) (by kernel_rfl) (by kernel_rfl) (fun _ _ _ h => h) (Or.inl ⟨by rfl, ?hy1⟩) hHeld ?rest1
  case hy1 => (intro w' hSw; (try dsimp only at hSw); go_simp; try with_reducible rfl)
  simp only [Act.put, List.setIfInBounds_toArray, List.set_cons_zero, List.set_cons_succ]
  refine held_take (i := 2) (v := ?v2) rfl (by kernel_rfl) (by kernel_rfl) (by kernel_rfl) (fun _ _ _ h => h) (Or.inl ⟨by rfl, ?hy2⟩) hHeld ?rest2
  case hy2 => (intro w' hSw; (try dsimp only at hSw); go_simp; try with_reducible rfl)
  simp only [Act.put, List.setIfInBounds_toArray, List.set_cons_zero, List.set_cons_succ]
  refine held_take (i := 3) (v := ?v3) rfl (by kernel_rfl) (by kernel_rfl) (by kernel_rfl) (fun _ _ _ h => h) (Or.inl ⟨by rfl, ?hy3⟩) hHeld ?rest3
  case hy3 => (intro w' hSw; (try dsimp only at hSw); go_simp; try with_reducible rfl)
  simp only [Act.put, List.setIfInBounds_toArray, List.set_cons_zero, List.set_cons_succ]
  refine held_take (i := 4) (v := ?v4) rfl (by kernel_rfl) (by kernel_rfl) (by kernel_rfl) (fun _ _ _ h => h) (Or.inl ⟨by rfl, ?hy4⟩) hHeld ?rest4
  case hy4 => (intro w' hSw; (try dsimp only at hSw); go_simp; try with_reducible rfl)
  simp only [Act.put, List.setIfInBounds_toArray, List.set_cons_zero, List.set_cons_succ]
  refine held_take (i := 5) (v := ?v5) rfl (by kernel_rfl) (by kernel_rfl) (by kernel_rfl) (fun _ _ _ h => h) (Or.inl ⟨by rfl, ?hy5⟩) hHeld ?rest5
  case hy5 => (intro w' hSw; (try dsimp only at hSw); go_simp; try with_reducible rfl)
  simp only [Act.put, List.setIfInBounds_toArray, List.set_cons_zero, List.set_cons_succ]
  refine held_take (i := 6) (v := ?v6) rfl (by kernel_rfl) (by kernel_rfl) (by kernel_rfl) (fun _ _ _ h => h) (Or.inl ⟨by rfl, ?hy6⟩) hHeld ?rest6
  case hy6 => (intro w' hSw; (try dsimp only at hSw); go_simp; try with_reducible rfl)
  simp only [Act.put, List.setIfInBounds_toArray, List.set_cons_zero, List.set_cons_succ]
  refine held_take (i := 7) (v := ?v7) rfl (by kernel_rfl) (by kernel_rfl) (by kernel_rfl) (fun _ _ _ h => h) (Or.inl ⟨by rfl, ?hy7⟩) hHeld ?rest7
  case hy7 => (intro w' hSw; (try dsimp only at hSw); go_simp; try with_reducible rfl)
  simp only [Act.put, List.setIfInBounds_toArray, List.set_cons_zero, List.set_cons_succ]
  refine held_take (i := 8) (v := ?v8) rfl (by kernel_rfl) (by kernel_rfl) (by kernel_rfl) (fun _ _ _ h => h) (Or.inl ⟨by rfl, ?hy8⟩) hHeld ?rest8
  case hy8 => (intro w' hSw; (try dsimp only at hSw); go_simp; try with_reducible rfl)
  simp only [Act.put, List.setIfInBounds_toArray, List.set_cons_zero, List.set_cons_succ]
  refine held_take (i := 9) (v := ?v9) rfl (by kernel_rfl) (by kernel_rfl) (by kernel_rfl) (fun _ _ _ h => h) (Or.inl ⟨by rfl, ?hy9⟩) hHeld ?rest9
  case hy9 => (intro w' hSw; (try dsimp only at hSw); go_simp; try with_reducible rfl)
  simp only [Act.put, List.setIfInBounds_toArray, List.set_cons_zero, List.set_cons_succ]
  refine held_take (i := 10) (v := ?v10) rfl (by kernel_rfl) (by kernel_rfl) (by kernel_rfl) (fun _ _ _ h => h) (Or.inl ⟨by rfl, ?hy10⟩) hHeld ?rest10
  case hy10 => (intro w' hSw; (try dsimp only at hSw); go_simp; try with_reducible rfl)
  simp only [Act.put, List.setIfInBounds_toArray, List.set_cons_zero, List.set_cons_succ]
  refine held_take (i := 11) (v := ?v11) rfl (by kernel_rfl) (by kernel_rfl) (by kernel_rfl) (fun _ _ _ h => h) (Or.inl ⟨by rfl, ?hy11⟩) hHeld ?rest11
  case hy11 => (intro w' hSw; (try dsimp only at hSw); go_simp; try with_reducible rfl)
  simp only [Act.put, List.setIfInBounds_toArray, List.set_cons_zero, List.set_cons_succ]
  refine held_take (i := 12) (v := ?v12) rfl (by kernel_rfl) (by kernel_rfl) (by kernel_rfl) (fun _ _ _ h => h) (Or.inl ⟨by rfl, ?hy12⟩) hHeld ?rest12
  case hy12 => (intro w' hSw; (try dsimp only at hSw); go_simp; try with_reducible rfl)
  simp only [Act.put, List.setIfInBounds_toArray, List.set_cons_zero, List.set_cons_succ]
  refine held_take (i := 13) (v := ?v13) rfl (by kernel_rfl) (by kernel_rfl) (by kernel_rfl) (fun _ _ _ h => h) (Or.inl ⟨by rfl, ?hy13⟩) hHeld ?rest13
  case hy13 => (intro w' hSw; (try dsimp only at hSw); go_simp; try with_reducible rfl)
  simp only [Act.put, List.setIfInBounds_toArray, List.set_cons_zero, List.set_cons_succ]
  clear hHeld
  refine held_one (i := 14) rfl (by kernel_rfl) (fun K hK => ?_)
  go_simp
  go_at_call 107
  refine (clone_sl p 58 c l _ (by decide) HRD.out).mono ?_
  rintro e w2 ⟨rfl, hB2, hb2, hzc⟩
  refine hK.out _ _ (HK2.out w2 hb2).1 (fun hHeld => ?_)
  clear hK K hHeld
  refine held_one (i := 15) rfl (by kernel_rfl) (fun K hK => ?_)
  go_simp
  refine hK.out _ _ ⟨(HK2.out w2 hb2).2.1 _, (HK2.out w2 hb2).2.2 _⟩ (fun hHeld => ?_)
  clear hK K hHeld
  refine held_one (i := 16) rfl (by kernel_rfl) (fun K hK => ?_)
  refine step_append_lies _ rfl (.tmp 57) (.tmp 60) 104 rfl base 66 ib _ 1 24 Tryz.underlying104 hib hz0 hz1' hz2 rfl (by omega) (.slice pf fs.length capf) fs.length xs rfl (HOWN.out w2 hb2 _) ⟨w1.heap.size + 1, 0, none⟩ 1 1 [.slice (some ⟨w1.heap.size, 0, none⟩) 58 58] rfl rfl (World.news_of_block (HBLK.out w2 hzc _)) (by intro u hu; simp at hu; subst hu; rfl) (by omega) (by have := HN.out; unfold maxLen; omega) (by have := HN.out; omega) (by have e : w2.heap.size = w1.heap.size + 1 := hzc; have := HBB.out; have e2 := HBZ1.out; simp; omega) (w1.heap.size + 2) (by have e : w2.heap.size = w1.heap.size + 1 := hzc; simp; omega) ?_
  intro g9 c9 w9 hown9 hgrow9 hat9 hlt9
  have hCh := HST.out w2 hb2 _ w9 hgrow9
  have hZ9 : ZAt w9 gz zs := Cel.chg HZ1.out hCh (fun e => (HRN.out _ e).2.2.1 rfl)
  have y0 := (hZ9.cells i _ HI.out).1
  have yf := (hZ9.cells i _ HI.out).2.2
  have hS9 : StAt w9 g sl (less lf) (ca + 1) wr (.slice (some ⟨gz, 0, none⟩) zs.length zs.length) cn bd lg := Cel.chg (w := w1) HS1.out hCh (fun e => (HRN.out _ e).2.1 rfl)
  have y4 := hS9.cells.2.2.2.2.1
  refine hK.out _ _ ⟨y4, y0⟩ (fun hHeld => ?_)
  clear hK K hHeld
  refine wpAnyH_done (by kernel_rfl) ?_ _
  show wpList Tryz.prog _ _ _ _ _
  have hzc' : Hid (w2.heap.size = w1.heap.size + 1) := hzc
  have hB9 : Blk w9 w1.heap.size l := by
    have h1 : Blk w2 w1.heap.size l := hB2
    refine (hgrow9.block w1.heap.size (by have := hzc'.out; simp; omega) (fun e => ?_)).trans ((((Below.refl w2.heap.size w2).alloc (Nat.le_refl _) _).block w1.heap.size h1.lt).trans h1)
    have := (HRN.out _ e.symm).2.2.2
    omega
  have hR9 : RowG w9 base (fun k => F k ∨ w.heap.size ≤ k) (.slice (some ⟨g9, 0, none⟩) (fs.length + 1) c9) (fs ++ [l]) := RowG.snoc (by rw [HL58.out]; exact hown9) hxl (fun i l' hi => by
    obtain ⟨g', h1, h2, h3⟩ := HENT.out i l' hi
    exact ⟨g', h1, .inl h2, h3.chg hCh HNB.out⟩) (.inr (by have := HBZ1.out; omega)) hB9
  have hg9 : g9 ≠ gz ∧ g9 ≠ g := by
    obtain ⟨_, _, cur, hcur⟩ := hR9.own g9 rfl
    constructor
    · intro e
      unfold ZAt Cel at hZ9
      rw [← e, hcur] at hZ9
      cases hZ9
    · intro e
      unfold StAt Cel at hS9
      rw [← e, hcur] at hS9
      cases hS9
  have hoS : Only w9 (w9.setCell ⟨gz, i * 2, none⟩ (.slice (some ⟨g9, 0, none⟩) (fs.length + 1) c9)) gz := (Only.refl _ _).set _ _
  have hZ5 : ZAt (w9.setCell ⟨gz, i * 2, none⟩ (.slice (some ⟨g9, 0, none⟩) (fs.length + 1) c9)) gz (zs.set i (.slice (some ⟨g9, 0, none⟩) (fs.length + 1) c9, kp)) := by
    have h1 := Cel.set hZ9 (i * 2) (.slice (some ⟨g9, 0, none⟩) (fs.length + 1) c9)
    rw [zcells_set0 zs i _ HI.out] at h1
    exact h1
  have hS5 : StAt (w9.setCell ⟨gz, i * 2, none⟩ (.slice (some ⟨g9, 0, none⟩) (fs.length + 1) c9)) g sl (less lf) (ca + 1) wr (.slice (some ⟨gz, 0, none⟩) zs.length zs.length) cn bd lg := Cel.only hS9 hoS hgz
  have hR5 := hR9.chgB (Chg.of_only hoS) (NoB.cel hZ9 (by decide)) (fun k hk e => by cases hk; exact hg9.1 e)
  have hCA : Chg w1 (w9.setCell ⟨gz, i * 2, none⟩ (.slice (some ⟨g9, 0, none⟩) (fs.length + 1) c9)) (fun k => k = gz ∨ (Value.slice pf fs.length capf).ownBlock = some k) := (hCh.mono (fun _ _ h => .inr h)).trans (Chg.of_only hoS) (fun _ _ h => .inl h)
  have hnbA : NoB w1 (fun k => k = gz ∨ (Value.slice pf fs.length capf).ownBlock = some k) := fun k hk cur fz e => by
    rcases hk with hk | hk
    · exact NoB.cel HZ1.out (by decide) k hk cur fz e
    · exact HNB.out k hk cur fz e
  have hL5 : RowG (w9.setCell ⟨gz, i * 2, none⟩ (.slice (some ⟨g9, 0, none⟩) (fs.length + 1) c9)) base F lg logs := RowG.chgB HLOG.out hCA hnbA (fun k hk e => by
    rcases e with e | e
    · exact row_ne_state HLOG.out HZ1.out (by decide) k hk e
    · exact hne k e hk)
  have hb5 : ByV (w9.setCell ⟨gz, i * 2, none⟩ (.slice (some ⟨g9, 0, none⟩) (fs.length + 1) c9)) p l := ByV.chg HB1.out hCA hnbA
  have hC5 : Chg w (w9.setCell ⟨gz, i * 2, none⟩ (.slice (some ⟨g9, 0, none⟩) (fs.length + 1) c9)) (fun k => k = g ∨ k = gz ∨ (Value.slice pf fs.length capf).ownBlock = some k) := (((Chg.refl w _).drew).trans (Chg.of_only ho1) (fun _ _ h => .inl h)).trans hCA (fun _ _ h => .inr h)
  have hV5 : (Value.slice pf fs.length capf).ownBlock = some g9 ∨ w.heap.size ≤ g9 := by
    rcases hat9 with h | h
    · exact .inl h
    · right
      have := HBZ1.out
      omega
  have HR5 := (show Hid _ from hR5)
  have HL5 := (show Hid _ from hL5)
  have HB5 := (show Hid _ from hb5)
  have HC5 := (show Hid _ from hC5)
  have HS5 := (show Hid _ from hS5)
  have HZ5 := (show Hid _ from hZ5)
  have HV5 := (show Hid _ from hV5)
  have HG9 := (show Hid _ from hg9)
  have c7 := hS5.cells.2.2.2.2.2.2.2.1
  have d4 := hS5.cells.2.2.2.2.1
  have cf := hS5.cells.2.2.2.2.2.2.2.2
  have d0 := (hZ5.cells i (.slice (some ⟨g9, 0, none⟩) (fs.length + 1) c9, kp) (by rw [List.getElem?_set_self hil])).1
  simp only at d0
  clear hR5 hL5 hb5 hC5 hS5 hZ5 hV5 hg9 hCA hnbA hB9 hR9 hoS hCh HENT HN HK2 HOWN HST HBLK HRD HI HLOG HB1 HS1 HZ1 HRN HNB hown9 hgrow9 hat9 hlt9 hB2 hb2 hzc hzc' hxl c0 c4 q0 hS9 hZ9 ho1
  go_wp2_with fail
  clear y0 yf y4
  generalize (w9.setCell ⟨gz, i * 2, none⟩ (.slice (some ⟨g9, 0, none⟩) (fs.length + 1) c9)) = W5 at *
  obtain ⟨pl, capl, hlv⟩ := RowG.form HL5.out
  subst hlv
  have HRN : Hid (∀ k', (Value.slice pl logs.length capl).ownBlock = some k' → base ≤ k' ∧ k' ≠ g ∧ k' ≠ gz ∧ k' < W5.heap.size) := fun k hk => ⟨(RowG.own HL5.out k hk).1, row_ne_state HL5.out HS5.out (by decide) k hk, row_ne_state HL5.out HZ5.out (by decide) k hk, (RowG.own HL5.out k hk).2.1⟩
  have HNB : Hid (NoB W5 (fun k' => (Value.slice pl logs.length capl).ownBlock = some k')) := fun k' hk' cur' fz' e => by
    obtain ⟨cur, h3⟩ := (RowG.own HL5.out k' hk').2.2
    rw [h3] at e
    cases e
  obtain ⟨ys, hown, hent⟩ := HL5.out
  have hyl : ys.length = logs.length := by have := hown.1; omega
  have HENT := (show Hid _ from hent)
  have HN : Hid (logs.length < 1000000) := hll
  have HK2 : Hid (∀ w2, Below W5.drew.heap.size W5.drew w2 → w2.cell? ⟨g, 7, none⟩ = some (.slice pl logs.length capl) ∧ (∀ o : Obj, (w2.alloc o).cell? ⟨g, 7, none⟩ = some (.slice pl logs.length capl))) := fun w2 hb2 => by
    have h1 : StAt w2 g sl (less lf) (ca + 1) wr (.slice (some ⟨gz, 0, none⟩) zs.length zs.length) cn bd (.slice pl logs.length capl) := Cel.below (w := W5.drew) HS5.out hb2 (Cel.lt (w := W5.drew) HS5.out)
    refine ⟨h1.cells.2.2.2.2.2.2.2.1, fun o => ?_⟩
    have h3 : StAt (w2.alloc o) g sl (less lf) (ca + 1) wr (.slice (some ⟨gz, 0, none⟩) zs.length zs.length) cn bd (.slice pl logs.length capl) := Cel.below h1 ((Below.refl w2.heap.size w2).alloc (Nat.le_refl _) o) (Cel.lt h1)
    exact h3.cells.2.2.2.2.2.2.2.1
  have HOWN : Hid (∀ w2, Below W5.drew.heap.size W5.drew w2 → ∀ o : Obj, (w2.alloc o).ownsRow base 66 1 (.slice pl logs.length capl) logs.length ys) := fun w2 hb2 o =>
    ownsRow_chg (w := W5.drew) hown (Chg.of_below (hb2.trans ((Below.refl _ _).alloc hb2.size o)) (fun _ => False)) (fun _ _ h => h)
  have HST : Hid (∀ w2, Below W5.drew.heap.size W5.drew w2 → ∀ (o : Obj) (w9 : World), (w2.alloc o).grownBy w9 (Value.slice pl logs.length capl).ownBlock → Chg W5 w9 (fun k' => (Value.slice pl logs.length capl).ownBlock = some k')) := fun w2 hb2 o w9 hg =>
    (Chg.of_below (a := W5) ((Below.refl W5.heap.size W5).drew.trans (hb2.trans ((Below.refl _ _).alloc hb2.size o))) _).trans (Chg.of_grown hg) (fun i hi h => h)
  have HBLK : Hid (∀ w2 : World, w2.heap.size = W5.heap.size + 1 → ∀ vs : Array Value, (w2.alloc (Obj.cells vs 66)).heap[W5.heap.size + 1]? = some (Obj.cells vs 66 (0, 0))) := fun w2 h vs => by rw [← h]; exact heap_alloc_new w2 _
  have HRD : Hid (Rds W5.drew p 58 l) := by have := (ByV.rds HB5.out).below ((Below.refl _ _).drew); rw [HL58.out] at this; exact this
  have HW5 : Hid (w.heap.size ≤ W5.heap.size) := HC5.out.size
  have hHeld : W5.drew.cell? ⟨g, 7, none⟩ = some (.slice pl logs.length capl) := c7
  clear hown hent hll
  refine wp_region_cut_held (S := fun w' => w'.cell? ⟨g, 7, none⟩ = some (.slice pl logs.length capl)) 9 (by kernel_rfl) (by decide) (by kernel_rfl) (by kernel_rfl) (by kernel_rfl) (by kernel_rfl) ?_
  simp only [List.take_succ_cons, List.take_zero, List.drop_succ_cons, List.drop_zero]
  refine held_take (i := 0) (v := ?u0) rfl (by kernel_rfl) (by kernel_rfl) (by kernel_rfl) (fun _ _ _ h => h) (Or.inl ⟨by rfl, ?hu0⟩) hHeld ?more0
  case hu0 => (intro w' hSw; (try dsimp only at hSw); go_simp; try with_reducible rfl)
  simp only [Act.put, List.setIfInBounds_toArray, List.set_cons_zero, List.set_cons_succ]
  refine held_take (i := 1) (v := ?u1) rfl (by kernel_rfl) (by kernel_rfl) (by kernel_rfl) (fun _ _ _ h => h) (Or.inl ⟨by rfl, ?hu1⟩) hHeld ?more1
  case hu1 => (intro w' hSw; (try dsimp only at hSw); go_simp; try with_reducible rfl)
  simp only [Act.put, List.setIfInBounds_toArray, List.set_cons_zero, List.set_cons_succ]
  refine held_take (i := 2) (v := ?u2) rfl (by kernel_rfl) (by kernel_rfl) (by kernel_rfl) (fun _ _ _ h => h) (Or.inl ⟨by rfl, ?hu2⟩) hHeld ?more2
  case hu2 => (intro w' hSw; (try dsimp only at hSw); go_simp; try with_reducible rfl)
  simp only [Act.put, List.setIfInBounds_toArray, List.set_cons_zero, List.set_cons_succ]
  refine held_take (i := 3) (v := ?u3) rfl (by kernel_rfl) (by kernel_rfl) (by kernel_rfl) (fun _ _ _ h => h) (Or.inl ⟨by rfl, ?hu3⟩) hHeld ?more3
  case hu3 => (intro w' hSw; (try dsimp only at hSw); go_simp; try with_reducible rfl)
  simp only [Act.put, List.setIfInBounds_toArray, List.set_cons_zero, List.set_cons_succ]
  refine held_take (i := 4) (v := ?u4) rfl (by kernel_rfl) (by kernel_rfl) (by kernel_rfl) (fun _ _ _ h => h) (Or.inl ⟨by rfl, ?hu4⟩) hHeld ?more4
  case hu4 => (intro w' hSw; (try dsimp only at hSw); go_simp; try with_reducible rfl)
  simp only [Act.put, List.setIfInBounds_toArray, List.set_cons_zero, List.set_cons_succ]
  refine held_take (i := 5) (v := ?u5) rfl (by kernel_rfl) (by kernel_rfl) (by kernel_rfl) (fun _ _ _ h => h) (Or.inl ⟨by rfl, ?hu5⟩) hHeld ?more5
  case hu5 => (intro w' hSw; (try dsimp only at hSw); go_simp; try with_reducible rfl)
  simp only [Act.put, List.setIfInBounds_toArray, List.set_cons_zero, List.set_cons_succ]
  clear hHeld
  refine held_one (i := 6) rfl (by kernel_rfl) (fun K hK => ?_)
  go_simp
  go_at_call 107
  refine (clone_sl p 58 c l _ (by decide) HRD.out).mono ?_
  rintro e w2 ⟨rfl, hB2, hb2, hzc⟩
  refine hK.out _ _ (HK2.out w2 hb2).1 (fun hHeld => ?_)
  clear hK K hHeld
  refine held_one (i := 7) rfl (by kernel_rfl) (fun K hK => ?_)
  go_simp
  refine hK.out _ _ ((HK2.out w2 hb2).2 _) (fun hHeld => ?_)
  clear hK K hHeld
  refine held_one (i := 8) rfl (by kernel_rfl) (fun K hK => ?_)
  refine step_append_lies _ rfl (.tmp 68) (.tmp 71) 104 rfl base 66 ib _ 1 24 Tryz.underlying104 hib hz0 hz1' hz2 rfl (by omega) (.slice pl logs.length capl) logs.length ys rfl (HOWN.out w2 hb2 _) ⟨W5.heap.size + 1, 0, none⟩ 1 1 [.slice (some ⟨W5.heap.size, 0, none⟩) 58 58] rfl rfl (World.news_of_block (HBLK.out w2 hzc _)) (by intro u hu; simp at hu; subst hu; rfl) (by omega) (by have := HN.out; unfold maxLen; omega) (by have := HN.out; omega) (by have e : w2.heap.size = W5.heap.size + 1 := hzc; have := HBB.out; have e2 := HW5.out; simp; omega) (W5.heap.size + 2) (by have e : w2.heap.size = W5.heap.size + 1 := hzc; simp; omega) ?_
  intro g8 c8 w8 hown8 hgrow8 hat8 hlt8
  have hCh := HST.out w2 hb2 _ w8 hgrow8
  have hS8 : StAt w8 g sl (less lf) (ca + 1) wr (.slice (some ⟨gz, 0, none⟩) zs.length zs.length) cn bd (.slice pl logs.length capl) := Cel.chg (w := W5) HS5.out hCh (fun e => (HRN.out _ e).2.1 rfl)
  have y7 := hS8.cells.2.2.2.2.2.2.2.1
  have yf := hS8.cells.2.2.2.2.2.2.2.2
  refine hK.out _ _ y7 (fun hHeld => ?_)
  clear hK K hHeld
  refine wpAnyH_done (by kernel_rfl) ?_ _
  show wpList Tryz.prog _ _ _ _ _
  have hzc' : Hid (w2.heap.size = W5.heap.size + 1) := hzc
  have hB8 : Blk w8 W5.heap.size l := by
    have h1 : Blk w2 W5.heap.size l := hB2
    refine (hgrow8.block W5.heap.size (by have := hzc'.out; simp; omega) (fun e => ?_)).trans ((((Below.refl w2.heap.size w2).alloc (Nat.le_refl _) _).block W5.heap.size h1.lt).trans h1)
    have := (HRN.out _ e.symm).2.2.2
    omega
  have hR8 : RowG w8 base (fun k => F k ∨ w.heap.size ≤ k) (.slice (some ⟨g8, 0, none⟩) (logs.length + 1) c8) (logs ++ [l]) := RowG.snoc (by rw [HL58.out]; exact hown8) hyl (fun i l' hi => by
    obtain ⟨g', h1, h2, h3⟩ := HENT.out i l' hi
    exact ⟨g', h1, .inl h2, h3.chg hCh HNB.out⟩) (.inr HW5.out) hB8
  have hg8 : g8 ≠ g := by
    obtain ⟨_, _, cur, hcur⟩ := hR8.own g8 rfl
    intro e
    unfold StAt Cel at hS8
    rw [← e, hcur] at hS8
    cases hS8
  have hoS : Only w8 (w8.setCell ⟨g, 7, none⟩ (.slice (some ⟨g8, 0, none⟩) (logs.length + 1) c8)) g := (Only.refl _ _).set _ _
  have hS9 : StAt (w8.setCell ⟨g, 7, none⟩ (.slice (some ⟨g8, 0, none⟩) (logs.length + 1) c8)) g sl (less lf) (ca + 1) wr (.slice (some ⟨gz, 0, none⟩) zs.length zs.length) cn bd (.slice (some ⟨g8, 0, none⟩) (logs.length + 1) c8) := by
    have := Cel.set hS8 7 (.slice (some ⟨g8, 0, none⟩) (logs.length + 1) c8)
    unfold StAt
    simpa using this
  have hCA : Chg W5 (w8.setCell ⟨g, 7, none⟩ (.slice (some ⟨g8, 0, none⟩) (logs.length + 1) c8)) (fun k => k = g ∨ (Value.slice pl logs.length capl).ownBlock = some k) := (hCh.mono (fun _ _ h => .inr h)).trans (Chg.of_only hoS) (fun _ _ h => .inl h)
  have hnbA : NoB W5 (fun k => k = g ∨ (Value.slice pl logs.length capl).ownBlock = some k) := fun k hk cur fz e => by
    rcases hk with hk | hk
    · exact NoB.state HS5.out k hk cur fz e
    · exact HNB.out k hk cur fz e
  have hdis : ∀ k, (Value.slice (some ⟨g9, 0, none⟩) (fs.length + 1) c9).ownBlock = some k → (Value.slice pl logs.length capl).ownBlock ≠ some k := fun k hk hk2 => by
    cases hk
    rcases HV5.out with h | h
    · exact hne g9 h hk2
    · have := HLW.out g9 hk2
      omega
  have hZ9 : ZAt (w8.setCell ⟨g, 7, none⟩ (.slice (some ⟨g8, 0, none⟩) (logs.length + 1) c8)) gz (zs.set i (.slice (some ⟨g9, 0, none⟩) (fs.length + 1) c9, kp)) := Cel.chg HZ5.out hCA (fun e => by
    rcases e with e | e
    · exact hgz' e
    · exact (HRN.out _ e).2.2.1 rfl)
  have hR9 : RowG (w8.setCell ⟨g, 7, none⟩ (.slice (some ⟨g8, 0, none⟩) (logs.length + 1) c8)) base (fun k => F k ∨ w.heap.size ≤ k) (.slice (some ⟨g9, 0, none⟩) (fs.length + 1) c9) (fs ++ [l]) := RowG.chgB HR5.out hCA hnbA (fun k hk e => by
    rcases e with e | e
    · cases hk; exact HG9.out.2 e
    · exact hdis k hk e)
  have hL9 := hR8.chgB (Chg.of_only hoS) (NoB.state hS8) (fun k hk e => by cases hk; exact hg8 e)
  have hC9 : Chg w (w8.setCell ⟨g, 7, none⟩ (.slice (some ⟨g8, 0, none⟩) (logs.length + 1) c8)) (fun k => k = g ∨ k = gz ∨ (Value.slice pf fs.length capf).ownBlock = some k ∨ (Value.slice pl logs.length capl).ownBlock = some k) := (HC5.out.mono (fun _ _ h => by rcases h with h | h | h <;> simp [h])).trans hCA (fun _ _ h => by rcases h with h | h <;> simp [h])
  have hf9 : (Value.slice (some ⟨g9, 0, none⟩) (fs.length + 1) c9).ownBlock = (Value.slice pf fs.length capf).ownBlock ∨ ∃ k, (Value.slice (some ⟨g9, 0, none⟩) (fs.length + 1) c9).ownBlock = some k ∧ w.heap.size ≤ k := by
    rcases HV5.out with h | h
    · exact .inl h.symm
    · exact .inr ⟨g9, rfl, h⟩
  have hl9 : (Value.slice (some ⟨g8, 0, none⟩) (logs.length + 1) c8).ownBlock = (Value.slice pl logs.length capl).ownBlock ∨ ∃ k, (Value.slice (some ⟨g8, 0, none⟩) (logs.length + 1) c8).ownBlock = some k ∧ w.heap.size ≤ k := by
    rcases hat8 with h | h
    · exact .inl h.symm
    · exact .inr ⟨g8, rfl, by have := HW5.out; omega⟩
  have hd9 : ∀ k, (Value.slice (some ⟨g9, 0, none⟩) (fs.length + 1) c9).ownBlock = some k → (Value.slice (some ⟨g8, 0, none⟩) (logs.length + 1) c8).ownBlock ≠ some k := fun k hk hk2 => by
    rcases hat8 with h | h
    · exact hdis k hk (h.trans (by cases hk2; rfl))
    · cases hk
      cases hk2
      have := (RowG.own HR5.out g9 rfl).2.1
      omega
  have e4 := hS9.cells.2.2.2.2.1
  have e0 := (hZ9.cells i (.slice (some ⟨g9, 0, none⟩) (fs.length + 1) c9, kp) (by rw [List.getElem?_set_self hil])).1
  simp only at e0
  have HFIN := (show Hid _ from And.intro hC9 (show ∃ fv' lg', StAt (w8.setCell ⟨g, 7, none⟩ (.slice (some ⟨g8, 0, none⟩) (logs.length + 1) c8)) g sl (less lf) (ca + 1) wr (.slice (some ⟨gz, 0, none⟩) zs.length zs.length) cn bd lg' ∧ ZAt (w8.setCell ⟨g, 7, none⟩ (.slice (some ⟨g8, 0, none⟩) (logs.length + 1) c8)) gz (zs.set i (fv', kp)) ∧ RowG (w8.setCell ⟨g, 7, none⟩ (.slice (some ⟨g8, 0, none⟩) (logs.length + 1) c8)) base (fun k => F k ∨ w.heap.size ≤ k) fv' (fs ++ [l]) ∧ RowG (w8.setCell ⟨g, 7, none⟩ (.slice (some ⟨g8, 0, none⟩) (logs.length + 1) c8)) base (fun k => F k ∨ w.heap.size ≤ k) lg' (logs ++ [l]) ∧
        (fv'.ownBlock = (Value.slice pf fs.length capf).ownBlock ∨ ∃ k, fv'.ownBlock = some k ∧ w.heap.size ≤ k) ∧ (lg'.ownBlock = (Value.slice pl logs.length capl).ownBlock ∨ ∃ k, lg'.ownBlock = some k ∧ w.heap.size ≤ k) ∧ (∀ k, fv'.ownBlock = some k → lg'.ownBlock ≠ some k) from ⟨_, _, hS9, hZ9, hR9, hL9, hf9, hl9, hd9⟩))
  clear hC9 hS9 hZ9 hR9 hL9 hf9 hl9 hd9 hdis hCA hnbA hoS hg8 hR8 hB8 hS8 hCh HENT HK2 HOWN HST HBLK HRD HR5 HL5 HB5 HC5 HS5 HZ5 HV5 HG9 HRN HNB hown8 hgrow8 hat8 hlt8 hB2 hb2 hzc hzc' c7 d4 d0 cf hne
  go_wp2_with fail
  have hw : wrap64 (fs.length : Int) = (fs.length : Int) := by
    have := HNF.out
    unfold wrap64
    omega
  rw [hw]
  go_ret2
  exact ⟨rfl, HFIN.out⟩
end Go.Proofs.YtloaefcgcniacaaGreatDoor
