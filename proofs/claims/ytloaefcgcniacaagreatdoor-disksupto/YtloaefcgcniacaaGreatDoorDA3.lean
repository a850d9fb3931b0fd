import Derived.Test.YtloaefcgcniacaaGreatDoorDA2
namespace Go.Proofs.YtloaefcgcniacaaGreatDoor
open Go.RowKit
set_option linter.unusedVariables false

set_option maxRecDepth 20000 in
set_option maxHeartbeats 1000000 in
theorem hLog_in (base x g i : Nat) (sl lf ca wr cn : Int) (zs bd lg : Value) (logs : List (List Nat)) (l : List Nat) (w : World) (hx : HdAt w x g) (h : StAt w g sl lf ca wr zs cn bd lg) (hlog : RowB w base lg logs) (hi : logs[i]? = some l) (hl : l.length ≤ 2000000) :
    Calls Tryz.prog 111 #[.pointer (some ⟨x, 0, none⟩), .int .i64 (i : Int)] w fun e w' => ∃ g', e = .returned (.slice (some ⟨g', 0, none⟩) l.length l.length) ∧ w.heap.size ≤ g' ∧ Blk w' g' l ∧ Below w.heap.size w w' := by
  have k0 := hx.cell0
  obtain ⟨p, cap, rfl⟩ := hlog.form
  obtain ⟨gr, gb, rfl, hgr, hcell, _, hblk⟩ := hlog.cell i _ hi
  have hil : i < logs.length := (List.getElem?_eq_some_iff.1 hi).1
  have hlti : (i : Int) < (logs.length : Int) := by omega
  have hd1 : decide ((i : Int) < 0) = false := decide_eq_false (by omega)
  have c7 := h.cells.2.2.2.2.2.2.2.1
  have HL := (show Hid _ from hl)
  have HRD : Hid (∀ q, Rds (w.drewN q) (some ⟨gb, 0, none⟩) l.length l) := fun q => ⟨rfl, fun _ => ⟨gb, 0, rfl, hblk.lt, hblk.rd⟩⟩
  clear h hx hlog hi hl hblk
  go_enter Tryz.func111, Tryz.ntmps111
  go_wp2_with fail
  refine (clone_sl _ _ _ l w HL.out (HRD.out 0)).mono ?_
  rintro e w2 ⟨rfl, hB2, hb2, hz2⟩
  clear hcell c7 k0
  go_wp2
  go_ret
  exact ⟨w.heap.size, rfl, Nat.le_refl _, hB2, hb2⟩

theorem infoB : (Tryz.prog.info? 66).map (fun i => (i.zero, i.size, i.bytes)) = some (some (.slice none 0 0), 1, 24) := by kernel_rfl

theorem RowB.nil (w : World) (base : Nat) : RowB w base (.slice none 0 0) [] := ⟨[], World.ownsRow_nil _ _ _ _, fun i l h => by cases h⟩
theorem RowB.snoc {w : World} {base g gb cap n : Nat} {ls : List (List Nat)} {l : List Nat} {xs : List Value} (h : w.ownsRow base 66 1 (.slice (some ⟨g, 0, none⟩) n cap) n (xs ++ [.slice (some ⟨gb, 0, none⟩) l.length l.length])) (hx : xs.length = ls.length)
    (hr : ∀ (i : Nat) (l : List Nat), ls[i]? = some l → ∃ g, xs[i]? = some (Value.slice (some ⟨g, 0, none⟩) l.length l.length) ∧ base ≤ g ∧ Blk w g l) (hgb : base ≤ gb) (hB : Blk w gb l) : RowB w base (.slice (some ⟨g, 0, none⟩) n cap) (ls ++ [l]) := by
  have hl : (ls ++ [l]).length = n := by have := h.1; simp at this; simp; omega
  refine ⟨xs ++ [.slice (some ⟨gb, 0, none⟩) l.length l.length], by rw [hl]; exact h, fun i l' hi => ?_⟩
  by_cases hlt : i < ls.length
  · rw [List.getElem?_append_left hlt] at hi
    obtain ⟨g', h1, h2, h3⟩ := hr i l' hi
    exact ⟨g', by rw [List.getElem?_append_left (by omega)]; exact h1, h2, h3⟩
  · have : i = ls.length := by
      have := (List.getElem?_eq_some_iff.1 hi).1
      simp at this
      omega
    subst this
    simp at hi
    subst hi
    exact ⟨gb, by rw [← hx]; simp, hgb, hB⟩

set_option maxRecDepth 20000 in
set_option maxHeartbeats 2000000 in
theorem clones_any (base : Nat) (v : Value) (kp : Int) (fs : List (List Nat)) (w : World) (hrow : RowB w base v fs) (hsz : ∀ l ∈ fs, l.length ≤ 2000000) (hfl : fs.length < 1000000) :
    Calls Tryz.prog 122 #[.agg #[v, .int .i64 kp]] w fun e w' => ∃ v', e = .returned (.agg #[v', .int .i64 kp]) ∧ RowB w' w.heap.size v' fs ∧ Below w.heap.size w w' := by
  obtain ⟨ib, hib, hqb⟩ : ∃ i, Tryz.prog.info? 66 = some i ∧ (i.zero, i.size, i.bytes) = (some (Value.slice none 0 0), 1, 24) := by
    have := infoB
    cases hq : Tryz.prog.info? 66 with
    | none => rw [hq] at this; cases this
    | some i => rw [hq] at this; exact ⟨i, rfl, by simpa using this⟩
  have hz0 : ib.zero = some (Value.slice none 0 0) := congrArg (·.1) hqb
  have hz1 : ib.size = 1 := congrArg (·.2.1) hqb
  have hz2 : ib.bytes = 24 := congrArg (·.2.2) hqb
  obtain ⟨p, cap, rfl⟩ := hrow.form
  have HROW := (show Hid _ from hrow)
  have HSZ := (show Hid _ from hsz)
  have HFL := (show Hid _ from hfl)
  clear hrow hsz hfl hqb
  go_enter Tryz.func122, Tryz.ntmps122
  go_wp2_with fail
  have hbW : Below w.heap.size w (((w.alloc (Obj.cells #[Value.slice p fs.length cap, Value.int IntKind.i64 kp] 111)).alloc (Obj.cells #[Value.slice none 0 0, Value.int IntKind.i64 0] 111)).alloc (Obj.cells #[Value.slice none 0 0, Value.int IntKind.i64 kp] 111)) := (((Below.refl _ _).alloc (Nat.le_refl _) _).alloc (by simp) _).alloc (by simp; omega) _
  have hc1 : Cel (((w.alloc (Obj.cells #[Value.slice p fs.length cap, Value.int IntKind.i64 kp] 111)).alloc (Obj.cells #[Value.slice none 0 0, Value.int IntKind.i64 0] 111)).alloc (Obj.cells #[Value.slice none 0 0, Value.int IntKind.i64 kp] 111)) (w.heap.size + 1) 111 #[Value.slice none 0 0, Value.int IntKind.i64 0] := by
    have := Cel.new (w.alloc (Obj.cells #[Value.slice p fs.length cap, Value.int IntKind.i64 kp] 111)) 111 #[Value.slice none 0 0, Value.int IntKind.i64 0]
    simp only [World.size_alloc] at this
    exact this.below ((Below.refl _ _).alloc (Nat.le_refl _) _) (by simp)
  have hc2 : Cel (((w.alloc (Obj.cells #[Value.slice p fs.length cap, Value.int IntKind.i64 kp] 111)).alloc (Obj.cells #[Value.slice none 0 0, Value.int IntKind.i64 0] 111)).alloc (Obj.cells #[Value.slice none 0 0, Value.int IntKind.i64 kp] 111)) (w.heap.size + 1 + 1) 111 #[Value.slice none 0 0, Value.int IntKind.i64 kp] := by
    have := Cel.new ((w.alloc (Obj.cells #[Value.slice p fs.length cap, Value.int IntKind.i64 kp] 111)).alloc (Obj.cells #[Value.slice none 0 0, Value.int IntKind.i64 0] 111)) 111 #[Value.slice none 0 0, Value.int IntKind.i64 kp]
    simpa using this
  have hVz : w.heap.size + 3 = (((w.alloc (Obj.cells #[Value.slice p fs.length cap, Value.int IntKind.i64 kp] 111)).alloc (Obj.cells #[Value.slice none 0 0, Value.int IntKind.i64 0] 111)).alloc (Obj.cells #[Value.slice none 0 0, Value.int IntKind.i64 kp] 111)).heap.size := by simp
  generalize (((w.alloc (Obj.cells #[Value.slice p fs.length cap, Value.int IntKind.i64 kp] 111)).alloc (Obj.cells #[Value.slice none 0 0, Value.int IntKind.i64 0] 111)).alloc (Obj.cells #[Value.slice none 0 0, Value.int IntKind.i64 kp] 111)) = V at *
  go_loopw [12] (fun i wr => ∃ k : Nat, k ≤ fs.length ∧ i = .int .i64 k ∧ Below w.heap.size w wr ∧ V.heap.size ≤ wr.heap.size ∧ Cel wr (w.heap.size + 1) 111 #[Value.slice none 0 0, Value.int IntKind.i64 0] ∧ ∃ ov, Cel wr (w.heap.size + 1 + 1) 111 #[ov, Value.int IntKind.i64 kp] ∧ RowB wr w.heap.size ov (fs.take k)) (fun i _ => fs.length - (intOf i).toNat)
  case atStart => exact ⟨0, Nat.zero_le _, rfl, hbW, Nat.le_refl _, hc1, _, hc2, by simpa using RowB.nil V w.heap.size⟩
  case round =>
    clear hc1 hc2 hbW
    obtain ⟨k, hk, rfl, hb, hvw, hcr, ov, hco, hrw⟩ := hrel
    by_cases hlt : k < fs.length
    · have hlti : (k : Int) < (fs.length : Int) := by omega
      have hkf : fs[k]? = some fs[k] := List.getElem?_eq_getElem hlt
      obtain ⟨gr, gb, rfl, hgr, hcell, _, hblk⟩ := RowB.cell HROW.out k _ hkf
      have hl2 := HSZ.out _ (List.getElem_mem hlt)
      have q0 := (hb.cell (p := ⟨gr, k, none⟩) hgr).trans hcell
      have hblk' : Blk wr gb fs[k] := hblk.below hb hblk.lt
      have htk : fs.take (k + 1) = fs.take k ++ [fs[k]] := List.take_succ_eq_append_getElem hlt
      generalize fs[k] = l at *
      have hlen : (fs.take k).length = k := by rw [List.length_take]; omega
      obtain ⟨po, co, hov⟩ := hrw.form
      obtain ⟨xs, hown, hent⟩ := hrw
      rw [hlen] at hov hown
      subst hov
      have hxl : xs.length = (fs.take k).length := by have := hown.1; rw [hlen]; omega
      have hoz := hco.lt
      have hrz := hcr.lt
      have hrn : ∀ k', (Value.slice po k co).ownBlock = some k' → w.heap.size ≤ k' ∧ k' ≠ w.heap.size + 1 + 1 ∧ k' ≠ w.heap.size + 1 ∧ k' < wr.heap.size := fun k' hk' => by
        rcases hown.2 with ⟨hv, _⟩ | ⟨g, cap', cur, hv, hbg, hg, _⟩
        · rw [hv] at hk'; cases hk'
        · rw [hv] at hk'
          cases hk'
          refine ⟨hbg, fun e => ?_, fun e => ?_, (Array.getElem?_eq_some_iff.1 hg).1⟩
          · subst e; unfold Cel at hco; rw [hg] at hco; cases hco
          · subst e; unfold Cel at hcr; rw [hg] at hcr; cases hcr
      have o0 := hco.cell 0
      simp only [List.getElem?_toArray, List.getElem?_cons_zero] at o0
      have hnb : NoB wr (fun k' => (Value.slice po k co).ownBlock = some k') := fun k' hk' cur' fz' e => by
        rcases hown.2 with ⟨hv, _⟩ | ⟨g, cap', cur, hv, hbg, hg, _⟩
        · rw [hv] at hk'; cases hk'
        · rw [hv] at hk'
          cases hk'
          rw [hg] at e
          cases e
      have HNB := (show Hid _ from hnb)
      clear hnb
      have hbz := hb.size
      have HN : Hid (k < 1000000) := by have := HFL.out; show _ < _; omega
      have HK2 : Hid (∀ w2, Below wr.drew.heap.size wr.drew w2 → Cel w2 (w.heap.size + 1 + 1) 111 #[.slice po k co, Value.int IntKind.i64 kp] ∧ ∀ o : Obj, (w2.alloc o).cell? ⟨w.heap.size + 1 + 1, 0, none⟩ = some (.slice po k co)) := fun w2 hb2 => by
        have h1 : Cel w2 (w.heap.size + 1 + 1) 111 #[.slice po k co, Value.int IntKind.i64 kp] := Cel.below (w := wr.drew) hco hb2 hco.lt
        refine ⟨h1, fun o => ?_⟩
        have h2 := h1.below ((Below.refl w2.heap.size w2).alloc (Nat.le_refl _) o) h1.lt
        have := h2.cell 0
        simpa using this
      have HOWN : Hid (∀ w2, Below wr.drew.heap.size wr.drew w2 → ∀ o : Obj, (w2.alloc o).ownsRow w.heap.size 66 1 (.slice po k co) k xs) := fun w2 hb2 o =>
        ownsRow_chg (w := wr.drew) hown (Chg.of_below (hb2.trans ((Below.refl _ _).alloc hb2.size o)) (fun _ => False)) (fun _ _ h => h)
      have HST : Hid (∀ w2, Below wr.drew.heap.size wr.drew w2 → ∀ (o : Obj) (w9 : World), (w2.alloc o).grownBy w9 (Value.slice po k co).ownBlock → Chg wr w9 (fun k' => (Value.slice po k co).ownBlock = some k')) := fun w2 hb2 o w9 hg =>
        (Chg.of_below (a := wr) ((Below.refl wr.heap.size wr).drew.trans (hb2.trans ((Below.refl _ _).alloc hb2.size o))) _).trans (Chg.of_grown hg) (fun i hi h => h)
      have HBLK : Hid (∀ w2 : World, w2.heap.size = wr.heap.size + 1 → ∀ vs : Array Value, (w2.alloc (Obj.cells vs 66)).heap[wr.heap.size + 1]? = some (Obj.cells vs 66 (0, 0))) := fun w2 h vs => by rw [← h]; exact heap_alloc_new w2 _
      have HL2 := (show Hid _ from hl2)
      have HRD : Hid (Rds wr.drew (some ⟨gb, 0, none⟩) l.length l) := ⟨rfl, fun _ => ⟨gb, 0, rfl, hblk'.lt, hblk'.rd⟩⟩
      have HOW := (show Hid _ from hown)
      have HENT := (show Hid _ from hent)
      have HRN := (show Hid _ from hrn)
      have HCO := (show Hid _ from hco)
      have HCR := (show Hid _ from hcr)
      clear hown hent hrn hco hcr hblk hblk' hl2 hcell HROW HSZ
      go_wp2_with fail
      go_region_law (first
        | (refine step_append_lies _ rfl (.tmp 17) (.tmp 20) 104 rfl w.heap.size 66 ib _ 1 24 Tryz.underlying104 hib hz0 hz1 hz2 rfl (by omega) (.slice po k co) k xs rfl (HOWN.out w2 hb2 _) ⟨wr.heap.size + 1, 0, none⟩ 1 1 [.slice (some ⟨wr.heap.size, 0, none⟩) l.length l.length] rfl rfl (World.news_of_block (HBLK.out w2 hzc _)) (by intro u hu; simp at hu; subst hu; rfl) (by omega) (by have := HN.out; unfold maxLen; omega) (by have := HN.out; omega) (by have e : w2.heap.size = wr.heap.size + 1 := hzc; simp; omega) (wr.heap.size + 2) (by have e : w2.heap.size = wr.heap.size + 1 := hzc; simp; omega) ?_; intro g9 c9 w9 hown9 hgrow9 hat9 hlt9; have hC9 : Cel w9 (w.heap.size + 1 + 1) 111 #[.slice po k co, Value.int IntKind.i64 kp] := Cel.chg HCO.out (HST.out w2 hb2 _ w9 hgrow9) (fun e => (HRN.out _ e).2.1 rfl); have y0 := hC9.cell 0; have yf := hC9.frozen; simp at y0)
        | (rw [if_pos (by simp [Region.wanted])]; go_simp; go_at_call 107; refine (clone_sl _ _ _ l _ HL2.out HRD.out).mono ?_; rintro e w2 ⟨rfl, hB2, hb2, hzc⟩; have o2 := ((HK2.out w2 hb2).1).cell 0; have o3 := (HK2.out w2 hb2).2; simp at o2))
      all_goals
        have hzc' : w2.heap.size = wr.heap.size + 1 := hzc
        have hCh := HST.out w2 hb2 _ w9 hgrow9
        have hg9o : g9 ≠ w.heap.size + 1 + 1 := by
          intro e
          rcases hown9.2 with ⟨h3, _⟩ | ⟨gl, cap', cur2, h3, _, h4, _⟩
          · cases h3
          · cases h3
            rw [e] at h4
            unfold Cel at hC9
            rw [h4] at hC9
            cases hC9
        have hB9 : Blk w9 wr.heap.size l := by
          have h1 : Blk w2 wr.heap.size l := hB2
          refine (hgrow9.block wr.heap.size (by simp; omega) (fun e => ?_)).trans ((((Below.refl w2.heap.size w2).alloc (Nat.le_refl _) _).block wr.heap.size h1.lt).trans h1)
          have := (HRN.out _ e.symm).2.2.2
          omega
        have hR9 : RowB w9 w.heap.size (.slice (some ⟨g9, 0, none⟩) (k + 1) c9) (fs.take k ++ [l]) := RowB.snoc hown9 hxl (fun i l' hi => by
          obtain ⟨g', h1, h2, h3⟩ := HENT.out i l' hi
          exact ⟨g', h1, h2, h3.chg hCh HNB.out⟩) (by omega) hB9
        have hoS : Only w9 (w9.setCell ⟨w.heap.size + 1 + 1, 0, none⟩ (.slice (some ⟨g9, 0, none⟩) (k + 1) c9)) (w.heap.size + 1 + 1) := (Only.refl _ _).set _ _
        have hzz := hCh.size
        have hks : k < 1000000 := HN.out
        clear y0 yf o2 o3 o0 q0
        go_wp2
        go_roundw
        case rel =>
          refine ⟨k + 1, by omega, by go_num, ?_, ?_, ?_, .slice (some ⟨g9, 0, none⟩) (k + 1) c9, ?_, ?_⟩
          · exact (hb.trans ((hCh.below (fun k' h => (HRN.out k' h).1) (by omega)))).setCell (by simp; omega) _
          · simp; omega
          · exact (Cel.chg HCR.out hCh (fun e => (HRN.out _ e).2.2.1 rfl)).only hoS (by omega)
          · have := Cel.set hC9 0 (.slice (some ⟨g9, 0, none⟩) (k + 1) c9)
            simpa using this
          · rw [htk]
            exact hR9.chg (Chg.of_only hoS) (fun k' hk' cur' fz' e => by subst hk'; unfold Cel at hC9; rw [hC9] at e; cases e) (fun k' hk' e => by cases hk'; exact hg9o e)
        case measure => simp [intOf]; omega
    · have hkn : fs.take k = fs := List.take_of_length_le (by omega)
      rw [hkn] at hrw
      obtain ⟨po, co, hov⟩ := hrw.form
      subst hov
      have o0 := hco.cell 0
      have o1 := hco.cell 1
      have of := hco.frozen
      have r0 := hcr.cell 0
      have r1 := hcr.cell 1
      have rf := hcr.frozen
      simp only [List.getElem?_toArray, List.getElem?_cons_zero, List.getElem?_cons_succ] at o0 o1 r0 r1
      have HRW := (show Hid _ from hrw)
      have HCR := (show Hid _ from hcr)
      clear hrw
      go_wp2
      have hoS : Only wr ((wr.setCell ⟨w.heap.size + 1, 0, none⟩ (.slice po fs.length co)).setCell ⟨w.heap.size + 1, 1, none⟩ (.int .i64 kp)) (w.heap.size + 1) := ((Only.refl _ _).set _ _).set _ _
      refine bodyPost_ret (v := .agg #[.slice po fs.length co, .int .i64 kp]) (by simp [results, Tryz.results122, go_sem, r0, r1]) rfl ⟨.slice po fs.length co, rfl, ?_, ?_⟩
      · refine RowB.chg HRW.out (Chg.of_only hoS) (fun k' hk' cur' fz' e => by subst hk'; have := HCR.out; unfold Cel at this; rw [this] at e; cases e) (fun k' hk' e => ?_)
        subst e
        obtain ⟨xs, h1, _⟩ := HRW.out
        rcases h1.2 with ⟨hv, _⟩ | ⟨g, cap', cur, hv, hbg, hg, _⟩
        · rw [hv] at hk'; cases hk'
        · rw [hv] at hk'
          cases hk'
          have := HCR.out
          unfold Cel at this
          rw [hg] at this
          cases this
      · exact (hb.setCell (by simp) _).setCell (by simp) _
end Go.Proofs.YtloaefcgcniacaaGreatDoor

namespace Go.Proofs.YtloaefcgcniacaaGreatDoor
open Go.RowKit
set_option linter.unusedVariables false

theorem RowB.mono {w : World} {base base' : Nat} {v : Value} {ls : List (List Nat)} (h : RowB w base v ls) (hb : base' ≤ base) : RowB w base' v ls := by
  obtain ⟨xs, h1, h2⟩ := h
  refine ⟨xs, ⟨h1.1, ?_⟩, fun i l hi => by obtain ⟨g, g1, g2, g3⟩ := h2 i l hi; exact ⟨g, g1, by omega, g3⟩⟩
  rcases h1.2 with h3 | ⟨g, cap, cur, hv, hbg, r⟩
  · exact .inl h3
  · exact .inr ⟨g, cap, cur, hv, by omega, r⟩
theorem RowB.own {w : World} {base : Nat} {v : Value} {ls : List (List Nat)} (h : RowB w base v ls) (k : Nat) (hk : v.ownBlock = some k) : base ≤ k ∧ k < w.heap.size ∧ ∃ cur, w.heap[k]? = some (Obj.cells cur 66 (0, 0)) := by
  obtain ⟨xs, h1, _⟩ := h
  rcases h1.2 with ⟨hv, _⟩ | ⟨g, cap, cur, hv, hbg, hg, _⟩
  · rw [hv] at hk; cases hk
  · rw [hv] at hk; cases hk; exact ⟨hbg, (Array.getElem?_eq_some_iff.1 hg).1, cur, hg⟩
theorem NoB.cel {w : World} {g : Nat} {t : TypeId} {cs : Array Value} (h : Cel w g t cs) (ht : t ≠ 5) : NoB w (fun k => k = g) := fun k hk cur fz e => by
  subst hk
  unfold Cel at h
  rw [h] at e
  injection e with e
  injection e with _ e2
  exact ht e2

set_option maxRecDepth 20000 in
set_option maxHeartbeats 1000000 in
theorem hZone_in (base x g gz i : Nat) (sl lf ca wr cn : Int) (bd lg : Value) (zs : List (Value × Int)) (fv : Value) (kp : Int) (fs : List (List Nat)) (w : World) (hx : HdAt w x g) (h : StAt w g sl lf ca wr (.slice (some ⟨gz, 0, none⟩) zs.length zs.length) cn bd lg) (hz : ZAt w gz zs) (hi : zs[i]? = some (fv, kp)) (hrow : RowB w base fv fs) (hsz : ∀ l ∈ fs, l.length ≤ 2000000) (hfl : fs.length < 1000000) :
    Calls Tryz.prog 61 #[.pointer (some ⟨x, 0, none⟩), .int .i64 (i : Int)] w fun e w' => ∃ v', e = .returned (.agg #[v', .int .i64 kp]) ∧ RowB w' w.heap.size v' fs ∧ Below w.heap.size w w' := by
  have hil : i < zs.length := (List.getElem?_eq_some_iff.1 hi).1
  have hhb : hasB (i : Int) zs.length = true := decide_eq_true ⟨by omega, by omega⟩
  have hlti : (i : Int) < (zs.length : Int) := by omega
  have HSZ := (show Hid _ from hsz)
  have HFL := (show Hid _ from hfl)
  clear hsz hfl
  have hbV : Below w.heap.size w (w.alloc (Obj.cells #[Value.slice none 0 0, Value.int IntKind.i64 0] 111)) := (Below.refl _ _).alloc (Nat.le_refl _) _
  have hXV : HdAt (w.alloc (Obj.cells #[Value.slice none 0 0, Value.int IntKind.i64 0] 111)) x g := Cel.below hx hbV (Cel.lt hx)
  have hSV : StAt (w.alloc (Obj.cells #[Value.slice none 0 0, Value.int IntKind.i64 0] 111)) g sl lf ca wr (.slice (some ⟨gz, 0, none⟩) zs.length zs.length) cn bd lg := Cel.below h hbV (Cel.lt h)
  have hZV : ZAt (w.alloc (Obj.cells #[Value.slice none 0 0, Value.int IntKind.i64 0] 111)) gz zs := Cel.below hz hbV (Cel.lt hz)
  have hrV : RowB (w.alloc (Obj.cells #[Value.slice none 0 0, Value.int IntKind.i64 0] 111)) base fv fs := hrow.chg (Chg.of_below hbV (fun _ => False)) (fun _ h => h.elim) (fun _ _ h => h)
  have hcV : Cel (w.alloc (Obj.cells #[Value.slice none 0 0, Value.int IntKind.i64 0] 111)) w.heap.size 111 #[Value.slice none 0 0, Value.int IntKind.i64 0] := Cel.new w _ _
  have k0 := hXV.cell0
  clear hx h hz hrow
  go_enter Tryz.func61, Tryz.ntmps61
  go_wp2_with fail
  clear k0
  generalize (w.alloc (Obj.cells #[Value.slice none 0 0, Value.int IntKind.i64 0] 111)) = V at *
  refine (has_any g sl lf ca wr cn (i : Int) _ _ _ bd lg V hSV).mono ?_
  rintro e w' ⟨rfl, hw'⟩
  have hw2 := hw'.symm
  clear hw'
  subst hw2
  rw [hhb]
  have k0 := hXV.cell0
  have c4 := hSV.cells.2.2.2.2.1
  obtain ⟨q0, q1, qf⟩ := hZV.cells i _ hi
  simp only at q0 q1
  go_wp2_with fail
  refine (clones_any base fv kp fs V hrV HSZ.out HFL.out).mono ?_
  rintro e w2 ⟨v2, rfl, hr2, hb2⟩
  have hc2 := hcV.below hb2 hcV.lt
  obtain ⟨p2, cap2, rfl⟩ := hr2.form
  have y0 := hc2.cell 0
  have y1 := hc2.cell 1
  have yf := hc2.frozen
  simp only [List.getElem?_toArray, List.getElem?_cons_zero, List.getElem?_cons_succ] at y0 y1
  have hcz := hcV.lt
  have hvz := hb2.size
  clear k0 c4 q0 q1 qf hXV hSV hZV hrV hcV hi
  go_wp2
  have hoS : Only w2 ((w2.setCell ⟨w.heap.size, 0, none⟩ (.slice p2 fs.length cap2)).setCell ⟨w.heap.size, 1, none⟩ (.int .i64 kp)) w.heap.size := ((Only.refl _ _).set _ _).set _ _
  refine bodyPost_ret (v := .agg #[.slice p2 fs.length cap2, .int .i64 kp]) (by simp [results, Tryz.results61, go_sem, y0, y1]) rfl ⟨.slice p2 fs.length cap2, rfl, ?_, ?_⟩
  · exact (hr2.mono (by omega)).chg (Chg.of_only hoS) (NoB.cel hc2 (by decide)) (fun k hk e => by have := (hr2.own k hk).1; omega)
  · exact ((hbV.trans (hb2.mono (by omega))).setCell (by simp) _).setCell (by simp) _
end Go.Proofs.YtloaefcgcniacaaGreatDoor

namespace Go.Proofs.YtloaefcgcniacaaGreatDoor
open Go.RowKit
set_option linter.unusedVariables false

set_option maxRecDepth 20000 in
set_option maxHeartbeats 2000000 in
theorem hLay_in (base x g gz i : Nat) (sl lf ca wr cn : Int) (bd lg : Value) (zs : List (Value × Int)) (c : Value × Int) (xv : Value) (kx : Int) (fs : List (List Nat)) (w : World) (hx : HdAt w x g) (h : StAt w g sl lf ca wr (.slice (some ⟨gz, 0, none⟩) zs.length zs.length) cn bd lg) (hz : ZAt w gz zs) (hi : zs[i]? = some c) (hrow : RowB w base xv fs) (hsz : ∀ l ∈ fs, l.length ≤ 2000000) (hfl : fs.length < 1000000) :
    Calls Tryz.prog 62 #[.pointer (some ⟨x, 0, none⟩), .int .i64 (i : Int), .agg #[xv, .int .i64 kx]] w fun e w' => e = .returned (.tuple #[]) ∧ Chg w w' (fun k => k = gz) ∧ ∃ v', ZAt w' gz (zs.set i (v', kx)) ∧ RowB w' w.heap.size v' fs := by
  have hil : i < zs.length := (List.getElem?_eq_some_iff.1 hi).1
  have hhb : hasB (i : Int) zs.length = true := decide_eq_true ⟨by omega, by omega⟩
  have hlti : (i : Int) < (zs.length : Int) := by omega
  have HSZ := (show Hid _ from hsz)
  have HFL := (show Hid _ from hfl)
  obtain ⟨px, capx, rfl⟩ := hrow.form
  have hbV : Below w.heap.size w (w.alloc (Obj.cells #[Value.slice px fs.length capx, Value.int IntKind.i64 kx] 111)) := (Below.refl _ _).alloc (Nat.le_refl _) _
  have hXV : HdAt (w.alloc (Obj.cells #[Value.slice px fs.length capx, Value.int IntKind.i64 kx] 111)) x g := Cel.below hx hbV (Cel.lt hx)
  have hSV : StAt (w.alloc (Obj.cells #[Value.slice px fs.length capx, Value.int IntKind.i64 kx] 111)) g sl lf ca wr (.slice (some ⟨gz, 0, none⟩) zs.length zs.length) cn bd lg := Cel.below h hbV (Cel.lt h)
  have hZV : ZAt (w.alloc (Obj.cells #[Value.slice px fs.length capx, Value.int IntKind.i64 kx] 111)) gz zs := Cel.below hz hbV (Cel.lt hz)
  have hrV : RowB (w.alloc (Obj.cells #[Value.slice px fs.length capx, Value.int IntKind.i64 kx] 111)) base (.slice px fs.length capx) fs := hrow.chg (Chg.of_below hbV (fun _ => False)) (fun _ h => h.elim) (fun _ _ h => h)
  have hcV : Cel (w.alloc (Obj.cells #[Value.slice px fs.length capx, Value.int IntKind.i64 kx] 111)) w.heap.size 111 #[Value.slice px fs.length capx, Value.int IntKind.i64 kx] := Cel.new w _ _
  have k0 := hXV.cell0
  have hgz := st_z_ne h hz
  have hzw := Cel.lt hz
  have hxz := Cel.ne_of hx hz (by decide)
  clear hx h hz hrow hsz hfl
  go_enter Tryz.func62, Tryz.ntmps62
  go_wp2_with fail
  clear k0
  generalize w.alloc (Obj.cells #[Value.slice px fs.length capx, Value.int IntKind.i64 kx] 111) = V at *
  refine (has_any g sl lf ca wr cn (i : Int) _ _ _ bd lg V hSV).mono ?_
  rintro e w' ⟨rfl, hw'⟩
  have hw2 := hw'.symm
  clear hw'
  subst hw2
  rw [hhb]
  have k0 := hXV.cell0
  have c4 := hSV.cells.2.2.2.2.1
  have b0 := hcV.cell 0
  have b1 := hcV.cell 1
  simp only [List.getElem?_toArray, List.getElem?_cons_zero, List.getElem?_cons_succ] at b0 b1
  have hcz := hcV.lt
  have HK : Hid (∀ w2, Below V.drew.heap.size V.drew w2 → HdAt w2 x g ∧ StAt w2 g sl lf ca wr (.slice (some ⟨gz, 0, none⟩) zs.length zs.length) cn bd lg ∧ Cel w2 w.heap.size 111 #[Value.slice px fs.length capx, Value.int IntKind.i64 kx] ∧ ZAt w2 gz zs) := fun w2 hb2 =>
    ⟨Cel.below (w := V.drew) hXV hb2 hXV.lt, Cel.below (w := V.drew) hSV hb2 hSV.lt, Cel.below (w := V.drew) hcV hb2 hcV.lt, Cel.below (w := V.drew) hZV hb2 hZV.lt⟩
  have HR : Hid (RowB V.drew base (.slice px fs.length capx) fs) := hrV
  have HI := (show Hid _ from hi)
  clear hXV hSV hZV hrV hcV hi
  go_wp2_with fail
  go_region_held3 (fun w' => w'.cell? ⟨x, 0, none⟩ = some (.pointer (some ⟨g, 0, none⟩)) ∧ w'.cell? ⟨g, 4, none⟩ = some (.slice (some ⟨gz, 0, none⟩) zs.length zs.length) ∧ w'.cell? ⟨w.heap.size, 0, none⟩ = some (.slice px fs.length capx) ∧ w'.cell? ⟨w.heap.size, 1, none⟩ = some (.int .i64 kx)) (first | (simp [k0, c4, b0, b1]; done) | (simp [z0, z4, y0, y1]; done) | (simp [z0, z4, y0, y1, World.cell?_setCell_far, hne1, hne2, hne3]; done))
    (first
      | (go_at_call 122; refine (clones_any base (.slice px fs.length capx) kx fs _ HR.out HSZ.out HFL.out).mono ?_; rintro e w2 ⟨v2, rfl, hr2, hb2⟩; obtain ⟨p2, cap2, hv2⟩ := hr2.form; subst hv2; have hXw := (HK.out w2 hb2).1; have hSw := (HK.out w2 hb2).2.1; have hCw := (HK.out w2 hb2).2.2.1; have hZw := (HK.out w2 hb2).2.2.2; have z0 := hXw.cell0; have z4 := hSw.cells.2.2.2.2.1; have y0 := hCw.cell 0; have y1 := hCw.cell 1; have q0 := (hZw.cells i _ HI.out).1; have q1 := (hZw.cells i _ HI.out).2.1; have qf := (hZw.cells i _ HI.out).2.2; have hne1 : gz ≠ x := hxz.symm; have hne2 : gz ≠ g := hgz.symm; have hne3 : gz ≠ w.heap.size := (by omega); simp at y0 y1))
  go_wp2
  go_end0
  have hVd : V.drew.heap.size = V.heap.size := rfl
  have hr2' : RowB w2 V.heap.size (.slice p2 fs.length cap2) fs := hr2
  have hoS : Only w2 ((w2.setCell ⟨gz, i * 2, none⟩ (.slice p2 fs.length cap2)).setCell ⟨gz, i * 2 + 1, none⟩ (.int .i64 kx)) gz := ((Only.refl _ _).set _ _).set _ _
  refine ⟨rfl, ?_, .slice p2 fs.length cap2, ?_, ?_⟩
  · exact (Chg.of_below (hbV.trans (((Below.refl V.heap.size V).drew.trans hb2).mono (by omega))) (fun k => k = gz)).trans (Chg.of_only hoS) (fun i hi h => h)
  · have h1 := Cel.set hZw (i * 2) (.slice p2 fs.length cap2)
    rw [zcells_set0 zs i _ HI.out] at h1
    have h2 := Cel.set h1 (i * 2 + 1) (.int .i64 kx)
    rw [zcells_set1 (zs.set i (.slice p2 fs.length cap2, c.2)) i (.slice p2 fs.length cap2, c.2) (by simp [hil]), List.set_set] at h2
    exact h2
  · exact (hr2'.mono (by omega)).chg (Chg.of_only hoS) (NoB.cel hZw (by decide)) (fun k hk e => by have := (hr2'.own k hk).1; omega)
end Go.Proofs.YtloaefcgcniacaaGreatDoor

namespace Go.Proofs.YtloaefcgcniacaaGreatDoor
open Go.RowKit
set_option linter.unusedVariables false

theorem infoZ : (Tryz.prog.info? 111).map (fun i => (i.zero, i.size, i.bytes)) = some (some (.agg #[.slice none 0 0, .int .i64 0]), 2, 32) := by kernel_rfl

theorem made_zones (n : Nat) : madeCells (Value.agg #[Value.slice none 0 0, Value.int IntKind.i64 0]).cells (n * 2) = (zcells (List.replicate n (Value.slice none 0 0, 0))).toArray := by
  unfold madeCells
  apply Array.ext
  · simp [zcells_length]
  · intro i h1 h2
    simp only [List.size_toArray, zcells_length, List.length_replicate] at h2
    have hq : (List.replicate n ((Value.slice none 0 0, 0) : Value × Int))[i / 2]? = some (Value.slice none 0 0, 0) := by
      rw [List.getElem?_replicate, if_pos (by omega)]
    have hz := zcells_at _ (i / 2) _ hq
    rcases Nat.mod_two_eq_zero_or_one i with hm | hm
    · have e : i / 2 * 2 = i := by omega
      rw [e] at hz
      have h3 := (List.getElem?_eq_some_iff.1 hz.1).2
      simp only [Array.getElem_map, Array.getElem_range, List.getElem_toArray]
      rw [h3]
      simp [Value.cells, hm]
    · have e : i / 2 * 2 + 1 = i := by omega
      rw [e] at hz
      have h3 := (List.getElem?_eq_some_iff.1 hz.2).2
      simp only [Array.getElem_map, Array.getElem_range, List.getElem_toArray]
      rw [h3]
      simp [Value.cells, hm]

theorem run_make_zones (n : Nat) (hn : n ≤ 1000) (w : World) :
    ∃ cs, (Instr.makeSlice 103 (.int .i64 (n : Int)) (.int .i64 (n : Int))).run Tryz.prog w = .ok (.slice (some ⟨w.heap.size, 0, none⟩) n n) (w.alloc (.cells cs 111)) ∧ cs = (zcells (List.replicate n (.slice none 0 0, 0))).toArray := by
  obtain ⟨i0, hi, hq⟩ : ∃ i, Tryz.prog.info? 111 = some i ∧ (i.zero, i.size, i.bytes) = (some (Value.agg #[.slice none 0 0, .int .i64 0]), 2, 32) := by
    have := infoZ
    cases hq : Tryz.prog.info? 111 with
    | none => rw [hq] at this; cases this
    | some i => rw [hq] at this; exact ⟨i, rfl, by simpa using this⟩
  have hz0 : i0.zero = some (Value.agg #[.slice none 0 0, .int .i64 0]) := congrArg (·.1) hq
  have hz1 : i0.size = 2 := congrArg (·.2.1) hq
  have hz2 : i0.bytes = 32 := congrArg (·.2.2) hq
  have h := run_make (P := Tryz.prog) w 103 111 i0 _ Tryz.underlying103 hi hz0 .i64 .i64 n n (by omega) (Int.le_refl _) (by rw [hz2]; omega) (by omega)
  refine ⟨_, h, ?_⟩
  rw [hz1, Int.toNat_natCast]
  exact made_zones n

set_option maxRecDepth 20000 in
set_option maxHeartbeats 1000000 in
theorem newDisk_any (n : Nat) (sl : Int) (w : World) (hn : n ≤ 1000) :
    Calls Tryz.prog 46 #[.int .i64 (n : Int), .int .i64 sl] w fun e w' => ∃ x h g gz, e = .returned (.tuple #[.pointer (some ⟨x, 0, none⟩), .pointer (some ⟨h, 0, none⟩)]) ∧ DkAt w' x g ∧ HdAt w' h g ∧ StAt w' g sl (-1) 0 0 (.slice (some ⟨gz, 0, none⟩) n n) 0 (.slice none 0 0) (.slice none 0 0) ∧ ZAt w' gz (List.replicate n (.slice none 0 0, 0)) ∧
      w.heap.size ≤ x ∧ w.heap.size ≤ h ∧ w.heap.size ≤ g ∧ w.heap.size ≤ gz ∧ Below w.heap.size w w' := by
  obtain ⟨cs, hmk, hcs⟩ := run_make_zones n hn w
  have fin : ∃ x h g gz, (Value.tuple #[.pointer (some ⟨w.heap.size + 1 + 1, 0, none⟩), .pointer (some ⟨w.heap.size + 1 + 1 + 1, 0, none⟩)]) = (Value.tuple #[.pointer (some ⟨x, 0, none⟩), .pointer (some ⟨h, 0, none⟩)]) ∧ DkAt ((((w.alloc (Obj.cells cs 111)).alloc (Obj.cells #[Value.int IntKind.i64 sl, Value.int IntKind.i64 (-1), Value.int IntKind.i64 0, Value.int IntKind.i64 0, Value.slice (some ⟨w.heap.size, 0, none⟩) n n, Value.int IntKind.i64 0, Value.slice none 0 0, Value.slice none 0 0] 106)).alloc (Obj.cells #[Value.pointer (some ⟨w.heap.size + 1, 0, none⟩)] 109)).alloc (Obj.cells #[Value.pointer (some ⟨w.heap.size + 1, 0, none⟩)] 118)) x g ∧ HdAt ((((w.alloc (Obj.cells cs 111)).alloc (Obj.cells #[Value.int IntKind.i64 sl, Value.int IntKind.i64 (-1), Value.int IntKind.i64 0, Value.int IntKind.i64 0, Value.slice (some ⟨w.heap.size, 0, none⟩) n n, Value.int IntKind.i64 0, Value.slice none 0 0, Value.slice none 0 0] 106)).alloc (Obj.cells #[Value.pointer (some ⟨w.heap.size + 1, 0, none⟩)] 109)).alloc (Obj.cells #[Value.pointer (some ⟨w.heap.size + 1, 0, none⟩)] 118)) h g ∧ StAt ((((w.alloc (Obj.cells cs 111)).alloc (Obj.cells #[Value.int IntKind.i64 sl, Value.int IntKind.i64 (-1), Value.int IntKind.i64 0, Value.int IntKind.i64 0, Value.slice (some ⟨w.heap.size, 0, none⟩) n n, Value.int IntKind.i64 0, Value.slice none 0 0, Value.slice none 0 0] 106)).alloc (Obj.cells #[Value.pointer (some ⟨w.heap.size + 1, 0, none⟩)] 109)).alloc (Obj.cells #[Value.pointer (some ⟨w.heap.size + 1, 0, none⟩)] 118)) g sl (-1) 0 0 (.slice (some ⟨gz, 0, none⟩) n n) 0 (.slice none 0 0) (.slice none 0 0) ∧ ZAt ((((w.alloc (Obj.cells cs 111)).alloc (Obj.cells #[Value.int IntKind.i64 sl, Value.int IntKind.i64 (-1), Value.int IntKind.i64 0, Value.int IntKind.i64 0, Value.slice (some ⟨w.heap.size, 0, none⟩) n n, Value.int IntKind.i64 0, Value.slice none 0 0, Value.slice none 0 0] 106)).alloc (Obj.cells #[Value.pointer (some ⟨w.heap.size + 1, 0, none⟩)] 109)).alloc (Obj.cells #[Value.pointer (some ⟨w.heap.size + 1, 0, none⟩)] 118)) gz (List.replicate n (.slice none 0 0, 0)) ∧
      w.heap.size ≤ x ∧ w.heap.size ≤ h ∧ w.heap.size ≤ g ∧ w.heap.size ≤ gz ∧ Below w.heap.size w ((((w.alloc (Obj.cells cs 111)).alloc (Obj.cells #[Value.int IntKind.i64 sl, Value.int IntKind.i64 (-1), Value.int IntKind.i64 0, Value.int IntKind.i64 0, Value.slice (some ⟨w.heap.size, 0, none⟩) n n, Value.int IntKind.i64 0, Value.slice none 0 0, Value.slice none 0 0] 106)).alloc (Obj.cells #[Value.pointer (some ⟨w.heap.size + 1, 0, none⟩)] 109)).alloc (Obj.cells #[Value.pointer (some ⟨w.heap.size + 1, 0, none⟩)] 118)) := by
    refine ⟨w.heap.size + 1 + 1, w.heap.size + 1 + 1 + 1, w.heap.size + 1, w.heap.size, rfl, ?_, ?_, ?_, ?_, by omega, by omega, by omega, by omega, ?_⟩
    · have h1 := Cel.new ((w.alloc (Obj.cells cs 111)).alloc (Obj.cells #[Value.int IntKind.i64 sl, Value.int IntKind.i64 (-1), Value.int IntKind.i64 0, Value.int IntKind.i64 0, Value.slice (some ⟨w.heap.size, 0, none⟩) n n, Value.int IntKind.i64 0, Value.slice none 0 0, Value.slice none 0 0] 106)) 109 #[Value.pointer (some ⟨w.heap.size + 1, 0, none⟩)]
      simp only [World.size_alloc] at h1
      exact h1.below ((Below.refl _ _).alloc (Nat.le_refl _) _) (by simp)
    · have h1 := Cel.new (((w.alloc (Obj.cells cs 111)).alloc (Obj.cells #[Value.int IntKind.i64 sl, Value.int IntKind.i64 (-1), Value.int IntKind.i64 0, Value.int IntKind.i64 0, Value.slice (some ⟨w.heap.size, 0, none⟩) n n, Value.int IntKind.i64 0, Value.slice none 0 0, Value.slice none 0 0] 106)).alloc (Obj.cells #[Value.pointer (some ⟨w.heap.size + 1, 0, none⟩)] 109)) 118 #[Value.pointer (some ⟨w.heap.size + 1, 0, none⟩)]
      simp only [World.size_alloc] at h1
      exact h1
    · have h1 := Cel.new (w.alloc (Obj.cells cs 111)) 106 #[Value.int IntKind.i64 sl, Value.int IntKind.i64 (-1), Value.int IntKind.i64 0, Value.int IntKind.i64 0, Value.slice (some ⟨w.heap.size, 0, none⟩) n n, Value.int IntKind.i64 0, Value.slice none 0 0, Value.slice none 0 0]
      simp only [World.size_alloc] at h1
      exact (h1.below ((Below.refl _ _).alloc (Nat.le_refl _) _) (by simp)).below ((Below.refl _ _).alloc (Nat.le_refl _) _) (by simp)
    · have h1 := Cel.new w 111 cs
      rw [hcs] at h1 ⊢
      exact ((h1.below ((Below.refl _ _).alloc (Nat.le_refl _) _) (by simp)).below ((Below.refl _ _).alloc (Nat.le_refl _) _) (by simp; omega)).below ((Below.refl _ _).alloc (Nat.le_refl _) _) (by simp; omega)
    · exact ((((Below.refl _ _).alloc (Nat.le_refl _) _).alloc (by simp) _).alloc (by simp; omega) _).alloc (by simp; omega) _
  have FIN := (show Hid _ from fin)
  clear hcs fin
  by_cases h0 : 0 < n
  · clear hn
    go_enter Tryz.func46, Tryz.ntmps46
    go_wp2
    go_ret2
    obtain ⟨x, h, g, gz, e1, r⟩ := FIN.out
    exact ⟨x, h, g, gz, congrArg Ending.returned e1, r⟩
  · obtain rfl : n = 0 := by omega
    clear hn h0
    have hmk0 : (Instr.makeSlice 103 (.int .i64 0) (.int .i64 0)).run Tryz.prog w = .ok (.slice (some ⟨w.heap.size, 0, none⟩) 0 0) (w.alloc (.cells cs 111)) := hmk
    clear hmk
    go_enter Tryz.func46, Tryz.ntmps46
    go_wp2
    go_ret2
    obtain ⟨x, h, g, gz, e1, r⟩ := FIN.out
    exact ⟨x, h, g, gz, congrArg Ending.returned e1, r⟩
end Go.Proofs.YtloaefcgcniacaaGreatDoor
