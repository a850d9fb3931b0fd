import Derived.Test.YtloaefcgcniacaaGreatDoorEA2
namespace Go.Proofs.YtloaefcgcniacaaGreatDoor
open Go.RowKit
set_option linter.unusedVariables false

theorem blk_over {w1 w2 : World} {F : Nat → Prop} {g : Nat} {l : List Nat} (h : Blk w1 g l) (hc : Chg w1 w2 (fun k => F k ∧ TyR w1 k)) : Blk w2 g l :=
  (hc.block g h.lt (fun x => x.2.not h (by decide) (by decide))).trans h

set_option maxRecDepth 20000 in
set_option maxHeartbeats 1000000 in
theorem tells_read (q : Pl) (n base base2 WB N : Nat) (F : Nat → Prop) (a z c d e0 : Int) (s : ByteArray) (dV sV : Value) (w : World) (h : PlateAt w base2 F q) (hB : BooksD w base WB N dV sV) (hq : Fine q n) (hn : n < 900000) (hbase : base ≤ base2) (hbase2 : base2 ≤ w.heap.size) (hN : N < 1000000) :
    Calls Tryz.prog 93 #[.pointer (some ⟨WB, 0, none⟩), .agg #[.pointer (some ⟨q.x, 0, none⟩), .pointer (some ⟨q.h, 0, none⟩), .pointer (some ⟨q.r, 0, none⟩)], .agg #[.int .i64 6, .int .i64 a, .int .i64 z, .int .i64 c, .int .i64 d, .int .i64 e0, .string s]] w fun e w' => e = .returned (.bool true) ∧ Told w w' base base2 WB N F q ⟨2, z, c, ByteArray.empty⟩ dV sV := by
  have HH := (show Hid _ from h)
  have HQ := (show Hid _ from hq)
  have HB := (show Hid _ from hB)
  clear h hq hB
  go_enter Tryz.func93, Tryz.ntmps93
  go_wp2_with fail
  obtain ⟨hb0, hp0, ho0, hz0⟩ := two_cells w (plC q) (opC 6 a z c d e0 s)
  simp only [plC, opC] at hb0 hz0
  have hp0' : Cel ((w.alloc (Obj.cells #[.pointer (some ⟨q.x, 0, none⟩), .pointer (some ⟨q.h, 0, none⟩), .pointer (some ⟨q.r, 0, none⟩)] 159)).alloc (Obj.cells #[.int .i64 6, .int .i64 a, .int .i64 z, .int .i64 c, .int .i64 d, .int .i64 e0, .string s] 56)) w.heap.size 159 (plC q) := hp0
  have ho0' : Cel ((w.alloc (Obj.cells #[.pointer (some ⟨q.x, 0, none⟩), .pointer (some ⟨q.h, 0, none⟩), .pointer (some ⟨q.r, 0, none⟩)] 159)).alloc (Obj.cells #[.int .i64 6, .int .i64 a, .int .i64 z, .int .i64 c, .int .i64 d, .int .i64 e0, .string s] 56)) (w.heap.size + 1) 56 (opC 6 a z c d e0 s) := ho0
  clear hp0 ho0
  generalize ((w.alloc (Obj.cells #[.pointer (some ⟨q.x, 0, none⟩), .pointer (some ⟨q.h, 0, none⟩), .pointer (some ⟨q.r, 0, none⟩)] 159)).alloc (Obj.cells #[.int .i64 6, .int .i64 a, .int .i64 z, .int .i64 c, .int .i64 d, .int .i64 e0, .string s] 56)) = W0 at *
  have HPA := (show Hid _ from hp0')
  have HOA := (show Hid _ from ho0')
  have hlow : Hid (∀ k, F k → base2 ≤ k ∧ k < w.heap.size) := fun k hk => by
    obtain ⟨_, _, _, _, d', _⟩ := HH.out
    exact ⟨(d'.ok k hk).1, (d'.ok k hk).2.lt⟩
  clear hp0' ho0'
  obtain ⟨dv, bd, lg, zs, d', r'⟩ := HH.out
  have HDA : Hid (DP W0 base2 F q.x q.h q.g q.gz q.dk bd lg zs) := d'.down hb0
  have HRA : Hid (RP W0 base2 F q.r q.Z q.S q.C q.B q.L q.cs q.ca q.wr dv) := r'.down hb0
  clear d' r' HH
  refine (act_read HDA.out (HQ.out.good hn) z c ⟨2, z, c, ByteArray.empty⟩ rfl).mono ?_
  rintro e w1 ⟨⟨hdn, rfl⟩ | ⟨hdn, j, t, g', hs', ht, rfl, hBt, hg'⟩, hP⟩
  · have hp1 : Cel w1 w.heap.size 159 (plC q) := (mid1 hP (fun k hk => (hlow.out k hk).2) (Nat.le_refl _) (by omega)).trans HPA.out
    have ho1 : Cel w1 (w.heap.size + 1) 56 (opC 6 a z c d e0 s) := (mid1 hP (fun k hk => (hlow.out k hk).2) (by omega) (by omega)).trans HOA.out
    obtain ⟨p0, p1, p2⟩ := hp1.pl
    obtain ⟨o0, o1, o2, o3, o4, o5, o6⟩ := ho1.op
    have HP := (show Hid _ from hP)
    have hz1 := hP.chg.size
    clear hP hp1 ho1
    go_wp2_with fail
    clear p0 p1 p2 o0 o1 o2 o3 o4 o5 o6
    refine (act_do ⟨2, z, c, ByteArray.empty⟩ HP.out HRA.out HQ.out hn empty_small (by omega)).mono ?_
    rintro e w2 ⟨he, hc2, hpl⟩
    rw [hdn] at he
    subst he
    have hp2 : Cel w2 w.heap.size 159 (plC q) := (mid2 HP.out hc2 (fun k hk => (hlow.out k hk).2) (Nat.le_refl _) (by omega)).trans HPA.out
    have ho2 : Cel w2 (w.heap.size + 1) 56 (opC 6 a z c d e0 s) := (mid2 HP.out hc2 (fun k hk => (hlow.out k hk).2) (by omega) (by omega)).trans HOA.out
    obtain ⟨p0, p1, p2⟩ := hp2.pl
    obtain ⟨o0, o1, o2, o3, o4, o5, o6⟩ := ho2.op
    have HPL := (show Hid _ from hpl)
    have HC2 := (show Hid _ from hc2)
    have hz2 := hc2.size
    have hnil := fun w : World => Lib.run_eql_slice_nil (P := Tryz.prog) w 66 5 none 0 0 0 0 Tryz.underlying66
    go_wp2_with fail
    clear p0 p1 p2 o0 o1 o2 o3 o4 o5 o6
    have hk0 : ∀ (k : Nat) (cur : Array Value) (t : TypeId) (fz : Nat × Nat), (t = 5 ∨ t = 83 ∨ t = 53) → W0.heap[k]? = some (Obj.cells cur t fz) → w2.heap[k]? = some (Obj.cells cur t fz) := fun k cur t fz ht hk => ((chg_all (Below.refl _ _) HP.out HC2.out (Below.refl _ _)).1.block k (Array.getElem?_eq_some_iff.1 hk).1 (own_not ht hk)).trans hk
    refine (keep_disk base base2 WB N 0 0 none [] dV sV (Ext F w1 w2) (q.act ⟨2, z, c, ByteArray.empty⟩) W0 w2 hN (by omega) (BooksD.down HB.out hb0) (by omega) hk0 (.inl ⟨rfl, rfl, rfl⟩) (by simp) (by intro a ha; cases ha) HPL.out (by intro a k ha; cases ha)).mono ?_
    rintro e w4 ⟨rfl, hB4, hb4, hpl4, hkb4⟩
    have hdone := told_keep hb0 HP.out HC2.out (Below.refl _ _) HB.out (fun k hk => (hlow.out k hk).1) hbase hbase2 hB4 hb4 hpl4 hkb4 (by intro a ha; cases ha)
    go_wp2
    go_ret
    exact ⟨rfl, hdone⟩
  · subst hs'
    have hp1 : Cel w1 w.heap.size 159 (plC q) := (mid1 hP (fun k hk => (hlow.out k hk).2) (Nat.le_refl _) (by omega)).trans HPA.out
    have ho1 : Cel w1 (w.heap.size + 1) 56 (opC 6 a z (j : Int) d e0 s) := (mid1 hP (fun k hk => (hlow.out k hk).2) (by omega) (by omega)).trans HOA.out
    obtain ⟨p0, p1, p2⟩ := hp1.pl
    obtain ⟨o0, o1, o2, o3, o4, o5, o6⟩ := ho1.op
    have HP := (show Hid _ from hP)
    have hz1 := hP.chg.size
    clear hP hp1 ho1
    go_wp2_with fail
    clear p0 p1 p2 o0 o1 o2 o3 o4 o5 o6
    refine (act_do ⟨2, z, (j : Int), ByteArray.empty⟩ HP.out HRA.out HQ.out hn empty_small (by omega)).mono ?_
    rintro e w2 ⟨he, hc2, hpl⟩
    rw [hdn] at he
    subst he
    have hp2 : Cel w2 w.heap.size 159 (plC q) := (mid2 HP.out hc2 (fun k hk => (hlow.out k hk).2) (Nat.le_refl _) (by omega)).trans HPA.out
    have ho2 : Cel w2 (w.heap.size + 1) 56 (opC 6 a z (j : Int) d e0 s) := (mid2 HP.out hc2 (fun k hk => (hlow.out k hk).2) (by omega) (by omega)).trans HOA.out
    obtain ⟨p0, p1, p2⟩ := hp2.pl
    obtain ⟨o0, o1, o2, o3, o4, o5, o6⟩ := ho2.op
    have HPL := (show Hid _ from hpl)
    have HC2 := (show Hid _ from hc2)
    have hz2 := hc2.size
    obtain ⟨dv2, bd2, lg2, zs2, d2, r2⟩ := hpl
    have hids := act_ids q ⟨2, z, (j : Int), ByteArray.empty⟩
    have hfq := HQ.out.act ⟨2, z, (j : Int), ByteArray.empty⟩ empty_small
    have href := r2.ref
    rw [hids.2.2.1] at href
    go_wp2_with fail
    clear p0 p1 p2 o0 o1 o2 o3 o4 o5 o6
    refine (rframes_any base2 q.r _ _ _ z _ _ dv2 _ _ _ _ href r2.don (by have := hfq.cs; omega)).mono ?_
    rintro e w3 ⟨fv, rfl, hrow, hb3⟩
    clear href d2 r2
    obtain ⟨pf, cf, hfv⟩ := hrow.form
    subst hfv
    rw [frames_same (.inl rfl)] at *
    have hB3 : Blk w3 g' (sbytes t) := (blk_over hBt HC2.out).below hb3 (blk_over hBt HC2.out).lt
    have hg1 := hBt.lt
    obtain ⟨gf, cf', hv, hgf, hcf⟩ := RowS.cell hrow j t ht
    simp only [Value.slice.injEq] at hv
    obtain ⟨rfl, _, rfl⟩ := hv
    have hjl := (List.getElem?_eq_some_iff.1 ht).1
    have hjli : (j : Int) < ((framesOfC q.cs z).length : Int) := by omega
    have ho3 := ho2.below hb3 ho2.lt
    obtain ⟨o0, o1, o2, o3, o4, o5, o6⟩ := ho3.op
    have hstr := run_sb w3.drew g' t hB3
    have hstr0 := run_sb w3 g' t hB3
    have hcd : w3.drew.cell? ⟨gf, j, none⟩ = some (.string t) := hcf
    have hod : w3.drew.cell? ⟨w.heap.size + 1, 3, none⟩ = some (.int .i64 (j : Int)) := o3
    have HB3 := (show Hid _ from hB3)
    have hlt256 := sbytes_lt t
    have hlen2 : (sbytes t).length ≤ 2000000 := by
      rw [sbytes_length]
      exact frames_all (p := fun b => b.size ≤ 2000000) z HQ.out.b t (List.mem_of_getElem? ht)
    clear hB3 hrow ho2 ho3 hp2
    go_wp2_with fail
    go_still rfl
    go_wp2_with fail
    have hb3d : Below w2.heap.size w2 w3.drew := hb3.drew
    have hk0 : ∀ (k : Nat) (cur : Array Value) (t : TypeId) (fz : Nat × Nat), (t = 5 ∨ t = 83 ∨ t = 53) → W0.heap[k]? = some (Obj.cells cur t fz) → w3.drew.heap[k]? = some (Obj.cells cur t fz) := fun k cur t fz ht hk => ((chg_all (Below.refl _ _) HP.out HC2.out hb3d).1.block k (Array.getElem?_eq_some_iff.1 hk).1 (own_not ht hk)).trans hk
    have hz3 := hb3.size
    have hB3d : Blk w3.drew g' (sbytes t) := HB3.out
    refine (keep_disk base base2 WB N (sbytes t).length 0 (some ⟨g', 0, none⟩) (sbytes t) dV sV (Ext F w1 w2) (q.act ⟨2, z, (j : Int), ByteArray.empty⟩) W0 w3.drew hN hlen2 (BooksD.down HB.out hb0) (by simp; omega) hk0 (.inr ⟨g', rfl, rfl, hB3d⟩) hlt256 (by intro a ha; cases ha; exact hg') (PlateAt.below HPL.out hb3d) (fun a k ha hk => ?np)).mono ?_
    case np =>
      cases ha
      intro e
      have e' : g' = k := e
      rcases hk.1 with h' | h'
      · have := (hlow.out k h').2; omega
      · omega
    rintro e w4 ⟨rfl, hB4, hb4, hpl4, hkb4⟩
    have hdone := told_keep hb0 HP.out HC2.out hb3d HB.out (fun k hk => (hlow.out k hk).1) hbase hbase2 hB4 hb4 hpl4 hkb4 (by intro a ha; cases ha; show w.heap.size ≤ g'; omega)
    clear o0 o1 o2 o3 o4 o5 o6 hstr hstr0 hcd hod hcf
    go_wp2
    go_ret
    exact ⟨rfl, hdone⟩
end Go.Proofs.YtloaefcgcniacaaGreatDoor

namespace Go.Proofs.YtloaefcgcniacaaGreatDoor
open Go.RowKit
set_option linter.unusedVariables false

set_option maxRecDepth 20000 in
set_option maxHeartbeats 1000000 in
theorem tells_anchored (q : Pl) (n base base2 WB N : Nat) (F : Nat → Prop) (a z c d e0 : Int) (s : ByteArray) (dV sV : Value) (w : World) (h : PlateAt w base2 F q) (hB : BooksD w base WB N dV sV) (hq : Fine q n) (hn : n < 900000) (hbase : base ≤ base2) (hbase2 : base2 ≤ w.heap.size) (hN : N < 1000000) :
    Calls Tryz.prog 93 #[.pointer (some ⟨WB, 0, none⟩), .agg #[.pointer (some ⟨q.x, 0, none⟩), .pointer (some ⟨q.h, 0, none⟩), .pointer (some ⟨q.r, 0, none⟩)], .agg #[.int .i64 10, .int .i64 a, .int .i64 z, .int .i64 c, .int .i64 d, .int .i64 e0, .string s]] w fun e w' => e = .returned (.bool true) ∧ Told w w' base base2 WB N F q ⟨6, 0, 0, ByteArray.empty⟩ dV sV := by
  have HH := (show Hid _ from h)
  have HQ := (show Hid _ from hq)
  have HB := (show Hid _ from hB)
  clear h hq hB
  go_enter Tryz.func93, Tryz.ntmps93
  go_wp2_with fail
  obtain ⟨hb0, hp0, ho0, hz0⟩ := two_cells w (plC q) (opC 10 a z c d e0 s)
  simp only [plC, opC] at hb0 hz0
  have hp0' : Cel ((w.alloc (Obj.cells #[.pointer (some ⟨q.x, 0, none⟩), .pointer (some ⟨q.h, 0, none⟩), .pointer (some ⟨q.r, 0, none⟩)] 159)).alloc (Obj.cells #[.int .i64 10, .int .i64 a, .int .i64 z, .int .i64 c, .int .i64 d, .int .i64 e0, .string s] 56)) w.heap.size 159 (plC q) := hp0
  have ho0' : Cel ((w.alloc (Obj.cells #[.pointer (some ⟨q.x, 0, none⟩), .pointer (some ⟨q.h, 0, none⟩), .pointer (some ⟨q.r, 0, none⟩)] 159)).alloc (Obj.cells #[.int .i64 10, .int .i64 a, .int .i64 z, .int .i64 c, .int .i64 d, .int .i64 e0, .string s] 56)) (w.heap.size + 1) 56 (opC 10 a z c d e0 s) := ho0
  clear hp0 ho0
  generalize ((w.alloc (Obj.cells #[.pointer (some ⟨q.x, 0, none⟩), .pointer (some ⟨q.h, 0, none⟩), .pointer (some ⟨q.r, 0, none⟩)] 159)).alloc (Obj.cells #[.int .i64 10, .int .i64 a, .int .i64 z, .int .i64 c, .int .i64 d, .int .i64 e0, .string s] 56)) = W0 at *
  have HPA := (show Hid _ from hp0')
  have HOA := (show Hid _ from ho0')
  have hlow : Hid (∀ k, F k → base2 ≤ k ∧ k < w.heap.size) := fun k hk => by
    obtain ⟨_, _, _, _, d', _⟩ := HH.out
    exact ⟨(d'.ok k hk).1, (d'.ok k hk).2.lt⟩
  clear hp0' ho0'
  obtain ⟨dv, bd, lg, zs, d', r'⟩ := HH.out
  have HDA : Hid (DP W0 base2 F q.x q.h q.g q.gz q.dk bd lg zs) := d'.down hb0
  have HRA : Hid (RP W0 base2 F q.r q.Z q.S q.C q.B q.L q.cs q.ca q.wr dv) := r'.down hb0
  clear d' r' HH
  refine (act_anchored HDA.out (HQ.out.good hn) ⟨6, 0, 0, ByteArray.empty⟩ rfl).mono ?_
  rintro e w1 ⟨⟨hdn, rfl⟩ | ⟨hdn, g', rfl, hBt, hg'⟩, hP⟩
  · have hp1 : Cel w1 w.heap.size 159 (plC q) := (mid1 hP (fun k hk => (hlow.out k hk).2) (Nat.le_refl _) (by omega)).trans HPA.out
    have ho1 : Cel w1 (w.heap.size + 1) 56 (opC 10 a z c d e0 s) := (mid1 hP (fun k hk => (hlow.out k hk).2) (by omega) (by omega)).trans HOA.out
    obtain ⟨p0, p1, p2⟩ := hp1.pl
    obtain ⟨o0, o1, o2, o3, o4, o5, o6⟩ := ho1.op
    have HP := (show Hid _ from hP)
    have hz1 := hP.chg.size
    clear hP hp1 ho1
    go_wp2_with fail
    clear p0 p1 p2 o0 o1 o2 o3 o4 o5 o6
    refine (act_do ⟨6, 0, 0, ByteArray.empty⟩ HP.out HRA.out HQ.out hn empty_small (by omega)).mono ?_
    rintro e w2 ⟨he, hc2, hpl⟩
    rw [hdn] at he
    subst he
    have hp2 : Cel w2 w.heap.size 159 (plC q) := (mid2 HP.out hc2 (fun k hk => (hlow.out k hk).2) (Nat.le_refl _) (by omega)).trans HPA.out
    have ho2 : Cel w2 (w.heap.size + 1) 56 (opC 10 a z c d e0 s) := (mid2 HP.out hc2 (fun k hk => (hlow.out k hk).2) (by omega) (by omega)).trans HOA.out
    obtain ⟨p0, p1, p2⟩ := hp2.pl
    obtain ⟨o0, o1, o2, o3, o4, o5, o6⟩ := ho2.op
    have HPL := (show Hid _ from hpl)
    have HC2 := (show Hid _ from hc2)
    have hz2 := hc2.size
    obtain ⟨dv2, bd2, lg2, zs2, d2, r2⟩ := hpl
    have hids := act_ids q ⟨6, 0, 0, ByteArray.empty⟩
    have hfq := HQ.out.act ⟨6, 0, 0, ByteArray.empty⟩ empty_small
    have href := r2.ref
    rw [hids.2.2.1] at href
    go_wp2_with fail
    clear p0 p1 p2 o0 o1 o2 o3 o4 o5 o6
    refine (ranchored_any base2 q.r _ _ _ _ _ dv2 _ _ _ _ href r2.don (by have := hfq.cs; omega) hfq.C.1 hfq.C.2).mono ?_
    rintro e w3 ⟨rfl, hb3⟩
    clear href d2 r2
    rw [anch_same (.inr (.inr rfl))] at *
    have hnil := fun w : World => Lib.run_eql_slice_nil (P := Tryz.prog) w 66 5 none 0 0 0 0 Tryz.underlying66
    have hz3 := hb3.size
    go_wp2_with fail
    have hk0 : ∀ (k : Nat) (cur : Array Value) (t : TypeId) (fz : Nat × Nat), (t = 5 ∨ t = 83 ∨ t = 53) → W0.heap[k]? = some (Obj.cells cur t fz) → w3.heap[k]? = some (Obj.cells cur t fz) := fun k cur t fz ht hk => ((chg_all (Below.refl _ _) HP.out HC2.out hb3).1.block k (Array.getElem?_eq_some_iff.1 hk).1 (own_not ht hk)).trans hk
    refine (keep_disk base base2 WB N 0 0 none [] dV sV (Ext F w1 w2) (q.act ⟨6, 0, 0, ByteArray.empty⟩) W0 w3 hN (by omega) (BooksD.down HB.out hb0) (by omega) hk0 (.inl ⟨rfl, rfl, rfl⟩) (by simp) (by intro a ha; cases ha) (PlateAt.below HPL.out hb3) (by intro a k ha; cases ha)).mono ?_
    rintro e w4 ⟨rfl, hB4, hb4, hpl4, hkb4⟩
    have hdone := told_keep hb0 HP.out HC2.out hb3 HB.out (fun k hk => (hlow.out k hk).1) hbase hbase2 hB4 hb4 hpl4 hkb4 (by intro a ha; cases ha)
    go_wp2
    go_ret
    exact ⟨rfl, hdone⟩
  · have hp1 : Cel w1 w.heap.size 159 (plC q) := (mid1 hP (fun k hk => (hlow.out k hk).2) (Nat.le_refl _) (by omega)).trans HPA.out
    have ho1 : Cel w1 (w.heap.size + 1) 56 (opC 10 a z c d e0 s) := (mid1 hP (fun k hk => (hlow.out k hk).2) (by omega) (by omega)).trans HOA.out
    obtain ⟨p0, p1, p2⟩ := hp1.pl
    obtain ⟨o0, o1, o2, o3, o4, o5, o6⟩ := ho1.op
    have HP := (show Hid _ from hP)
    have hz1 := hP.chg.size
    clear hP hp1 ho1
    go_wp2_with fail
    clear p0 p1 p2 o0 o1 o2 o3 o4 o5 o6
    refine (act_do ⟨6, 0, 0, ByteArray.empty⟩ HP.out HRA.out HQ.out hn empty_small (by omega)).mono ?_
    rintro e w2 ⟨he, hc2, hpl⟩
    rw [hdn] at he
    subst he
    have hp2 : Cel w2 w.heap.size 159 (plC q) := (mid2 HP.out hc2 (fun k hk => (hlow.out k hk).2) (Nat.le_refl _) (by omega)).trans HPA.out
    have ho2 : Cel w2 (w.heap.size + 1) 56 (opC 10 a z c d e0 s) := (mid2 HP.out hc2 (fun k hk => (hlow.out k hk).2) (by omega) (by omega)).trans HOA.out
    obtain ⟨p0, p1, p2⟩ := hp2.pl
    obtain ⟨o0, o1, o2, o3, o4, o5, o6⟩ := ho2.op
    have HPL := (show Hid _ from hpl)
    have HC2 := (show Hid _ from hc2)
    have hz2 := hc2.size
    obtain ⟨dv2, bd2, lg2, zs2, d2, r2⟩ := hpl
    have hids := act_ids q ⟨6, 0, 0, ByteArray.empty⟩
    have hfq := HQ.out.act ⟨6, 0, 0, ByteArray.empty⟩ empty_small
    have href := r2.ref
    rw [hids.2.2.1] at href
    go_wp2_with fail
    clear p0 p1 p2 o0 o1 o2 o3 o4 o5 o6
    refine (ranchored_any base2 q.r _ _ _ _ _ dv2 _ _ _ _ href r2.don (by have := hfq.cs; omega) hfq.C.1 hfq.C.2).mono ?_
    rintro e w3 ⟨rfl, hb3⟩
    clear href d2 r2
    rw [anch_same (.inr (.inr rfl))] at *
    have hB3 : Blk w3 g' (sbytes (anchC q.C q.B q.cs).2) := (blk_over hBt HC2.out).below hb3 (blk_over hBt HC2.out).lt
    have hg1 := hBt.lt
    have hstr := run_sb w3 g' _ hB3
    have HB3 := (show Hid _ from hB3)
    have hlt256 := sbytes_lt (anchC q.C q.B q.cs).2
    have hlen2 := HQ.out.anch
    have hz3 := hb3.size
    clear hB3 hp2 ho2
    go_wp2_with fail
    have hb3d : Below w2.heap.size w2 w3 := hb3
    have hk0 : ∀ (k : Nat) (cur : Array Value) (t : TypeId) (fz : Nat × Nat), (t = 5 ∨ t = 83 ∨ t = 53) → W0.heap[k]? = some (Obj.cells cur t fz) → w3.heap[k]? = some (Obj.cells cur t fz) := fun k cur t fz ht hk => ((chg_all (Below.refl _ _) HP.out HC2.out hb3d).1.block k (Array.getElem?_eq_some_iff.1 hk).1 (own_not ht hk)).trans hk
    have hB3d : Blk w3 g' (sbytes (anchC q.C q.B q.cs).2) := HB3.out
    refine (keep_disk base base2 WB N (sbytes (anchC q.C q.B q.cs).2).length 0 (some ⟨g', 0, none⟩) (sbytes (anchC q.C q.B q.cs).2) dV sV (Ext F w1 w2) (q.act ⟨6, 0, 0, ByteArray.empty⟩) W0 w3 hN hlen2 (BooksD.down HB.out hb0) (by omega) hk0 (.inr ⟨g', rfl, rfl, hB3d⟩) hlt256 (by intro a ha; cases ha; exact hg') (PlateAt.below HPL.out hb3d) (fun a k ha hk => ?np)).mono ?_
    case np =>
      cases ha
      intro e
      have e' : g' = k := e
      rcases hk.1 with h' | h'
      · have := (hlow.out k h').2; omega
      · omega
    rintro e w4 ⟨rfl, hB4, hb4, hpl4, hkb4⟩
    have hdone := told_keep hb0 HP.out HC2.out hb3d HB.out (fun k hk => (hlow.out k hk).1) hbase hbase2 hB4 hb4 hpl4 hkb4 (by intro a ha; cases ha; show w.heap.size ≤ g'; omega)
    clear hstr
    go_wp2
    go_ret
    exact ⟨rfl, hdone⟩
end Go.Proofs.YtloaefcgcniacaaGreatDoor
