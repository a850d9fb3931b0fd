import Derived.Test.YtloaefcgcniacaaGreatDoorEA1
import Derived.Test.YtloaefcgcniacaaGreatDoorEe
import Derived.Test.YtloaefcgcniacaaGreatDoorBd
namespace Go.Proofs.YtloaefcgcniacaaGreatDoor
open Go.RowKit
set_option linter.unusedVariables false

/-- What a call may change: the disk's own blocks. -/
def Own (F : Nat → Prop) (w : World) (k : Nat) : Prop := F k ∧ (TyD w k ∨ TyR w k)

theorem did {w w1 w2 : World} {base : Nat} {F F1 : Nat → Prop} {q : Pl} {c : RCall} {bd lg : Value} {zs : List (Value × Int)} (hP : Post w w1 base F F1 q c bd lg zs) (h2 : Chg w1 w2 (fun k => F1 k ∧ TyR w1 k)) :
    Chg w w2 (Own F w) ∧ (∀ k, Ext F1 w1 w2 k → F k ∨ w.heap.size ≤ k) := by
  refine ⟨(hP.chg.mono (fun k _ hk => ⟨hk.1, .inl hk.2⟩)).trans h2 (fun k hk h => ?_), fun k hk => ?_⟩
  · have hF : F k := by
      rcases hP.sub k h.1 with h' | h'
      · exact h'
      · omega
    refine ⟨hF, ?_⟩
    by_cases hT : TyD w k
    · exact .inl hT
    · obtain ⟨cur, t, fz, e1, e2⟩ := h.2
      rw [hP.chg.block k hk (fun x => hT x.2)] at e1
      exact .inr ⟨cur, t, fz, e1, e2⟩
  · have hz := hP.chg.size
    rcases hk.1 with hk | hk
    · exact hP.sub k hk
    · exact .inr (by omega)

/-- A block that is none of the disk's, and was there, is as it was. -/
theorem mid1 {w w1 : World} {base : Nat} {F F1 : Nat → Prop} {q : Pl} {c : RCall} {bd lg : Value} {zs : List (Value × Int)} (hP : Post w w1 base F F1 q c bd lg zs) {B k : Nat} (hB : ∀ k, F k → k < B) (hk : B ≤ k) (hz : k < w.heap.size) : w1.heap[k]? = w.heap[k]? :=
  hP.chg.block k hz (fun h => by have := hB k h.1; omega)
theorem mid2 {w w1 w2 : World} {base : Nat} {F F1 : Nat → Prop} {q : Pl} {c : RCall} {bd lg : Value} {zs : List (Value × Int)} (hP : Post w w1 base F F1 q c bd lg zs) (h2 : Chg w1 w2 (fun k => F1 k ∧ TyR w1 k)) {B k : Nat} (hB : ∀ k, F k → k < B) (hk : B ≤ k) (hz : k < w.heap.size) : w2.heap[k]? = w.heap[k]? :=
  (did hP h2).1.block k hz (fun h => by have := hB k h.1; omega)

theorem lent_byV {w : World} {g : Nat} {s : ByteArray} (h : Blk w g (lentL s)) : ByV w (some ⟨g, 0, none⟩) (sbytes s) := fun _ => by
  refine ⟨g, 0, _, _, rfl, h, fun i hi => ?_⟩
  have hl : i < (lentL s).length := by rw [lentL_length]; rw [sbytes_length] at hi; omega
  have e : (lentL s)[i]? = (sbytes s)[i]? := by
    unfold lentL
    rw [List.getElem?_append_left hi]
  have e2 : (sbytes s)[i]? = some (sbytes s)[i] := List.getElem?_eq_getElem hi
  simp only [Nat.zero_add, blkOf, List.getElem?_toArray, List.getElem?_map, e, e2, Option.map_some, Option.getD_some]
  rfl

theorem two_cells (w : World) (cp co : Array Value) : Below w.heap.size w ((w.alloc (Obj.cells cp 159)).alloc (Obj.cells co 56)) ∧ Cel ((w.alloc (Obj.cells cp 159)).alloc (Obj.cells co 56)) w.heap.size 159 cp ∧ Cel ((w.alloc (Obj.cells cp 159)).alloc (Obj.cells co 56)) (w.heap.size + 1) 56 co ∧ ((w.alloc (Obj.cells cp 159)).alloc (Obj.cells co 56)).heap.size = w.heap.size + 2 := by
  have h1 : Below w.heap.size w (w.alloc (Obj.cells cp 159)) := (Below.refl _ _).alloc (Nat.le_refl _) _
  refine ⟨h1.alloc (by simp) _, ?_, ?_, by simp⟩
  · exact (Cel.new w 159 cp).below ((Below.refl _ _).alloc (Nat.le_refl _) _) (by simp)
  · have := Cel.new (w.alloc (Obj.cells cp 159)) 56 co
    simpa using this
def opC (k a b c d e : Int) (s : ByteArray) : Array Value := #[.int .i64 k, .int .i64 a, .int .i64 b, .int .i64 c, .int .i64 d, .int .i64 e, .string s]
def plC (q : Pl) : Array Value := #[.pointer (some ⟨q.x, 0, none⟩), .pointer (some ⟨q.h, 0, none⟩), .pointer (some ⟨q.r, 0, none⟩)]
theorem Cel.op {w : World} {g : Nat} {k a b c d e : Int} {s : ByteArray} (h : Cel w g 56 (opC k a b c d e s)) : w.cell? ⟨g, 0, none⟩ = some (.int .i64 k) ∧ w.cell? ⟨g, 1, none⟩ = some (.int .i64 a) ∧ w.cell? ⟨g, 2, none⟩ = some (.int .i64 b) ∧ w.cell? ⟨g, 3, none⟩ = some (.int .i64 c) ∧ w.cell? ⟨g, 4, none⟩ = some (.int .i64 d) ∧ w.cell? ⟨g, 5, none⟩ = some (.int .i64 e) ∧ w.cell? ⟨g, 6, none⟩ = some (.string s) :=
  ⟨h.cell 0, h.cell 1, h.cell 2, h.cell 3, h.cell 4, h.cell 5, h.cell 6⟩
theorem Cel.pl {w : World} {g : Nat} {q : Pl} (h : Cel w g 159 (plC q)) : w.cell? ⟨g, 0, none⟩ = some (.pointer (some ⟨q.x, 0, none⟩)) ∧ w.cell? ⟨g, 1, none⟩ = some (.pointer (some ⟨q.h, 0, none⟩)) ∧ w.cell? ⟨g, 2, none⟩ = some (.pointer (some ⟨q.r, 0, none⟩)) :=
  ⟨h.cell 0, h.cell 1, h.cell 2⟩

theorem frames_done {q : Pl} {z : Int} {s : ByteArray} (h : q.done ⟨1, z, 0, s⟩ = true) : (framesOfC (q.act ⟨1, z, 0, s⟩).cs z).length = (framesOfC q.cs z).length + 1 := by
  have hL : q.L ≠ 0 := fun e => by rw [(act_off e).2] at h; cases h
  rw [(act_on hL).2] at h
  rw [(act_on hL).1, step_yes q _ h]
  simp only [framesOfC_add, frStep]
  simp

set_option maxRecDepth 20000 in
set_option maxHeartbeats 1000000 in
theorem takes_append (q : Pl) (n base : Nat) (F : Nat → Prop) (a z c d e0 : Int) (s : ByteArray) (w : World) (h : PlateAt w base F q) (hq : Fine q n) (hn : n < 900000) (hs : s.size ≤ 2000000) (hbase : base ≤ w.heap.size) :
    Calls Tryz.prog 92 #[.agg #[.pointer (some ⟨q.x, 0, none⟩), .pointer (some ⟨q.h, 0, none⟩), .pointer (some ⟨q.r, 0, none⟩)], .agg #[.int .i64 5, .int .i64 a, .int .i64 z, .int .i64 c, .int .i64 d, .int .i64 e0, .string s]] w fun e w' => e = .returned (.bool true) ∧ ∃ F', PlateAt w' base F' (q.act ⟨1, z, 0, s⟩) ∧ (∀ k, F' k → F k ∨ w.heap.size ≤ k) ∧ Chg w w' (Own F w) := by
  have HH := (show Hid _ from h)
  have HQ := (show Hid _ from hq)
  clear h hq
  go_enter Tryz.func92, Tryz.ntmps92
  go_wp2_with fail
  obtain ⟨hb0, hp0, ho0, hz0⟩ := two_cells w (plC q) (opC 5 a z c d e0 s)
  simp only [plC, opC] at hb0 hz0
  have hp0' : Cel ((w.alloc (Obj.cells #[.pointer (some ⟨q.x, 0, none⟩), .pointer (some ⟨q.h, 0, none⟩), .pointer (some ⟨q.r, 0, none⟩)] 159)).alloc (Obj.cells #[.int .i64 5, .int .i64 a, .int .i64 z, .int .i64 c, .int .i64 d, .int .i64 e0, .string s] 56)) w.heap.size 159 (plC q) := hp0
  have ho0' : Cel ((w.alloc (Obj.cells #[.pointer (some ⟨q.x, 0, none⟩), .pointer (some ⟨q.h, 0, none⟩), .pointer (some ⟨q.r, 0, none⟩)] 159)).alloc (Obj.cells #[.int .i64 5, .int .i64 a, .int .i64 z, .int .i64 c, .int .i64 d, .int .i64 e0, .string s] 56)) (w.heap.size + 1) 56 (opC 5 a z c d e0 s) := ho0
  clear hp0 ho0
  generalize ((w.alloc (Obj.cells #[.pointer (some ⟨q.x, 0, none⟩), .pointer (some ⟨q.h, 0, none⟩), .pointer (some ⟨q.r, 0, none⟩)] 159)).alloc (Obj.cells #[.int .i64 5, .int .i64 a, .int .i64 z, .int .i64 c, .int .i64 d, .int .i64 e0, .string s] 56)) = W0 at *
  refine (lent_any s _ hs).mono ?_
  rintro e wA ⟨rfl, hBl, hbA⟩
  rw [hz0] at *
  have hzA := hBl.lt
  have hbwA : Below w.heap.size w wA := hb0.trans (hbA.mono (by omega))
  have hpA := hp0'.below hbA (by omega)
  have hoA := ho0'.below hbA (by omega)
  obtain ⟨p0, p1, p2⟩ := hpA.pl
  obtain ⟨o0, o1, o2, o3, o4, o5, o6⟩ := hoA.op
  have HPA := (show Hid _ from hpA)
  have HOA := (show Hid _ from hoA)
  have HBL := (show Hid _ from hBl)
  have hlow : Hid (∀ k, F k → k < w.heap.size) := fun k hk => by
    obtain ⟨_, _, _, _, d', _⟩ := HH.out
    exact (d'.ok k hk).2.lt
  clear hp0' ho0' hpA hoA hb0 hbA hBl
  obtain ⟨dv, bd, lg, zs, d', r'⟩ := HH.out
  have HDA : Hid (DP wA base F q.x q.h q.g q.gz q.dk bd lg zs) := d'.down hbwA
  have HRA : Hid (RP wA base F q.r q.Z q.S q.C q.B q.L q.cs q.ca q.wr dv) := r'.down hbwA
  clear d' r' HH
  go_wp2_with fail
  clear p0 p1 p2 o0 o1 o2 o3 o4 o5 o6
  cases hdn : q.done ⟨1, z, 0, s⟩
  · refine (act_append HDA.out (HQ.out.good hn) z s _ _ (lent_byV HBL.out) hs (by have := hbwA.size; omega) ⟨1, z, 0, s⟩ rfl).mono ?_
    rintro e w1 ⟨he, F1, lg', zs', hP⟩
    rw [hdn] at he
    subst he
    simp only [Bool.false_eq_true, if_false]
    have hp1 : Cel w1 w.heap.size 159 (plC q) := (mid1 hP hlow.out (Nat.le_refl _) (by omega)).trans HPA.out
    have ho1 : Cel w1 (w.heap.size + 1) 56 (opC 5 a z c d e0 s) := (mid1 hP hlow.out (by omega) (by omega)).trans HOA.out
    obtain ⟨p0, p1, p2⟩ := hp1.pl
    obtain ⟨o0, o1, o2, o3, o4, o5, o6⟩ := ho1.op
    have HP := (show Hid _ from hP)
    have hz1 := hP.chg.size
    clear hP hp1 ho1
    go_wp2_with fail
    clear p0 p1 p2 o0 o1 o2 o3 o4 o5 o6
    refine (act_do ⟨1, z, 0, s⟩ HP.out HRA.out HQ.out hn hs (by have := hbwA.size; omega)).mono ?_
    rintro e w2 ⟨he, hc2, hpl⟩
    rw [hdn] at he
    subst he
    have hp2 : Cel w2 w.heap.size 159 (plC q) := (mid2 HP.out hc2 hlow.out (Nat.le_refl _) (by omega)).trans HPA.out
    have ho2 : Cel w2 (w.heap.size + 1) 56 (opC 5 a z c d e0 s) := (mid2 HP.out hc2 hlow.out (by omega) (by omega)).trans HOA.out
    have hB2 : Blk w2 (w.heap.size + 2) (lentL s) := (mid2 HP.out hc2 hlow.out (by omega) hzA).trans HBL.out
    obtain ⟨p0, p1, p2⟩ := hp2.pl
    obtain ⟨o0, o1, o2, o3, o4, o5, o6⟩ := ho2.op
    have HPL := (show Hid _ from hpl)
    have HC2 := (show Hid _ from hc2)
    have hz2 := hc2.size
    obtain ⟨dv2, bd2, lg2, zs2, d2, r2⟩ := hpl
    have hids := act_ids q ⟨1, z, 0, s⟩
    have hfq := HQ.out.act ⟨1, z, 0, s⟩ hs
    have href := r2.ref
    rw [hids.2.2.1] at href
    go_wp2_with fail
    clear p0 p1 p2 o0 o1 o2 o3 o4 o5 o6
    refine (rframes_any base q.r _ _ _ z _ _ dv2 _ _ _ _ href r2.don (by have := hfq.cs; omega)).mono ?_
    rintro e w3 ⟨fv, rfl, hrow, hb3⟩
    clear href d2 r2
    obtain ⟨pf, cf, hfv⟩ := hrow.form
    subst hfv
    have ho3 := ho2.below hb3 ho2.lt
    have hB3 := hB2.below hb3 hB2.lt
    obtain ⟨o0, o1, o2, o3, o4, o5, o6⟩ := ho3.op
    have hlen := hfq.cs
    have hfl := framesOfC_length (q.act ⟨1, z, 0, s⟩).cs z
    clear hrow hp2 ho2 ho3 hB2
    go_wp2_with fail
    clear o0 o1 o2 o3 o4 o5 o6
    refine (back_any (w.heap.size + 2) s w3 hs hB3).mono ?_
    rintro e w4 ⟨rfl, hg4, hz4, l4, hB4⟩
    have hd := did HP.out HC2.out
    have hz3 := hb3.size
    have hc4 : Chg w3 w4 (fun k => k = w.heap.size + 2) := (Chg.of_grown hg4).mono (fun k _ hk => by cases hk; rfl)
    have hF2 : ∀ k, Ext F1 w1 w2 k → k ≠ w.heap.size + 2 := fun k hk e => by
      rcases hd.2 k hk with h' | h'
      · have := hlow.out k h'; omega
      · omega
    have hpl4 : PlateAt w4 base (Ext F1 w1 w2) (q.act ⟨1, z, 0, s⟩) := (PlateAt.below HPL.out hb3).chg hc4 hF2
    have hchg : Chg w w4 (Own F w) := ((((Chg.of_below hbwA (Own F w)).trans hd.1 (fun k hk h' => ⟨h'.1, ?ty⟩)).trans (Chg.of_below hb3 (fun _ => False)) (fun _ _ h' => h'.elim)).trans hc4 (fun k hk e => by omega))
    case ty =>
      rcases h'.2 with ⟨cur, t, fz, e1, e2⟩ | ⟨cur, t, fz, e1, e2⟩
      · exact .inl ⟨cur, t, fz, (hbwA.block k hk).symm.trans e1, e2⟩
      · exact .inr ⟨cur, t, fz, (hbwA.block k hk).symm.trans e1, e2⟩
    have hsub : ∀ k, Ext F1 w1 w2 k → F k ∨ w.heap.size ≤ k := fun k hk => by
      rcases hd.2 k hk with h' | h'
      · exact .inl h'
      · exact .inr (by omega)
    go_wp2
    go_ret
    exact ⟨rfl, _, hpl4, hsub, hchg⟩
  · refine (act_append HDA.out (HQ.out.good hn) z s _ _ (lent_byV HBL.out) hs (by have := hbwA.size; omega) ⟨1, z, 0, s⟩ rfl).mono ?_
    rintro e w1 ⟨he, F1, lg', zs', hP⟩
    rw [hdn] at he
    subst he
    simp only [if_true]
    have hp1 : Cel w1 w.heap.size 159 (plC q) := (mid1 hP hlow.out (Nat.le_refl _) (by omega)).trans HPA.out
    have ho1 : Cel w1 (w.heap.size + 1) 56 (opC 5 a z c d e0 s) := (mid1 hP hlow.out (by omega) (by omega)).trans HOA.out
    obtain ⟨p0, p1, p2⟩ := hp1.pl
    obtain ⟨o0, o1, o2, o3, o4, o5, o6⟩ := ho1.op
    have HP := (show Hid _ from hP)
    have hz1 := hP.chg.size
    clear hP hp1 ho1
    go_wp2_with fail
    clear p0 p1 p2 o0 o1 o2 o3 o4 o5 o6
    refine (act_do ⟨1, z, 0, s⟩ HP.out HRA.out HQ.out hn hs (by have := hbwA.size; omega)).mono ?_
    rintro e w2 ⟨he, hc2, hpl⟩
    rw [hdn] at he
    subst he
    have hp2 : Cel w2 w.heap.size 159 (plC q) := (mid2 HP.out hc2 hlow.out (Nat.le_refl _) (by omega)).trans HPA.out
    have ho2 : Cel w2 (w.heap.size + 1) 56 (opC 5 a z c d e0 s) := (mid2 HP.out hc2 hlow.out (by omega) (by omega)).trans HOA.out
    have hB2 : Blk w2 (w.heap.size + 2) (lentL s) := (mid2 HP.out hc2 hlow.out (by omega) hzA).trans HBL.out
    obtain ⟨p0, p1, p2⟩ := hp2.pl
    obtain ⟨o0, o1, o2, o3, o4, o5, o6⟩ := ho2.op
    have HPL := (show Hid _ from hpl)
    have HC2 := (show Hid _ from hc2)
    have hz2 := hc2.size
    obtain ⟨dv2, bd2, lg2, zs2, d2, r2⟩ := hpl
    have hids := act_ids q ⟨1, z, 0, s⟩
    have hfq := HQ.out.act ⟨1, z, 0, s⟩ hs
    have href := r2.ref
    rw [hids.2.2.1] at href
    go_wp2_with fail
    clear p0 p1 p2 o0 o1 o2 o3 o4 o5 o6
    refine (rframes_any base q.r _ _ _ z _ _ dv2 _ _ _ _ href r2.don (by have := hfq.cs; omega)).mono ?_
    rintro e w3 ⟨fv, rfl, hrow, hb3⟩
    clear href d2 r2
    obtain ⟨pf, cf, hfv⟩ := hrow.form
    subst hfv
    have ho3 := ho2.below hb3 ho2.lt
    have hB3 := hB2.below hb3 hB2.lt
    obtain ⟨o0, o1, o2, o3, o4, o5, o6⟩ := ho3.op
    have hlen := hfq.cs
    have hfl := framesOfC_length (q.act ⟨1, z, 0, s⟩).cs z
    rw [frames_done hdn] at *
    clear hrow hp2 ho2 ho3 hB2
    go_wp2_with fail
    clear o0 o1 o2 o3 o4 o5 o6
    refine (back_any (w.heap.size + 2) s w3 hs hB3).mono ?_
    rintro e w4 ⟨rfl, hg4, hz4, l4, hB4⟩
    have hd := did HP.out HC2.out
    have hz3 := hb3.size
    have hc4 : Chg w3 w4 (fun k => k = w.heap.size + 2) := (Chg.of_grown hg4).mono (fun k _ hk => by cases hk; rfl)
    have hF2 : ∀ k, Ext F1 w1 w2 k → k ≠ w.heap.size + 2 := fun k hk e => by
      rcases hd.2 k hk with h' | h'
      · have := hlow.out k h'; omega
      · omega
    have hpl4 : PlateAt w4 base (Ext F1 w1 w2) (q.act ⟨1, z, 0, s⟩) := (PlateAt.below HPL.out hb3).chg hc4 hF2
    have hchg : Chg w w4 (Own F w) := ((((Chg.of_below hbwA (Own F w)).trans hd.1 (fun k hk h' => ⟨h'.1, ?ty⟩)).trans (Chg.of_below hb3 (fun _ => False)) (fun _ _ h' => h'.elim)).trans hc4 (fun k hk e => by omega))
    case ty =>
      rcases h'.2 with ⟨cur, t, fz, e1, e2⟩ | ⟨cur, t, fz, e1, e2⟩
      · exact .inl ⟨cur, t, fz, (hbwA.block k hk).symm.trans e1, e2⟩
      · exact .inr ⟨cur, t, fz, (hbwA.block k hk).symm.trans e1, e2⟩
    have hsub : ∀ k, Ext F1 w1 w2 k → F k ∨ w.heap.size ≤ k := fun k hk => by
      rcases hd.2 k hk with h' | h'
      · exact .inl h'
      · exact .inr (by omega)
    go_wp2
    go_ret
    exact ⟨rfl, _, hpl4, hsub, hchg⟩
end Go.Proofs.YtloaefcgcniacaaGreatDoor

namespace Go.Proofs.YtloaefcgcniacaaGreatDoor
open Go.RowKit
set_option linter.unusedVariables false

set_option maxRecDepth 20000 in
set_option maxHeartbeats 1000000 in
theorem takes_advance (q : Pl) (n base : Nat) (F : Nat → Prop) (a z c d e0 : Int) (s : ByteArray) (w : World) (h : PlateAt w base F q) (hq : Fine q n) (hn : n < 900000) (hs : s.size ≤ 2000000) (hbase : base ≤ w.heap.size) :
    Calls Tryz.prog 92 #[.agg #[.pointer (some ⟨q.x, 0, none⟩), .pointer (some ⟨q.h, 0, none⟩), .pointer (some ⟨q.r, 0, none⟩)], .agg #[.int .i64 11, .int .i64 a, .int .i64 z, .int .i64 c, .int .i64 d, .int .i64 e0, .string s]] w fun e w' => e = .returned (.bool true) ∧ ∃ F', PlateAt w' base F' (q.act ⟨7, 0, 0, s⟩) ∧ (∀ k, F' k → F k ∨ w.heap.size ≤ k) ∧ Chg w w' (Own F w) := by
  have HH := (show Hid _ from h)
  have HQ := (show Hid _ from hq)
  clear h hq
  go_enter Tryz.func92, Tryz.ntmps92
  go_wp2_with fail
  obtain ⟨hb0, hp0, ho0, hz0⟩ := two_cells w (plC q) (opC 11 a z c d e0 s)
  simp only [plC, opC] at hb0 hz0
  have hp0' : Cel ((w.alloc (Obj.cells #[.pointer (some ⟨q.x, 0, none⟩), .pointer (some ⟨q.h, 0, none⟩), .pointer (some ⟨q.r, 0, none⟩)] 159)).alloc (Obj.cells #[.int .i64 11, .int .i64 a, .int .i64 z, .int .i64 c, .int .i64 d, .int .i64 e0, .string s] 56)) w.heap.size 159 (plC q) := hp0
  have ho0' : Cel ((w.alloc (Obj.cells #[.pointer (some ⟨q.x, 0, none⟩), .pointer (some ⟨q.h, 0, none⟩), .pointer (some ⟨q.r, 0, none⟩)] 159)).alloc (Obj.cells #[.int .i64 11, .int .i64 a, .int .i64 z, .int .i64 c, .int .i64 d, .int .i64 e0, .string s] 56)) (w.heap.size + 1) 56 (opC 11 a z c d e0 s) := ho0
  clear hp0 ho0
  generalize ((w.alloc (Obj.cells #[.pointer (some ⟨q.x, 0, none⟩), .pointer (some ⟨q.h, 0, none⟩), .pointer (some ⟨q.r, 0, none⟩)] 159)).alloc (Obj.cells #[.int .i64 11, .int .i64 a, .int .i64 z, .int .i64 c, .int .i64 d, .int .i64 e0, .string s] 56)) = W0 at *
  refine (lent_any s _ hs).mono ?_
  rintro e wA ⟨rfl, hBl, hbA⟩
  rw [hz0] at *
  have hzA := hBl.lt
  have hbwA : Below w.heap.size w wA := hb0.trans (hbA.mono (by omega))
  have hpA := hp0'.below hbA (by omega)
  have hoA := ho0'.below hbA (by omega)
  obtain ⟨p0, p1, p2⟩ := hpA.pl
  obtain ⟨o0, o1, o2, o3, o4, o5, o6⟩ := hoA.op
  have HPA := (show Hid _ from hpA)
  have HOA := (show Hid _ from hoA)
  have HBL := (show Hid _ from hBl)
  have hlow : Hid (∀ k, F k → k < w.heap.size) := fun k hk => by
    obtain ⟨_, _, _, _, d', _⟩ := HH.out
    exact (d'.ok k hk).2.lt
  clear hp0' ho0' hpA hoA hb0 hbA hBl
  obtain ⟨dv, bd, lg, zs, d', r'⟩ := HH.out
  have HDA : Hid (DP wA base F q.x q.h q.g q.gz q.dk bd lg zs) := d'.down hbwA
  have HRA : Hid (RP wA base F q.r q.Z q.S q.C q.B q.L q.cs q.ca q.wr dv) := r'.down hbwA
  clear d' r' HH
  go_wp2_with fail
  clear p0 p1 p2 o0 o1 o2 o3 o4 o5 o6
  refine (act_advance HDA.out (HQ.out.good hn) s _ _ (lent_byV HBL.out) hs (by have := hbwA.size; omega) ⟨7, 0, 0, s⟩ rfl).mono ?_
  rintro e w1 ⟨he, F1, bd', hP⟩
  subst he
  have hp1 : Cel w1 w.heap.size 159 (plC q) := (mid1 hP hlow.out (Nat.le_refl _) (by omega)).trans HPA.out
  have ho1 : Cel w1 (w.heap.size + 1) 56 (opC 11 a z c d e0 s) := (mid1 hP hlow.out (by omega) (by omega)).trans HOA.out
  obtain ⟨p0, p1, p2⟩ := hp1.pl
  obtain ⟨o0, o1, o2, o3, o4, o5, o6⟩ := ho1.op
  have HP := (show Hid _ from hP)
  have hz1 := hP.chg.size
  clear hP hp1 ho1
  go_wp2_with fail
  clear p0 p1 p2 o0 o1 o2 o3 o4 o5 o6
  refine (act_do ⟨7, 0, 0, s⟩ HP.out HRA.out HQ.out hn hs (by have := hbwA.size; omega)).mono ?_
  rintro e w2 ⟨he, hc2, hpl⟩
  subst he
  have hp2 : Cel w2 w.heap.size 159 (plC q) := (mid2 HP.out hc2 hlow.out (Nat.le_refl _) (by omega)).trans HPA.out
  have ho2 : Cel w2 (w.heap.size + 1) 56 (opC 11 a z c d e0 s) := (mid2 HP.out hc2 hlow.out (by omega) (by omega)).trans HOA.out
  have hB2 : Blk w2 (w.heap.size + 2) (lentL s) := (mid2 HP.out hc2 hlow.out (by omega) hzA).trans HBL.out
  obtain ⟨o0, o1, o2, o3, o4, o5, o6⟩ := ho2.op
  have HPL := (show Hid _ from hpl)
  have HC2 := (show Hid _ from hc2)
  have hz2 := hc2.size
  go_wp2_with fail
  clear o0 o1 o2 o3 o4 o5 o6
  refine (back_any (w.heap.size + 2) s w2 hs hB2).mono ?_
  rintro e w4 ⟨rfl, hg4, hz4, l4, hB4⟩
  have hd := did HP.out HC2.out
  have hc4 : Chg w2 w4 (fun k => k = w.heap.size + 2) := (Chg.of_grown hg4).mono (fun k _ hk => by cases hk; rfl)
  have hF2 : ∀ k, Ext F1 w1 w2 k → k ≠ w.heap.size + 2 := fun k hk e => by
    rcases hd.2 k hk with h' | h'
    · have := hlow.out k h'; omega
    · omega
  have hpl4 : PlateAt w4 base (Ext F1 w1 w2) (q.act ⟨7, 0, 0, s⟩) := PlateAt.chg HPL.out hc4 hF2
  have hchg : Chg w w4 (Own F w) := (((Chg.of_below hbwA (Own F w)).trans hd.1 (fun k hk h' => ⟨h'.1, ?ty⟩)).trans hc4 (fun k hk e => by omega))
  case ty =>
    rcases h'.2 with ⟨cur, t, fz, e1, e2⟩ | ⟨cur, t, fz, e1, e2⟩
    · exact .inl ⟨cur, t, fz, (hbwA.block k hk).symm.trans e1, e2⟩
    · exact .inr ⟨cur, t, fz, (hbwA.block k hk).symm.trans e1, e2⟩
  have hsub : ∀ k, Ext F1 w1 w2 k → F k ∨ w.heap.size ≤ k := fun k hk => by
    rcases hd.2 k hk with h' | h'
    · exact .inl h'
    · exact .inr (by omega)
  go_wp2
  go_ret
  exact ⟨rfl, _, hpl4, hsub, hchg⟩
end Go.Proofs.YtloaefcgcniacaaGreatDoor

namespace Go.Proofs.YtloaefcgcniacaaGreatDoor
open Go.RowKit
set_option linter.unusedVariables false

/-- Books that lie in other worlds. -/
theorem BooksD.of {w w' : World} {base WB N : Nat} {d s : Value} (h : BooksD w base WB N d s) (hk : ∀ (k : Nat) (cur : Array Value) (t : TypeId) (fz : Nat × Nat), (t = 5 ∨ t = 83 ∨ t = 53) → w.heap[k]? = some (Obj.cells cur t fz) → w'.heap[k]? = some (Obj.cells cur t fz)) : BooksD w' base WB N d s := by
  obtain ⟨lv, xs, h1, hwb, hown, hent⟩ := h
  refine ⟨lv, xs, h1, hk _ _ _ _ (.inr (.inr rfl)) hwb, ⟨hown.1, ?_⟩, fun j hj => ?_⟩
  · rcases hown.2 with h2 | ⟨g, cap, cur, hv, hb, hg, r⟩
    · exact .inl h2
    · exact .inr ⟨g, cap, cur, hv, hb, hk _ _ _ _ (.inr (.inl rfl)) hg, r⟩
  · obtain ⟨pa, pb, pc, pd, na, ca, nb, cb, nc, cc, nd, cd, x0, x1, x2, x3, x4, m0, m1, m2, m3⟩ := hent j hj
    have hk5 : ∀ (g : Nat) (cur : Array Value) (fz : Nat × Nat), w.heap[g]? = some (Obj.cells cur 5 fz) → w'.heap[g]? = some (Obj.cells cur 5 fz) := fun g cur fz => hk g cur 5 fz (.inl rfl)
    exact ⟨pa, pb, pc, pd, na, ca, nb, cb, nc, cc, nd, cd, x0, x1, x2, x3, x4, m0.keep hk5, m1.keep hk5, m2.keep hk5, m3.keep hk5⟩
theorem own_not {w : World} {F : Nat → Prop} {k : Nat} {cur : Array Value} {t : TypeId} {fz : Nat × Nat} (ht : t = 5 ∨ t = 83 ∨ t = 53) (hk : w.heap[k]? = some (Obj.cells cur t fz)) : ¬ Own F w k := fun h => by
  rcases h.2 with h | h
  · rcases ht with rfl | rfl | rfl <;> exact h.not hk (by decide) (by decide) (by decide)
  · rcases ht with rfl | rfl | rfl <;> exact h.not hk (by decide) (by decide)
theorem BooksD.chg {w w' : World} {F : Nat → Prop} {base WB N : Nat} {d s : Value} (h : BooksD w base WB N d s) (hc : Chg w w' (Own F w)) : BooksD w' base WB N d s :=
  h.of (fun k cur t fz ht hk => (hc.block k (Array.getElem?_eq_some_iff.1 hk).1 (own_not ht hk)).trans hk)
theorem BooksD.down {w w' : World} {base WB N : Nat} {d s : Value} (h : BooksD w base WB N d s) (hb : Below w.heap.size w w') : BooksD w' base WB N d s :=
  h.of (fun k cur t fz ht hk => (hb.block k (Array.getElem?_eq_some_iff.1 hk).1).trans hk)
theorem BooksD.wb {w : World} {base WB N : Nat} {d s : Value} (h : BooksD w base WB N d s) : base ≤ WB ∧ WB < w.heap.size ∧ ∃ cs, w.heap[WB]? = some (Obj.cells cs 53 (0, 0)) := by
  obtain ⟨lv, xs, h1, hwb, _⟩ := h
  exact ⟨h1, (Array.getElem?_eq_some_iff.1 hwb).1, _, hwb⟩

/-- The world as far as block n. -/
def trunc (w : World) (n : Nat) : World := { w with heap := w.heap.extract 0 n }
theorem trunc_size (w : World) (n : Nat) (h : n ≤ w.heap.size) : (trunc w n).heap.size = n := by
  simp [trunc]
  omega
theorem trunc_at (w : World) (n k : Nat) (h : k < n) : (trunc w n).heap[k]? = w.heap[k]? := by
  simp only [trunc, Array.getElem?_extract]
  by_cases hk : k < w.heap.size
  · rw [if_pos (by omega), Nat.zero_add]
  · rw [if_neg (by omega), Array.getElem?_eq_none (by omega)]
theorem trunc_below (w : World) (n : Nat) (h : n ≤ w.heap.size) : Below (trunc w n).heap.size (trunc w n) w :=
  ⟨rfl, rfl, rfl, by rw [trunc_size w n h]; exact h, fun k hk => by rw [trunc_size w n h] at hk; exact (trunc_at w n k hk).symm⟩

/-- What a step may change besides a disk's own: the World, and the books. -/
def Rest (F : Nat → Prop) (w : World) (k : Nat) : Prop := F k ∨ ¬ OkT w k

/-- The caller keeps a list that came out of a disk. -/
theorem keep_disk (base base2 WB N n B : Nat) (p : Option Addr) (l : List Nat) (d s : Value) (F : Nat → Prop) (q : Pl) (w0 w : World) (hN : N < 1000000) (hn : n ≤ 2000000) (hB0 : BooksD w0 base WB N d s) (h0 : w0.heap.size ≤ w.heap.size)
    (hk0 : ∀ (k : Nat) (cur : Array Value) (t : TypeId) (fz : Nat × Nat), (t = 5 ∨ t = 83 ∨ t = 53) → w0.heap[k]? = some (Obj.cells cur t fz) → w.heap[k]? = some (Obj.cells cur t fz)) (hF : FullB w p n l) (hl : ∀ x ∈ l, x < 256) (hne0 : ∀ a, p = some a → w0.heap.size ≤ a.block) (hpl : PlateAt w base2 F q) (hnp : ∀ a k, p = some a → F k → a.block ≠ k) :
    Calls Tryz.prog 84 #[.pointer (some ⟨WB, 2, none⟩), .slice p n n] w fun e w' => e = .returned (.tuple #[]) ∧ BooksD w' base WB (N + 1) d s ∧ Below base w w' ∧ PlateAt w' base2 F q ∧ KeptBut w w' WB p := by
  have hT : BooksD (trunc w w0.heap.size) base WB N d s := hB0.of (fun k cur t fz ht hk => (trunc_at w _ k (Array.getElem?_eq_some_iff.1 hk).1).trans (hk0 k cur t fz ht hk))
  refine (keep_full base WB N n p l d s (trunc w w0.heap.size) w hN hn hT (trunc_below w _ h0) hF hl (fun a ha => by rw [trunc_size w _ h0]; exact hne0 a ha)).mono ?_
  rintro e w' ⟨he, hB, hb, _, hkb⟩
  refine ⟨he, hB, hb, ?_, hkb⟩
  have hwb := (hB0.of hk0).wb
  refine hpl.chg (S := fun k => ¬ F k) (⟨hb.os, hb.tape, hb.output, hb.size, fun k hk hs => hkb k hk (fun e => ?_) (fun a ha e => ?_) (fun cur fz e => ?_)⟩ : Chg w w' (fun k => ¬ F k)) (fun k hk h => h hk)
  all_goals
    have hFk : F k := Classical.not_not.1 hs
    obtain ⟨_, _, _, _, dd, _⟩ := hpl
    obtain ⟨cur', t', fz', e1, e2, e3⟩ := (dd.ok k hFk).2
  · subst e
    obtain ⟨cs, hcs⟩ := hwb.2.2
    rw [hcs] at e1
    cases e1
    exact e3 rfl
  · exact hnp a k ha hFk e
  · rw [e] at e1
    cases e1
    exact e2 rfl
end Go.Proofs.YtloaefcgcniacaaGreatDoor

namespace Go.Proofs.YtloaefcgcniacaaGreatDoor
open Go.RowKit
set_option linter.unusedVariables false

/-- A step on one disk, of those that the World has. -/
def Told (w w' : World) (base base2 WB N : Nat) (F : Nat → Prop) (q : Pl) (c : RCall) (d s : Value) : Prop :=
  ∃ F' N', PlateAt w' base2 F' (q.act c) ∧ (∀ k, F' k → F k ∨ w.heap.size ≤ k) ∧ N' ≤ N + 1 ∧ BooksD w' base WB N' d s ∧ Chg w w' (Rest F w) ∧ Below base w w'

theorem empty_small : ByteArray.empty.size ≤ 2000000 := by decide
theorem frames_same {q : Pl} {c : RCall} {z : Int} (hk : c.k = 2 ∨ c.k = 3 ∨ c.k = 6) : framesOfC (q.act c).cs z = framesOfC q.cs z := by
  unfold Pl.act
  split
  · rfl
  · unfold Pl.step
    split
    · simp only [framesOfC_add, frStep]
      rcases hk with hk | hk | hk <;> simp [hk]
    · rfl
theorem anch_same {q : Pl} {c : RCall} (hk : c.k = 2 ∨ c.k = 3 ∨ c.k = 6) : anchC (q.act c).C (q.act c).B (q.act c).cs = anchC q.C q.B q.cs := by
  unfold Pl.act
  split
  · rfl
  · unfold Pl.step
    split
    · simp only [anchC_add, anStep]
      rcases hk with hk | hk | hk <;> simp [hk]
    · rfl

theorem chg_all {w W0 w1 w2 w3 : World} {base2 : Nat} {F F1 : Nat → Prop} {q : Pl} {c : RCall} {bd lg : Value} {zs : List (Value × Int)} (hb0 : Below w.heap.size w W0) (hP : Post W0 w1 base2 F F1 q c bd lg zs) (h2 : Chg w1 w2 (fun k => F1 k ∧ TyR w1 k)) (hb3 : Below w2.heap.size w2 w3) :
    Chg w w3 (Own F w) ∧ (∀ k, Ext F1 w1 w2 k → F k ∨ W0.heap.size ≤ k) := by
  have hd := did hP h2
  refine ⟨((Chg.of_below hb0 (Own F w)).trans hd.1 (fun k hk h' => ⟨h'.1, ?_⟩)).trans (Chg.of_below hb3 (fun _ => False)) (fun _ _ h' => h'.elim), hd.2⟩
  rcases h'.2 with ⟨cur, t, fz, e1, e2⟩ | ⟨cur, t, fz, e1, e2⟩
  · exact .inl ⟨cur, t, fz, (hb0.block k hk).symm.trans e1, e2⟩
  · exact .inr ⟨cur, t, fz, (hb0.block k hk).symm.trans e1, e2⟩

theorem told_plain {w W0 w1 w2 w3 : World} {base base2 WB N : Nat} {F F1 : Nat → Prop} {q : Pl} {c : RCall} {bd lg d s : Value} {zs : List (Value × Int)} (hb0 : Below w.heap.size w W0) (hP : Post W0 w1 base2 F F1 q c bd lg zs) (h2 : Chg w1 w2 (fun k => F1 k ∧ TyR w1 k)) (hpl : PlateAt w2 base2 (Ext F1 w1 w2) (q.act c)) (hb3 : Below w2.heap.size w2 w3)
    (hB : BooksD w base WB N d s) (hlow : ∀ k, F k → base2 ≤ k) (hbase : base ≤ base2) (hbase2 : base2 ≤ w.heap.size) : Told w w3 base base2 WB N F q c d s := by
  obtain ⟨h3, h4⟩ := chg_all hb0 hP h2 hb3
  have hz := hb0.size
  refine ⟨Ext F1 w1 w2, N, hpl.below hb3, fun k hk => ?_, by omega, hB.chg h3, h3.mono (fun k _ hk => .inl hk.1), h3.below (fun k hk => ?_) (by omega)⟩
  · rcases h4 k hk with h | h
    · exact .inl h
    · exact .inr (by omega)
  · have := hlow k hk.1
    omega

theorem told_keep {w W0 w1 w2 w3 w4 : World} {base base2 WB N : Nat} {F F1 : Nat → Prop} {q : Pl} {c : RCall} {bd lg d s : Value} {zs : List (Value × Int)} {p : Option Addr} (hb0 : Below w.heap.size w W0) (hP : Post W0 w1 base2 F F1 q c bd lg zs) (h2 : Chg w1 w2 (fun k => F1 k ∧ TyR w1 k)) (hb3 : Below w2.heap.size w2 w3)
    (hB : BooksD w base WB N d s) (hlow : ∀ k, F k → base2 ≤ k) (hbase : base ≤ base2) (hbase2 : base2 ≤ w.heap.size) (hB4 : BooksD w4 base WB (N + 1) d s) (hb4 : Below base w3 w4) (hpl4 : PlateAt w4 base2 (Ext F1 w1 w2) (q.act c)) (hk4 : KeptBut w3 w4 WB p) (hp : ∀ a, p = some a → w.heap.size ≤ a.block) : Told w w4 base base2 WB N F q c d s := by
  obtain ⟨h3, h4⟩ := chg_all hb0 hP h2 hb3
  have hz := hb0.size
  have hB3 := hB.chg h3
  refine ⟨Ext F1 w1 w2, N + 1, hpl4, fun k hk => ?_, by omega, hB4, ⟨hb4.os.trans h3.os, hb4.tape.trans h3.tape, hb4.output.trans h3.output, Nat.le_trans h3.size hb4.size, fun k hk hs => ?_⟩, (h3.below (fun k hk => ?_) (by omega)).trans hb4⟩
  · rcases h4 k hk with h | h
    · exact .inl h
    · exact .inr (by omega)
  · have hnF : ¬ F k := fun h => hs (.inl h)
    have hok : OkT w k := Classical.not_not.1 (fun h => hs (.inr h))
    have e3 := h3.block k hk (fun h => hnF h.1)
    have hz3 := h3.size
    obtain ⟨cur, t, fz, e1, e2, e4⟩ := hok
    rw [← e3] at e1
    refine (hk4 k (by omega) (fun e => ?_) (fun a ha e => ?_) (fun cur' fz' e => ?_)).trans e3
    · subst e
      obtain ⟨_, _, cs, hcs⟩ := hB3.wb
      rw [hcs] at e1
      cases e1
      exact e4 rfl
    · have := hp a ha
      omega
    · rw [e] at e1
      cases e1
      exact e2 rfl
  · have := hlow k hk.1
    omega

set_option maxRecDepth 20000 in
set_option maxHeartbeats 1000000 in
theorem tells_size (q : Pl) (n base base2 WB N : Nat) (F : Nat → Prop) (a z c d e0 : Int) (s : ByteArray) (dV sV : Value) (w : World) (h : PlateAt w base2 F q) (hB : BooksD w base WB N dV sV) (hq : Fine q n) (hn : n < 900000) (hbase : base ≤ base2) (hbase2 : base2 ≤ w.heap.size) :
    Calls Tryz.prog 93 #[.pointer (some ⟨WB, 0, none⟩), .agg #[.pointer (some ⟨q.x, 0, none⟩), .pointer (some ⟨q.h, 0, none⟩), .pointer (some ⟨q.r, 0, none⟩)], .agg #[.int .i64 7, .int .i64 a, .int .i64 z, .int .i64 c, .int .i64 d, .int .i64 e0, .string s]] w fun e w' => e = .returned (.bool true) ∧ Told w w' base base2 WB N F q ⟨3, z, 0, ByteArray.empty⟩ dV sV := by
  have HH := (show Hid _ from h)
  have HQ := (show Hid _ from hq)
  have HB := (show Hid _ from hB)
  clear h hq hB
  go_enter Tryz.func93, Tryz.ntmps93
  go_wp2_with fail
  obtain ⟨hb0, hp0, ho0, hz0⟩ := two_cells w (plC q) (opC 7 a z c d e0 s)
  simp only [plC, opC] at hb0 hz0
  have hp0' : Cel ((w.alloc (Obj.cells #[.pointer (some ⟨q.x, 0, none⟩), .pointer (some ⟨q.h, 0, none⟩), .pointer (some ⟨q.r, 0, none⟩)] 159)).alloc (Obj.cells #[.int .i64 7, .int .i64 a, .int .i64 z, .int .i64 c, .int .i64 d, .int .i64 e0, .string s] 56)) w.heap.size 159 (plC q) := hp0
  have ho0' : Cel ((w.alloc (Obj.cells #[.pointer (some ⟨q.x, 0, none⟩), .pointer (some ⟨q.h, 0, none⟩), .pointer (some ⟨q.r, 0, none⟩)] 159)).alloc (Obj.cells #[.int .i64 7, .int .i64 a, .int .i64 z, .int .i64 c, .int .i64 d, .int .i64 e0, .string s] 56)) (w.heap.size + 1) 56 (opC 7 a z c d e0 s) := ho0
  clear hp0 ho0
  generalize ((w.alloc (Obj.cells #[.pointer (some ⟨q.x, 0, none⟩), .pointer (some ⟨q.h, 0, none⟩), .pointer (some ⟨q.r, 0, none⟩)] 159)).alloc (Obj.cells #[.int .i64 7, .int .i64 a, .int .i64 z, .int .i64 c, .int .i64 d, .int .i64 e0, .string s] 56)) = W0 at *
  have HPA := (show Hid _ from hp0')
  have HOA := (show Hid _ from ho0')
  have hlow : Hid (∀ k, F k → base2 ≤ k ∧ k < w.heap.size) := fun k hk => by
    obtain ⟨_, _, _, _, d', _⟩ := HH.out
    exact ⟨(d'.ok k hk).1, (d'.ok k hk).2.lt⟩
  clear hp0' ho0'
  obtain ⟨dv, bd, lg, zs, d', r'⟩ := HH.out
  have HDA : Hid (DP W0 base2 F q.x q.h q.g q.gz q.dk bd lg zs) := d'.down hb0
  have HRA : Hid (RP W0 base2 F q.r q.Z q.S q.C q.B q.L q.cs q.ca q.wr dv) := r'.down hb0
  clear d' r' HH
  cases hdn : q.done ⟨3, z, 0, ByteArray.empty⟩
  · refine (act_size HDA.out (HQ.out.good hn) z ⟨3, z, 0, ByteArray.empty⟩ rfl).mono ?_
    rintro e w1 ⟨he, hP⟩
    rw [hdn] at he
    subst he
    simp only [Bool.false_eq_true, if_false]
    have hp1 : Cel w1 w.heap.size 159 (plC q) := (mid1 hP (fun k hk => (hlow.out k hk).2) (Nat.le_refl _) (by omega)).trans HPA.out
    have ho1 : Cel w1 (w.heap.size + 1) 56 (opC 7 a z c d e0 s) := (mid1 hP (fun k hk => (hlow.out k hk).2) (by omega) (by omega)).trans HOA.out
    obtain ⟨p0, p1, p2⟩ := hp1.pl
    obtain ⟨o0, o1, o2, o3, o4, o5, o6⟩ := ho1.op
    have HP := (show Hid _ from hP)
    have hz1 := hP.chg.size
    clear hP hp1 ho1
    go_wp2_with fail
    clear p0 p1 p2 o0 o1 o2 o3 o4 o5 o6
    refine (act_do ⟨3, z, 0, ByteArray.empty⟩ HP.out HRA.out HQ.out hn empty_small (by omega)).mono ?_
    rintro e w2 ⟨he, hc2, hpl⟩
    rw [hdn] at he
    subst he
    have hp2 : Cel w2 w.heap.size 159 (plC q) := (mid2 HP.out hc2 (fun k hk => (hlow.out k hk).2) (Nat.le_refl _) (by omega)).trans HPA.out
    have ho2 : Cel w2 (w.heap.size + 1) 56 (opC 7 a z c d e0 s) := (mid2 HP.out hc2 (fun k hk => (hlow.out k hk).2) (by omega) (by omega)).trans HOA.out
    obtain ⟨p0, p1, p2⟩ := hp2.pl
    obtain ⟨o0, o1, o2, o3, o4, o5, o6⟩ := ho2.op
    have HPL := (show Hid _ from hpl)
    have HC2 := (show Hid _ from hc2)
    have hz2 := hc2.size
    obtain ⟨dv2, bd2, lg2, zs2, d2, r2⟩ := hpl
    have hids := act_ids q ⟨3, z, 0, ByteArray.empty⟩
    have hfq := HQ.out.act ⟨3, z, 0, ByteArray.empty⟩ empty_small
    have href := r2.ref
    rw [hids.2.2.1] at href
    go_wp2_with fail
    clear p0 p1 p2 o0 o1 o2 o3 o4 o5 o6
    refine (rframes_any base2 q.r _ _ _ z _ _ dv2 _ _ _ _ href r2.don (by have := hfq.cs; omega)).mono ?_
    rintro e w3 ⟨fv, rfl, hrow, hb3⟩
    clear href d2 r2
    obtain ⟨pf, cf, hfv⟩ := hrow.form
    subst hfv
    rw [frames_same (.inr (.inl rfl))] at *
    have hdone := told_plain hb0 HP.out HC2.out HPL.out hb3 HB.out (fun k hk => (hlow.out k hk).1) hbase hbase2
    clear hrow hp2 ho2
    go_wp2
    go_ret
    exact ⟨rfl, hdone⟩
  · refine (act_size HDA.out (HQ.out.good hn) z ⟨3, z, 0, ByteArray.empty⟩ rfl).mono ?_
    rintro e w1 ⟨he, hP⟩
    rw [hdn] at he
    subst he
    simp only [if_true]
    have hp1 : Cel w1 w.heap.size 159 (plC q) := (mid1 hP (fun k hk => (hlow.out k hk).2) (Nat.le_refl _) (by omega)).trans HPA.out
    have ho1 : Cel w1 (w.heap.size + 1) 56 (opC 7 a z c d e0 s) := (mid1 hP (fun k hk => (hlow.out k hk).2) (by omega) (by omega)).trans HOA.out
    obtain ⟨p0, p1, p2⟩ := hp1.pl
    obtain ⟨o0, o1, o2, o3, o4, o5, o6⟩ := ho1.op
    have HP := (show Hid _ from hP)
    have hz1 := hP.chg.size
    clear hP hp1 ho1
    go_wp2_with fail
    clear p0 p1 p2 o0 o1 o2 o3 o4 o5 o6
    refine (act_do ⟨3, z, 0, ByteArray.empty⟩ HP.out HRA.out HQ.out hn empty_small (by omega)).mono ?_
    rintro e w2 ⟨he, hc2, hpl⟩
    rw [hdn] at he
    subst he
    have hp2 : Cel w2 w.heap.size 159 (plC q) := (mid2 HP.out hc2 (fun k hk => (hlow.out k hk).2) (Nat.le_refl _) (by omega)).trans HPA.out
    have ho2 : Cel w2 (w.heap.size + 1) 56 (opC 7 a z c d e0 s) := (mid2 HP.out hc2 (fun k hk => (hlow.out k hk).2) (by omega) (by omega)).trans HOA.out
    obtain ⟨p0, p1, p2⟩ := hp2.pl
    obtain ⟨o0, o1, o2, o3, o4, o5, o6⟩ := ho2.op
    have HPL := (show Hid _ from hpl)
    have HC2 := (show Hid _ from hc2)
    have hz2 := hc2.size
    obtain ⟨dv2, bd2, lg2, zs2, d2, r2⟩ := hpl
    have hids := act_ids q ⟨3, z, 0, ByteArray.empty⟩
    have hfq := HQ.out.act ⟨3, z, 0, ByteArray.empty⟩ empty_small
    have href := r2.ref
    rw [hids.2.2.1] at href
    go_wp2_with fail
    clear p0 p1 p2 o0 o1 o2 o3 o4 o5 o6
    refine (rframes_any base2 q.r _ _ _ z _ _ dv2 _ _ _ _ href r2.don (by have := hfq.cs; omega)).mono ?_
    rintro e w3 ⟨fv, rfl, hrow, hb3⟩
    clear href d2 r2
    obtain ⟨pf, cf, hfv⟩ := hrow.form
    subst hfv
    rw [frames_same (.inr (.inl rfl))] at *
    have hdone := told_plain hb0 HP.out HC2.out HPL.out hb3 HB.out (fun k hk => (hlow.out k hk).1) hbase hbase2
    clear hrow hp2 ho2
    go_wp2
    go_ret
    exact ⟨rfl, hdone⟩
end Go.Proofs.YtloaefcgcniacaaGreatDoor
