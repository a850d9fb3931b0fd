import Derived.Test.YtloaefcgcniacaaGreatDoorEA4
namespace Go.Proofs.YtloaefcgcniacaaGreatDoor
open Go.RowKit
set_option linter.unusedVariables false

theorem plCells_snoc (qs : List Pl) (q : Pl) : plCells (qs ++ [q]) = plCells qs ++ [.pointer (some ⟨q.x, 0, none⟩), .pointer (some ⟨q.h, 0, none⟩), .pointer (some ⟨q.r, 0, none⟩)] := by
  simp [plCells]

theorem made_fin {w X W9 : World} {base base2 WB N n : Nat} {qs : List Pl} {F : Nat → Nat → Prop} {dV sV : Value} (hbX : Below w.heap.size w X) (h : Wd w base base2 WB N n qs F dV sV) (q : Pl) (F1 : Nat → Prop) (hpl : PlateAt X base2 F1 q) (hfine : Fine q (n + 1)) (hF1 : ∀ k, F1 k → w.heap.size ≤ k) (hc : Chg X W9 (fun k => dV.ownBlock = some k)) (g9 c9 : Nat)
    (hrow : W9.ownsRow base2 159 3 (.slice (some ⟨g9, 0, none⟩) (qs.length + 1) c9) (qs.length + 1) (plCells qs ++ [.pointer (some ⟨q.x, 0, none⟩), .pointer (some ⟨q.h, 0, none⟩), .pointer (some ⟨q.r, 0, none⟩)])) (hg9 : dV.ownBlock = some g9 ∨ X.heap.size ≤ g9) :
    Stepped w (W9.setCell ⟨WB, 0, none⟩ (.slice (some ⟨g9, 0, none⟩) (qs.length + 1) c9)) base base2 WB N n := by
  have hX := h.down hbX
  have hz := hbX.size
  obtain ⟨lv, xs, b1, hwb, hown, hent⟩ := hX.bk
  have hwbC : Cel X WB 53 #[dV, sV, lv] := hwb
  have hrowX : ∀ k, dV.ownBlock = some k → base2 ≤ k ∧ k < w.heap.size ∧ ∃ cur, X.heap[k]? = some (Obj.cells cur 159 (0, 0)) := fun k hk => by
    have h1 := ownsRow_T205 h.row k hk
    refine ⟨h1.1, h1.2.2, ?_⟩
    rcases hX.row.2 with ⟨hv, _⟩ | ⟨g, cap, cur, hv, _, hg, _⟩
    · rw [hv] at hk; cases hk
    · rw [hv] at hk; cases hk; exact ⟨cur, hg⟩
  have hwbz : WB < w.heap.size := h.bk.wb.2.1
  have hwb9 : Cel W9 WB 53 #[dV, sV, lv] := Cel.chg hwbC hc (fun e => by
    obtain ⟨_, _, cur, hcur⟩ := hrowX WB e
    unfold Cel at hwbC
    rw [hcur] at hwbC
    cases hwbC)
  have hoS : Only W9 (W9.setCell ⟨WB, 0, none⟩ (.slice (some ⟨g9, 0, none⟩) (qs.length + 1) c9)) WB := (Only.refl _ _).set _ _
  have hcA : Chg X (W9.setCell ⟨WB, 0, none⟩ (.slice (some ⟨g9, 0, none⟩) (qs.length + 1) c9)) (fun k => dV.ownBlock = some k ∨ k = WB) := (hc.mono (fun _ _ h => .inl h)).trans (Chg.of_only hoS) (fun _ _ h => .inr h)
  have hty : ∀ {k : Nat} {t : TypeId} {cur : Array Value} {fz : Nat × Nat}, X.heap[k]? = some (Obj.cells cur t fz) → t ≠ 159 → t ≠ 53 → ¬ (dV.ownBlock = some k ∨ k = WB) := fun hk t1 t2 x => by
    rcases x with x | x
    · obtain ⟨_, _, cur', hcur⟩ := hrowX _ x
      rw [hcur] at hk
      cases hk
      exact t1 rfl
    · subst x
      rw [hwb] at hk
      cases hk
      exact t2 rfl
  have hg9W : g9 ≠ WB := fun e => by
    rcases hrow.2 with ⟨h3, _⟩ | ⟨gl, cap, cur2, h3, _, h4, _⟩
    · cases h3
    · cases h3
      rw [e] at h4
      unfold Cel at hwb9
      rw [h4] at hwb9
      cases hwb9
  have hFi : ∀ i k, i < qs.length → F i k → k < w.heap.size ∧ OkT X k ∧ base2 ≤ k := fun i k hi hk => by
    have h1 := (hX.pl i _ (List.getElem?_eq_getElem hi)).1.ok k hk
    have h2 := (h.pl i _ (List.getElem?_eq_getElem hi)).1.ok k hk
    exact ⟨h2.2.lt, h1.2, h1.1⟩
  have hwbk : ∀ {k : Nat}, OkT X k → k ≠ WB := fun ho e => by
    subst e
    obtain ⟨cur, t, fz, e1, _, e3⟩ := ho
    rw [hwb] at e1
    cases e1
    exact e3 rfl
  have hcz := hcA.size
  have hb1 := h.b1
  have hb2 := h.b2
  refine ⟨N, qs ++ [q], fun i => if i < qs.length then F i else F1, .slice (some ⟨g9, 0, none⟩) (qs.length + 1) c9, sV, by omega, ⟨⟨lv, xs, b1, ?_, ownsRow_chg hown hcA (fun k hk => ?_), fun j hj => ?_⟩, ?_, fun i qi hi => ?_, fun i j k hij hi hj hk hk2 => ?_, fun i k hi hk e => ?_, hb1, by omega, ?_⟩, (hbX.mono (by omega)).trans (hcA.below (fun k hk => ?_) (by omega)), fun k hk hok => ?_⟩
  · have := Cel.set hwb9 0 (.slice (some ⟨g9, 0, none⟩) (qs.length + 1) c9)
    simp at this
    exact this
  · rcases hown.2 with ⟨hv, _⟩ | ⟨g, cap, cur, hv, _, hg, _⟩
    · rw [hv] at hk; cases hk
    · rw [hv] at hk
      cases hk
      exact hty hg (by decide) (by decide)
  · obtain ⟨pa, pb, pc, pd, na, ca, nb, cb, nc, cc, nd, cd, x0, x1, x2, x3, x4, m0, m1, m2, m3⟩ := hent j hj
    have hk5 : ∀ (g : Nat) (cur : Array Value) (fz : Nat × Nat), X.heap[g]? = some (Obj.cells cur 5 fz) → (W9.setCell ⟨WB, 0, none⟩ (.slice (some ⟨g9, 0, none⟩) (qs.length + 1) c9)).heap[g]? = some (Obj.cells cur 5 fz) := fun g cur fz hg => (hcA.block g (Array.getElem?_eq_some_iff.1 hg).1 (hty hg (by decide) (by decide))).trans hg
    exact ⟨pa, pb, pc, pd, na, ca, nb, cb, nc, cc, nd, cd, x0, x1, x2, x3, x4, m0.keep hk5, m1.keep hk5, m2.keep hk5, m3.keep hk5⟩
  · rw [plCells_snoc, List.length_append]
    exact ownsRow_chg hrow (Chg.of_only hoS) (fun k hk e => by cases hk; exact hg9W e)
  · by_cases hlt : i < qs.length
    · rw [List.getElem?_append_left hlt] at hi
      simp only [hlt, if_true]
      refine ⟨(hX.pl i qi hi).1.chg hcA (fun k hk x => ?_), (h.pl i qi hi).2.mono (by omega)⟩
      rcases x with x | x
      · exact h.rw_ i k hlt hk x
      · exact hwbk (hFi i k hlt hk).2.1 x
    · rw [List.getElem?_append_right (by omega)] at hi
      have hi0 : i - qs.length = 0 := by
        have := (List.getElem?_eq_some_iff.1 hi).1
        simpa using this
      rw [hi0] at hi
      cases hi
      simp only [hlt, if_false]
      refine ⟨hpl.chg hcA (fun k hk x => ?_), hfine⟩
      have h3 := hF1 k hk
      rcases x with x | x
      · have := (hrowX k x).2.1; omega
      · omega
  · rw [List.length_append] at hi hj
    simp only [List.length_singleton] at hi hj
    by_cases h1 : i < qs.length
    · simp only [h1, if_true] at hk
      by_cases h2 : j < qs.length
      · simp only [h2, if_true] at hk2
        exact h.dis i j k hij h1 h2 hk hk2
      · simp only [h2, if_false] at hk2
        have := hF1 k hk2
        have := (hFi i k h1 hk).1
        omega
    · simp only [h1, if_false] at hk
      by_cases h2 : j < qs.length
      · simp only [h2, if_true] at hk2
        have := hF1 k hk
        have := (hFi j k h2 hk2).1
        omega
      · omega
  · cases e
    rw [List.length_append] at hi
    simp only [List.length_singleton] at hi
    by_cases h1 : i < qs.length
    · simp only [h1, if_true] at hk
      rcases hg9 with hg | hg
      · exact h.rw_ i g9 h1 hk hg
      · have := (hFi i g9 h1 hk).1
        omega
    · simp only [h1, if_false] at hk
      have h3 := hF1 g9 hk
      rcases hg9 with hg | hg
      · have := (hrowX g9 hg).2.1; omega
      · have := (hpl.ok g9 hk).2.lt
        omega
  · rw [List.length_append]
    have := h.cnt
    simp
    omega
  · rcases hk with hk | hk
    · have := (hrowX k hk).1; omega
    · rw [hk]; exact b1
  · have e1 := hbX.block k (by omega)
    have hokX : OkT X k := by
      obtain ⟨cur, t, fz, e, r⟩ := hok
      exact ⟨cur, t, fz, e1.trans e, r⟩
    refine (hcA.block k (by omega) (fun x => ?_)).trans e1
    rcases x with x | x
    · have := (hrowX k x).1; omega
    · exact hwbk hokX x

theorem infoP : (Tryz.prog.info? 159).map (fun i => (i.zero, i.size, i.bytes)) = some (some (.agg #[.pointer none, .pointer none, .pointer none]), 3, 24) := by kernel_rfl
theorem Wd.form {w : World} {base base2 WB N n : Nat} {qs : List Pl} {F : Nat → Nat → Prop} {d s : Value} (h : Wd w base base2 WB N n qs F d s) : ∃ p cap, d = .slice p qs.length cap := by
  rcases h.row.2 with ⟨hv, h0⟩ | ⟨g, cap, cur, hv, _⟩
  · exact ⟨none, 0, by rw [hv, h0]⟩
  · exact ⟨_, cap, hv⟩
end Go.Proofs.YtloaefcgcniacaaGreatDoor
