import Derived.Test.YtloaefcgcniacaaGreatDoorBc
import Derived.Deep.AppendLies
import Derived.Deep.RegionLaw
namespace Go.Proofs.YtloaefcgcniacaaGreatDoor
open Go.RowKit
set_option linter.unusedVariables false

theorem grownBy_refl (w : World) (r : Option Nat) : w.grownBy w r := ⟨rfl, rfl, rfl, Nat.le_refl _, fun _ _ _ => rfl⟩
theorem grownBy_setCell {w w' : World} {g : Nat} (h : w.grownBy w' (some g)) (i : Nat) (v : Value) : w.grownBy (w'.setCell ⟨g, i, none⟩ v) (some g) :=
  ⟨h.os, h.tape, h.output, by simpa using h.size, fun k hk hn => (Below.heap_setCell _ _ _ _ (fun e => hn (by rw [e]))).trans (h.block k hk hn)⟩

theorem FullB.lt {w : World} {p : Option Addr} {n : Nat} {l : List Nat} (h : FullB w p n l) : ∀ a, p = some a → a.block < w.heap.size := by
  intro a ha
  rcases h with ⟨h, _⟩ | ⟨g, h, _, h3⟩
  · rw [h] at ha; cases ha
  · rw [h] at ha; cases ha; exact h3.lt
theorem FullB.far {w w' : World} {p : Option Addr} {n H : Nat} {l : List Nat} (h : FullB w p n l) (hb : Below H w w') (hp : ∀ a, p = some a → a.block < H) : FullB w' p n l := by
  rcases h with h | ⟨g, h1, h2, h3⟩
  · exact .inl h
  · exact .inr ⟨g, h1, h2, h3.below hb (hp _ h1)⟩

/-- The variable x of keep. -/
def XC (w : World) (H N : Nat) (v0 v1 v2 v3 : Value) : Prop :=
  (w.cell? ⟨H, 0, none⟩ = some v0 ∧ w.cell? ⟨H, 1, none⟩ = some v1 ∧ w.cell? ⟨H, 2, none⟩ = some v2 ∧ w.cell? ⟨H, 3, none⟩ = some v3 ∧ w.cell? ⟨H, 4, none⟩ = some (.int .i64 (N : Int))) ∧ ∀ i, w.frozen? ⟨H, i, none⟩ = false
theorem XC.below {w w' : World} {H N B : Nat} {v0 v1 v2 v3 : Value} (h : XC w H N v0 v1 v2 v3) (hb : Below B w w') (hH : H < B) : XC w' H N v0 v1 v2 v3 :=
  ⟨⟨(hb.cell (p := ⟨H, 0, none⟩) hH).trans h.1.1, (hb.cell (p := ⟨H, 1, none⟩) hH).trans h.1.2.1, (hb.cell (p := ⟨H, 2, none⟩) hH).trans h.1.2.2.1, (hb.cell (p := ⟨H, 3, none⟩) hH).trans h.1.2.2.2.1, (hb.cell (p := ⟨H, 4, none⟩) hH).trans h.1.2.2.2.2⟩,
    fun i => (hb.frozen (p := ⟨H, i, none⟩) hH).trans (h.2 i)⟩

theorem frozen_setCell (w : World) (a b : Addr) (v : Value) (h : w.frozen? b = false) : (w.setCell a v).frozen? b = false := by
  simpa using h
theorem XC.set1 {w : World} {H N : Nat} {v0 v1 v2 v3 : Value} (h : XC w H N v0 v1 v2 v3) (v : Value) : XC (w.setCell ⟨H, 1, none⟩ v) H N v0 v v2 v3 :=
  ⟨⟨(World.cell?_setCell_other _ _ _ _ (by simp)).trans h.1.1, World.cell?_setCell_same _ _ _ h.1.2.1, (World.cell?_setCell_other _ _ _ _ (by simp)).trans h.1.2.2.1, (World.cell?_setCell_other _ _ _ _ (by simp)).trans h.1.2.2.2.1, (World.cell?_setCell_other _ _ _ _ (by simp)).trans h.1.2.2.2.2⟩, fun i => frozen_setCell _ _ _ _ (h.2 i)⟩
theorem XC.set2 {w : World} {H N : Nat} {v0 v1 v2 v3 : Value} (h : XC w H N v0 v1 v2 v3) (v : Value) : XC (w.setCell ⟨H, 2, none⟩ v) H N v0 v1 v v3 :=
  ⟨⟨(World.cell?_setCell_other _ _ _ _ (by simp)).trans h.1.1, (World.cell?_setCell_other _ _ _ _ (by simp)).trans h.1.2.1, World.cell?_setCell_same _ _ _ h.1.2.2.1, (World.cell?_setCell_other _ _ _ _ (by simp)).trans h.1.2.2.2.1, (World.cell?_setCell_other _ _ _ _ (by simp)).trans h.1.2.2.2.2⟩, fun i => frozen_setCell _ _ _ _ (h.2 i)⟩
theorem XC.set3 {w : World} {H N : Nat} {v0 v1 v2 v3 : Value} (h : XC w H N v0 v1 v2 v3) (v : Value) : XC (w.setCell ⟨H, 3, none⟩ v) H N v0 v1 v2 v :=
  ⟨⟨(World.cell?_setCell_other _ _ _ _ (by simp)).trans h.1.1, (World.cell?_setCell_other _ _ _ _ (by simp)).trans h.1.2.1, (World.cell?_setCell_other _ _ _ _ (by simp)).trans h.1.2.2.1, World.cell?_setCell_same _ _ _ h.1.2.2.2.1, (World.cell?_setCell_other _ _ _ _ (by simp)).trans h.1.2.2.2.2⟩, fun i => frozen_setCell _ _ _ _ (h.2 i)⟩

theorem OwnB.other {w : World} {g cap : Nat} {l : List Nat} (h : OwnB w g cap l) (a : Addr) (v : Value) (hne : g ≠ a.block) : OwnB (w.setCell a v) g cap l := by
  obtain ⟨cur, h1, h2⟩ := h
  exact ⟨cur, (Below.heap_setCell _ _ _ _ hne).trans h1, h2⟩

theorem info68 : (Tryz.prog.info? 83).map (fun i => (i.zero, i.size, i.bytes)) = some (some (.agg #[.slice none 0 0, .slice none 0 0, .slice none 0 0, .slice none 0 0, .int .i64 0]), 5, 104) := by kernel_rfl

theorem own_mk {w : World} {g cap j n : Nat} (h : OwnB w g cap (marksL j n)) (hn : n ≤ 3000000) (c : Nat) : Mk w (some ⟨g, 0, none⟩) n c j := by
  obtain ⟨cur, h1, h2, h3, h4, h5⟩ := h
  refine .inr ⟨g, cur, (0, 0), rfl, hn, h1, fun i hi => ?_⟩
  rw [marksL_length] at h5
  have e := congrArg (fun x => x[i]?) h5
  simp only [List.getElem?_take, hi, if_true, List.getElem?_map] at e
  have hm : (marksL j n)[i]? = some (markN j i) := by
    unfold marksL
    rw [List.getElem?_map, List.getElem?_range hi]
    rfl
  rw [hm] at e
  simpa using e

/-- All blocks but those of bytes, of the books' rows and of Worlds are as they were. -/
def Keeps (w w' : World) : Prop := ∀ (k : Nat) (cur : Array Value) (t : TypeId) (fz : Nat × Nat), t ≠ 5 → t ≠ 83 → t ≠ 53 → w.heap[k]? = some (Obj.cells cur t fz) → w'.heap[k]? = some (Obj.cells cur t fz)
theorem Keeps.of_below {w w' : World} (h : Below w.heap.size w w') : Keeps w w' := fun k cur t fz _ _ _ h1 => (h.block k (Array.getElem?_eq_some_iff.1 h1).1).trans h1
theorem Keeps.trans {a b c : World} (h : Keeps a b) (k : Keeps b c) : Keeps a c := fun i cur t fz t1 t2 t3 h1 => k i cur t fz t1 t2 t3 (h i cur t fz t1 t2 t3 h1)

/-- All blocks are as they were, but the World's, those of the books' rows, and the list's own. -/
def KeptBut (w w' : World) (WB : Nat) (p : Option Addr) : Prop := ∀ k, k < w.heap.size → k ≠ WB → (∀ a, p = some a → a.block ≠ k) → (∀ cur fz, w.heap[k]? ≠ some (Obj.cells cur 83 fz)) → w'.heap[k]? = w.heap[k]?

theorem keep_end (base WB N n : Nat) (p : Option Addr) (xs : List Value) (d s : Value) (w0 w wr W3 w9 : World) (o : Obj) (pl : Option Addr) (cl g9 c9 c1 c2 c3 : Nat) (hn : n ≤ 2000000) (hbase : base ≤ WB) (hWB0 : WB < w0.heap.size)
    (hb0 : Below w0.heap.size w0 w) (hne0 : ∀ a, p = some a → w0.heap.size ≤ a.block) (hgr : w.grownBy wr (Value.ownBlock (.slice p n n))) (hsz : wr.heap.size = w.heap.size) (hwr3 : Below w.heap.size wr W3) (hs3 : W3.heap.size = w.heap.size + 7)
    (hwb3 : W3.heap[WB]? = some (Obj.cells #[d, s, .slice pl N cl] 53 (0, 0))) (hown3 : W3.ownsRow base 83 5 (.slice pl N cl) N xs) (hgrow : (W3.alloc o).drew.grownBy w9 (Value.slice pl N cl).ownBlock)
    (hown9 : w9.ownsRow base 83 5 (.slice (some ⟨g9, 0, none⟩) (N + 1) c9) (N + 1) (xs ++ [.slice p n n, .slice (some ⟨w.heap.size + 1 + 1, 0, none⟩) (n + 1) c1, .slice (some ⟨w.heap.size + 3 + 1, 0, none⟩) (n + 2) c2, .slice (some ⟨w.heap.size + 5 + 1, 0, none⟩) (n + 3) c3, .int .i64 (N : Int)]))
    (hent : ∀ j, j < N → Ent w0 xs j) (l : List Nat) (hFw : FullB w p n l) (hF : FullB wr p n (marksL N n)) (hO1 : OwnB W3 (w.heap.size + 1 + 1) c1 (marksL N (n + 1))) (hO2 : OwnB W3 (w.heap.size + 3 + 1) c2 (marksL N (n + 2))) (hO3 : OwnB W3 (w.heap.size + 5 + 1) c3 (marksL N (n + 3))) :
    BooksD (w9.setCell ⟨WB, 2, none⟩ (.slice (some ⟨g9, 0, none⟩) (N + 1) c9)) base WB (N + 1) d s ∧ Below base w (w9.setCell ⟨WB, 2, none⟩ (.slice (some ⟨g9, 0, none⟩) (N + 1) c9)) ∧ Keeps w (w9.setCell ⟨WB, 2, none⟩ (.slice (some ⟨g9, 0, none⟩) (N + 1) c9)) ∧
      KeptBut w (w9.setCell ⟨WB, 2, none⟩ (.slice (some ⟨g9, 0, none⟩) (N + 1) c9)) WB p := by
  have hz0 := hb0.size
  have hWB : WB < w.heap.size := by omega
  have hbA : Below W3.heap.size W3 (W3.alloc o).drew := ((Below.refl W3.heap.size W3).alloc (Nat.le_refl _) o).drew
  have hzA : (W3.alloc o).drew.heap.size = W3.heap.size + 1 := by simp
  have hgl : ∀ k cur fz t, W3.heap[k]? = some (Obj.cells cur t fz) → t ≠ 83 → some k ≠ (Value.slice pl N cl).ownBlock := by
    intro k cur fz t h1 h2 e
    rcases hown3.2 with ⟨h3, _⟩ | ⟨gl, cap, cur2, h3, _, h4, _⟩
    · cases h3
      simp [Value.ownBlock] at e
    · cases h3
      have e2 : k = gl := by simpa [Value.ownBlock] using e
      subst e2
      rw [h1] at h4
      cases h4
      exact h2 rfl
  have same3 : ∀ (k : Nat) (cur : Array Value) (fz : Nat × Nat), W3.heap[k]? = some (Obj.cells cur 5 fz) → (w9.setCell ⟨WB, 2, none⟩ (.slice (some ⟨g9, 0, none⟩) (N + 1) c9)).heap[k]? = some (Obj.cells cur 5 fz) := by
    intro k cur fz h1
    have hk : k < W3.heap.size := (Array.getElem?_eq_some_iff.1 h1).1
    have hkw : k ≠ WB := by
      intro e
      subst e
      rw [hwb3] at h1
      cases h1
    rw [Below.heap_setCell _ _ _ _ hkw, hgrow.block k (by omega) (hgl k cur fz 5 h1 (by decide)), hbA.block k hk, h1]
  have same0 : ∀ (k : Nat) (cur : Array Value) (fz : Nat × Nat), w0.heap[k]? = some (Obj.cells cur 5 fz) → (w9.setCell ⟨WB, 2, none⟩ (.slice (some ⟨g9, 0, none⟩) (N + 1) c9)).heap[k]? = some (Obj.cells cur 5 fz) := by
    intro k cur fz h1
    have hk : k < w0.heap.size := (Array.getElem?_eq_some_iff.1 h1).1
    apply same3
    rw [hwr3.block k (by omega), hgr.block k (by omega) ?_, hb0.block k hk, h1]
    intro e
    cases p with
    | none => simp [Value.ownBlock] at e
    | some a =>
      have e2 : k = a.block := by simpa [Value.ownBlock] using e
      have := hne0 a rfl
      omega
  have hwb9 : (w9.setCell ⟨WB, 2, none⟩ (.slice (some ⟨g9, 0, none⟩) (N + 1) c9)).heap[WB]? = some (Obj.cells #[d, s, .slice (some ⟨g9, 0, none⟩) (N + 1) c9] 53 (0, 0)) := by
    have h1 : w9.heap[WB]? = some (Obj.cells #[d, s, .slice pl N cl] 53 (0, 0)) := by
      rw [hgrow.block WB (by omega) (hgl WB _ _ 53 hwb3 (by decide)), hbA.block WB (by omega), hwb3]
    have hlt : WB < w9.heap.size := (Array.getElem?_eq_some_iff.1 h1).1
    have hv := (Array.getElem?_eq_some_iff.1 h1).2
    unfold World.setCell
    rw [Array.getElem?_eq_getElem (by simpa using hlt), Array.getElem_modify]
    simp [hv]
  have hg9 : g9 ≠ WB := by
    intro e
    rcases hown9.2 with ⟨h3, _⟩ | ⟨gl, cap, cur2, h3, _, h4, _⟩
    · cases h3
    · cases h3
      rw [e] at h4
      have h1 : w9.heap[WB]? = some (Obj.cells #[d, s, .slice pl N cl] 53 (0, 0)) := by
        rw [hgrow.block WB (by omega) (hgl WB _ _ 53 hwb3 (by decide)), hbA.block WB (by omega), hwb3]
      rw [h1] at h4
      cases h4
  have hxl : xs.length = N * 5 := hown3.1
  refine ⟨⟨_, xs ++ [.slice p n n, .slice (some ⟨w.heap.size + 1 + 1, 0, none⟩) (n + 1) c1, .slice (some ⟨w.heap.size + 3 + 1, 0, none⟩) (n + 2) c2, .slice (some ⟨w.heap.size + 5 + 1, 0, none⟩) (n + 3) c3, .int .i64 (N : Int)], hbase, hwb9, ?_, ?_⟩, ?_, ?_, ?_⟩
  · obtain ⟨h1, h2⟩ := hown9
    refine ⟨h1, ?_⟩
    rcases h2 with h2 | ⟨g, cap, cur, hv, hg, hh, r⟩
    · exact .inl h2
    · refine .inr ⟨g, cap, cur, hv, hg, ?_, r⟩
      have e : g = g9 := by cases hv; rfl
      rw [Below.heap_setCell _ _ _ _ (by rw [e]; exact hg9)]
      exact hh
  · intro j hj
    by_cases hjN : j < N
    · obtain ⟨pa, pb, pc, pd, na, ca, nb, cb, nc, cc, nd, cd, x0, x1, x2, x3, x4, m0, m1, m2, m3⟩ := hent j hjN
      exact ⟨pa, pb, pc, pd, na, ca, nb, cb, nc, cc, nd, cd, by rw [List.getElem?_append_left (by omega)]; exact x0, by rw [List.getElem?_append_left (by omega)]; exact x1, by rw [List.getElem?_append_left (by omega)]; exact x2, by rw [List.getElem?_append_left (by omega)]; exact x3, by rw [List.getElem?_append_left (by omega)]; exact x4,
        m0.keep same0, m1.keep same0, m2.keep same0, m3.keep same0⟩
    · have e : j = N := by omega
      subst e
      refine ⟨p, _, _, _, n, n, n + 1, c1, n + 2, c2, n + 3, c3, by rw [List.getElem?_append_right (by omega), hxl]; simp, by rw [List.getElem?_append_right (by omega), hxl]; simp, by rw [List.getElem?_append_right (by omega), hxl]; simp, by rw [List.getElem?_append_right (by omega), hxl]; simp, by rw [List.getElem?_append_right (by omega), hxl]; simp, ?_, (own_mk hO1 (by omega) c1).keep same3, (own_mk hO2 (by omega) c2).keep same3, (own_mk hO3 (by omega) c3).keep same3⟩
      rcases hF with ⟨rfl, rfl, _⟩ | ⟨g, rfl, hnl, hB⟩
      · exact .inl ⟨rfl, rfl, rfl⟩
      · have hgz := hB.lt
        have hB3 : Blk W3 g (marksL j n) := hB.below hwr3 (by omega)
        have hO := hB3.own (by rw [marksL_length]; unfold maxLen; omega)
        exact (own_mk hO (by omega) n).keep same3
  · refine Below.setCell ?_ (by exact hbase) _
    have h1 : Below base w wr := (Below.refl _ _).grown hgr (by omega) (fun k e => by
      cases p with
      | none => simp [Value.ownBlock] at e
      | some a =>
        have e2 : a.block = k := by simpa [Value.ownBlock] using e
        have := hne0 a rfl
        omega)
    have h2 : Below base W3 w9 := (hbA.mono (by omega)).grown hgrow (by omega) (fun k e => by
      have := hown3.lt k e
      exact this.1)
    exact h1.trans ((hwr3.mono (by omega)).trans h2)
  · intro k cur t fz t5 t68 t47 h1
    have hk : k < w.heap.size := (Array.getElem?_eq_some_iff.1 h1).1
    have h3 : W3.heap[k]? = some (Obj.cells cur t fz) := by
      rw [hwr3.block k (by omega), hgr.block k (by omega) ?_, h1]
      intro e
      rcases hFw with ⟨rfl, _⟩ | ⟨g, rfl, _, hB⟩
      · simp [Value.ownBlock] at e
      · have e2 : k = g := by simpa [Value.ownBlock] using e
        subst e2
        unfold Blk at hB
        rw [h1] at hB
        cases hB
        exact t5 rfl
    have hkw : k ≠ WB := by
      intro e
      subst e
      rw [hwb3] at h3
      cases h3
      exact t47 rfl
    rw [Below.heap_setCell _ _ _ _ hkw, hgrow.block k (by omega) (hgl k cur fz t h3 t68), hbA.block k (by omega), h3]
  · intro k hk hkw hkp hk68
    have h3 : W3.heap[k]? = w.heap[k]? := by
      rw [hwr3.block k (by omega), hgr.block k (by omega) ?_]
      intro e
      cases p with
      | none => simp [Value.ownBlock] at e
      | some a =>
        have e2 : k = a.block := by simpa [Value.ownBlock] using e
        exact hkp a rfl e2.symm
    have hrow : some k ≠ (Value.slice pl N cl).ownBlock := by
      intro e
      rcases hown3.2 with ⟨h5, _⟩ | ⟨gl, cap, cur2, h5, _, h4, _⟩
      · cases h5
        simp [Value.ownBlock] at e
      · cases h5
        have e2 : k = gl := by simpa [Value.ownBlock] using e
        subst e2
        rw [h3] at h4
        exact hk68 _ _ h4
    rw [Below.heap_setCell _ _ _ _ hkw, hgrow.block k (by omega) hrow, hbA.block k (by omega), h3]

set_option maxHeartbeats 2000000 in
theorem keep_full (base WB N n : Nat) (p : Option Addr) (l : List Nat) (d s : Value) (w0 w : World) (hN : N < 1000000) (hn : n ≤ 2000000) (hB0 : BooksD w0 base WB N d s) (hb0 : Below w0.heap.size w0 w) (hF : FullB w p n l) (hl : ∀ x ∈ l, x < 256) (hne0 : ∀ a, p = some a → w0.heap.size ≤ a.block) :
    Calls Tryz.prog 84 #[.pointer (some ⟨WB, 2, none⟩), .slice p n n] w fun e w' => e = .returned (.tuple #[]) ∧ BooksD w' base WB (N + 1) d s ∧ Below base w w' ∧ Keeps w w' ∧ KeptBut w w' WB p := by
  have hWB0 := hB0.books.wb
  have hz00 := hb0.size
  obtain ⟨lv, xs, hbase, hwb0, hown0, hent0⟩ := hB0
  have hwb : w.heap[WB]? = some (Obj.cells #[d, s, lv] 53 (0, 0)) := (hb0.block WB hWB0.2).trans hwb0
  have hown : w.ownsRow base 83 5 lv N xs := by
    refine hown0.kept (row := none) ⟨hb0.os, hb0.tape, hb0.output, hb0.size, fun k hk _ => hb0.block k hk⟩ ?_
    cases h : lv.ownBlock with
    | none => exact .inl rfl
    | some a => exact .inr (by simp)
  clear hwb0 hown0
  have hcl : w.cell? ⟨WB, 2, none⟩ = some lv := by simp [World.cell?, hwb]
  have hclf : w.frozen? ⟨WB, 2, none⟩ = false := by simp [World.frozen?, hwb]
  have hWB : WB < w.heap.size := World.block_lt_of_cell? w _ hcl
  have hne : ∀ a, p = some a → a.block ≠ WB := fun a ha => by have := hne0 a ha; omega
  have hent : True := trivial
  obtain ⟨pl, cl, hlv⟩ : ∃ pl cl, lv = .slice pl N cl := by
    rcases hown.2 with ⟨rfl, rfl⟩ | ⟨gl, cap, cur, rfl, _⟩
    · exact ⟨none, 0, rfl⟩
    · exact ⟨_, _, rfl⟩
  subst hlv
  have hrow : (Value.slice pl N cl).ownBlock = none ∨ (Value.slice pl N cl).ownBlock ≠ (Value.slice p n n).ownBlock := by
    rcases hown.2 with ⟨h1, _⟩ | ⟨gl, cap, cur, h1, _, h2, _⟩
    · cases h1
      exact .inl rfl
    · cases h1
      right
      rcases hF with ⟨rfl, _⟩ | ⟨g, rfl, _, h3⟩
      · simp [Value.ownBlock]
      · intro e
        have e2 : gl = g := by simpa [Value.ownBlock] using e
        subst e2
        unfold Blk at h3
        rw [h2] at h3
        cases h3
  have hLL : l.length = n := hF.len
  have HLL := (show Hid _ from hLL)
  clear hLL
  have hNi : (N : Int) ≤ 1000000 := by omega
  go_enter Tryz.func84, Tryz.ntmps84
  go_wp2
  go_loopw [6] (fun i wr => ∃ k : Nat, k ≤ n ∧ i = .int .i64 k ∧ FullB wr p n (Lbx.part (marksL N n) l k) ∧ w.grownBy wr (Value.ownBlock (.slice p n n)) ∧ wr.heap.size = w.heap.size) (fun i _ => n - (intOf i).toNat)
  case atStart =>
    refine ⟨0, Nat.zero_le _, rfl, ?_, grownBy_refl _ _, rfl⟩
    rw [Lbx.part_zero]
    exact hF
  case round =>
    obtain ⟨k, hk, rfl, hFk, hgr, hsz⟩ := hrel
    have hvl : (marksL N n).length = l.length := by rw [marksL_length, HLL.out]
    by_cases hlt : k < n
    · rcases hFk with ⟨_, h0, _⟩ | ⟨g, rfl, hnl, hBk⟩
      · omega
      · have hcell := hBk.cell k (by rw [← hnl]; exact hlt)
        have hfr := hBk.frozen k
        have hlti : (k : Int) < (n : Int) := by omega
        have HVL := (show Hid _ from hvl)
        have HNL := (show Hid _ from hnl)
        clear hvl hnl hF hown hent hcl hclf hne hent0 hwb
        go_wp2_with (go_at_call 106; refine (mark_any _ _ _ (by omega) (by omega) (by omega) (by omega)).mono ?_; rintro e w' ⟨rfl, hw'⟩; have hw2 := hw'.symm; clear hw'; subst hw2)
        go_roundw
        case rel =>
          refine ⟨k + 1, by omega, by go_num, ?_, grownBy_setCell hgr _ _, by simpa using hsz⟩
          refine .inr ⟨g, rfl, by rw [Lbx.part_length _ _ _ HVL.out, HLL.out], ?_⟩
          have hm := marksL_get N n k hlt
          rw [← Lbx.part_succ _ _ _ HVL.out (by rw [HLL.out]; exact hlt), hm]
          simpa using hBk.set k (markN N k)
        case measure => simp [intOf]; omega
    · have ek : Lbx.part (marksL N n) l k = marksL N n := by
        have e1 : k = l.length := by rw [HLL.out]; omega
        rw [e1, Lbx.part_all _ _ hvl]
      rw [ek] at hFk
      clear ek hvl
      have hpl : ∀ a, p = some a → a.block < w.heap.size := fun a ha => by rw [← hsz]; exact hFk.lt a ha
      have hX0 : XC (wr.alloc (Obj.cells #[.slice p n n, .slice none 0 0, .slice none 0 0, .slice none 0 0, .int .i64 (N : Int)] 83)) w.heap.size N (.slice p n n) (.slice none 0 0) (.slice none 0 0) (.slice none 0 0) := by
        rw [← hsz]
        exact ⟨⟨by simp, by simp, by simp, by simp, by simp⟩, fun i => by simp⟩
      have hA : Below w.heap.size wr (wr.alloc (Obj.cells #[.slice p n n, .slice none 0 0, .slice none 0 0, .slice none 0 0, .int .i64 (N : Int)] 83)) := (Below.refl _ _).alloc (by omega) _
      have hzA : (wr.alloc (Obj.cells #[.slice p n n, .slice none 0 0, .slice none 0 0, .slice none 0 0, .int .i64 (N : Int)] 83)).heap.size = w.heap.size + 1 := by simp [hsz]
      go_wp2_with fail
      generalize (wr.alloc (Obj.cells #[.slice p n n, .slice none 0 0, .slice none 0 0, .slice none 0 0, .int .i64 (N : Int)] 83)) = WA at *
      have hFA := hFk.far hA hpl
      refine (mark_any _ _ _ (by omega) (by omega) (by omega) (by omega)).mono ?_
      rintro e w' ⟨rfl, hw'⟩
      have hw2 := hw'.symm
      clear hw'
      subst hw2
      simp only [Int.toNat_natCast]
      have hb1 : Below (w.heap.size + 1) WA (WA.alloc (Obj.cells #[.int .u8 ((markN N n : Nat) : Int)] 5)) := (Below.refl _ _).alloc (by omega) _
      have hFA1 := hFA.far (hb1.mono (by omega)) hpl
      go_wp2_with (at_builtin; go_loud (refine wpList_append_fresh rfl (.tmp 29) (.tmp 33) rfl p n (marksL N n) hFA1 ⟨w.heap.size + 1, 0, none⟩ 1 1 [markN N n] rfl (by omega) rfl rfl ?hnews1 (by omega) (w.heap.size + 1 + 1) (by simp [hzA]) ?_))
      case hnews1 =>
        intro j hj
        match j, hj with
        | 0, _ => simp [Addr.add_lit, World.cell?_alloc_at, hzA]
      intro c1 w1 hO1 hbb1 hs1
      rw [← marksL_succ] at hO1
      have hX1 := hX0.below (hb1.trans (hbb1.mono (by omega))) (by omega)
      have hwr1 : Below w.heap.size wr w1 := hA.trans ((hb1.mono (by omega)).trans (hbb1.mono (by omega)))
      have hX1s := hX1.set1 (.slice (some ⟨w.heap.size + 1 + 1, 0, none⟩) (n + 1) c1)
      obtain ⟨⟨x0, x1, x2, x3, x4⟩, xf⟩ := hX1
      have hO1s := hO1.other ⟨w.heap.size, 1, none⟩ (.slice (some ⟨w.heap.size + 1 + 1, 0, none⟩) (n + 1) c1) (by show w.heap.size + 1 + 1 ≠ w.heap.size; omega)
      have hwr1s : Below w.heap.size wr (w1.setCell ⟨w.heap.size, 1, none⟩ (.slice (some ⟨w.heap.size + 1 + 1, 0, none⟩) (n + 1) c1)) := hwr1.setCell (Nat.le_refl _) _
      have hs1s : (w1.setCell ⟨w.heap.size, 1, none⟩ (.slice (some ⟨w.heap.size + 1 + 1, 0, none⟩) (n + 1) c1)).heap.size = w.heap.size + 3 := by simp [hs1]
      clear hX0 hA hFA hFA1 hb1 hbb1 hO1 hwr1
      go_wp2_with fail
      clear x0 x1 x2 x3 x4 xf hs1
      generalize (w1.setCell ⟨w.heap.size, 1, none⟩ (.slice (some ⟨w.heap.size + 1 + 1, 0, none⟩) (n + 1) c1)) = W1 at *
      refine (mark_any _ _ _ (by omega) (by omega) (by omega) (by omega)).mono ?_
      rintro e w' ⟨rfl, hw'⟩
      have hw2 := hw'.symm
      clear hw'
      subst hw2
      simp only [Int.toNat_natCast]
      go_wp2_with fail
      refine (mark_any _ _ _ (by omega) (by omega) (by omega) (by omega)).mono ?_
      rintro e w' ⟨rfl, hw'⟩
      have hw2 := hw'.symm
      clear hw'
      subst hw2
      have en1 : ((n : Int) + 1).toNat = n + 1 := by omega
      simp only [Int.toNat_natCast, en1]
      clear en1
      have hb2 : Below (w.heap.size + 3) W1 (W1.alloc (Obj.cells #[.int .u8 ((markN N n : Nat) : Int), .int .u8 ((markN N (n + 1) : Nat) : Int)] 5)) := (Below.refl _ _).alloc (by omega) _
      have hFA2 := (hFk.far hwr1s hpl).far (hb2.mono (by omega)) hpl
      go_wp2_with (at_builtin; go_loud (refine wpList_append_fresh rfl (.tmp 36) (.tmp 44) rfl p n (marksL N n) hFA2 ⟨w.heap.size + 3, 0, none⟩ 2 2 [markN N n, markN N (n + 1)] rfl (by omega) rfl rfl ?hnews2 (by omega) (w.heap.size + 3 + 1) (by simp [hs1s]) ?_))
      case hnews2 =>
        intro j hj
        match j, hj with
        | 0, _ => simp [Addr.add_lit, World.cell?_alloc_at, hs1s]
        | 1, _ => simp [Addr.add_lit, World.cell?_alloc_at, hs1s]
      intro c2 w2 hO2 hbb2 hs2
      have hO2m : OwnB w2 (w.heap.size + 3 + 1) c2 (marksL N (n + 2)) := by
        have e : marksL N (n + 2) = marksL N n ++ [markN N n, markN N (n + 1)] := by rw [marksL_succ, marksL_succ]; simp
        rw [e]; exact hO2
      have hX2 := hX1s.below (hb2.trans (hbb2.mono (by omega))) (by omega)
      have hO12 := hO1s.below (hb2.trans (hbb2.mono (by omega))) (by omega)
      have hwr2 : Below w.heap.size wr w2 := hwr1s.trans ((hb2.mono (by omega)).trans (hbb2.mono (by omega)))
      have hX2s := hX2.set2 (.slice (some ⟨w.heap.size + 3 + 1, 0, none⟩) (n + 2) c2)
      obtain ⟨⟨x0, x1, x2, x3, x4⟩, xf⟩ := hX2
      have hO2s := hO2m.other ⟨w.heap.size, 2, none⟩ (.slice (some ⟨w.heap.size + 3 + 1, 0, none⟩) (n + 2) c2) (by show w.heap.size + 3 + 1 ≠ w.heap.size; omega)
      have hO12s := hO12.other ⟨w.heap.size, 2, none⟩ (.slice (some ⟨w.heap.size + 3 + 1, 0, none⟩) (n + 2) c2) (by show w.heap.size + 1 + 1 ≠ w.heap.size; omega)
      have hwr2s : Below w.heap.size wr (w2.setCell ⟨w.heap.size, 2, none⟩ (.slice (some ⟨w.heap.size + 3 + 1, 0, none⟩) (n + 2) c2)) := hwr2.setCell (Nat.le_refl _) _
      have hs2s : (w2.setCell ⟨w.heap.size, 2, none⟩ (.slice (some ⟨w.heap.size + 3 + 1, 0, none⟩) (n + 2) c2)).heap.size = w.heap.size + 5 := by simp [hs2]
      clear hX1s hO1s hwr1s hs1s hb2 hbb2 hFA2 hO2 hO2m hO12 hwr2
      go_wp2_with fail
      clear x0 x1 x2 x3 x4 xf hs2
      generalize (w2.setCell ⟨w.heap.size, 2, none⟩ (.slice (some ⟨w.heap.size + 3 + 1, 0, none⟩) (n + 2) c2)) = W2 at *
      refine (mark_any _ _ _ (by omega) (by omega) (by omega) (by omega)).mono ?_
      rintro e w' ⟨rfl, hw'⟩
      have hw2 := hw'.symm
      clear hw'
      subst hw2
      simp only [Int.toNat_natCast]
      go_wp2_with fail
      refine (mark_any _ _ _ (by omega) (by omega) (by omega) (by omega)).mono ?_
      rintro e w' ⟨rfl, hw'⟩
      have hw2 := hw'.symm
      clear hw'
      subst hw2
      go_wp2_with fail
      refine (mark_any _ _ _ (by omega) (by omega) (by omega) (by omega)).mono ?_
      rintro e w' ⟨rfl, hw'⟩
      have hw2 := hw'.symm
      clear hw'
      subst hw2
      have en2 : ((n : Int) + 2).toNat = n + 2 := by omega
      simp only [Int.toNat_natCast, en2]
      clear en2
      have hb3 : Below (w.heap.size + 5) W2 (W2.alloc (Obj.cells #[.int .u8 ((markN N n : Nat) : Int), .int .u8 ((markN N (n + 1) : Nat) : Int), .int .u8 ((markN N (n + 2) : Nat) : Int)] 5)) := (Below.refl _ _).alloc (by omega) _
      have hFA3 := (hFk.far hwr2s hpl).far (hb3.mono (by omega)) hpl
      go_wp2_with (at_builtin; go_loud (refine wpList_append_fresh rfl (.tmp 47) (.tmp 59) rfl p n (marksL N n) hFA3 ⟨w.heap.size + 5, 0, none⟩ 3 3 [markN N n, markN N (n + 1), markN N (n + 2)] rfl (by omega) rfl rfl ?hnews3 (by omega) (w.heap.size + 5 + 1) (by simp [hs2s]) ?_))
      case hnews3 =>
        intro j hj
        match j, hj with
        | 0, _ => simp [Addr.add_lit, World.cell?_alloc_at, hs2s]
        | 1, _ => simp [Addr.add_lit, World.cell?_alloc_at, hs2s]
        | 2, _ => simp [Addr.add_lit, World.cell?_alloc_at, hs2s]
      intro c3 w3 hO3 hbb3 hs3
      have hO3m : OwnB w3 (w.heap.size + 5 + 1) c3 (marksL N (n + 3)) := by
        have e : marksL N (n + 3) = marksL N n ++ [markN N n, markN N (n + 1), markN N (n + 2)] := by rw [marksL_succ, marksL_succ, marksL_succ]; simp
        rw [e]; exact hO3
      have hX3 := hX2s.below (hb3.trans (hbb3.mono (by omega))) (by omega)
      have hO13 := hO12s.below (hb3.trans (hbb3.mono (by omega))) (by omega)
      have hO23 := hO2s.below (hb3.trans (hbb3.mono (by omega))) (by omega)
      have hwr3 : Below w.heap.size wr w3 := hwr2s.trans ((hb3.mono (by omega)).trans (hbb3.mono (by omega)))
      have hX3s := hX3.set3 (.slice (some ⟨w.heap.size + 5 + 1, 0, none⟩) (n + 3) c3)
      obtain ⟨⟨x0, x1, x2, x3, x4⟩, xf⟩ := hX3
      have hO3s := hO3m.other ⟨w.heap.size, 3, none⟩ (.slice (some ⟨w.heap.size + 5 + 1, 0, none⟩) (n + 3) c3) (by show w.heap.size + 5 + 1 ≠ w.heap.size; omega)
      have hO13s := hO13.other ⟨w.heap.size, 3, none⟩ (.slice (some ⟨w.heap.size + 5 + 1, 0, none⟩) (n + 3) c3) (by show w.heap.size + 1 + 1 ≠ w.heap.size; omega)
      have hO23s := hO23.other ⟨w.heap.size, 3, none⟩ (.slice (some ⟨w.heap.size + 5 + 1, 0, none⟩) (n + 3) c3) (by show w.heap.size + 3 + 1 ≠ w.heap.size; omega)
      have hwr3s : Below w.heap.size wr (w3.setCell ⟨w.heap.size, 3, none⟩ (.slice (some ⟨w.heap.size + 5 + 1, 0, none⟩) (n + 3) c3)) := hwr3.setCell (Nat.le_refl _) _
      have hs3s : (w3.setCell ⟨w.heap.size, 3, none⟩ (.slice (some ⟨w.heap.size + 5 + 1, 0, none⟩) (n + 3) c3)).heap.size = w.heap.size + 7 := by simp [hs3]
      have hcl3 : (w3.setCell ⟨w.heap.size, 3, none⟩ (.slice (some ⟨w.heap.size + 5 + 1, 0, none⟩) (n + 3) c3)).cell? ⟨WB, 2, none⟩ = some (.slice pl N cl) := by
        refine (hwr3s.cell (p := ⟨WB, 2, none⟩) hWB).trans ?_
        refine (World.cell?_of_block (hgr.block WB hWB ?_)).trans hcl
        intro e
        cases p with
        | none => simp [Value.ownBlock] at e
        | some a =>
          have : WB = a.block := by simpa [Value.ownBlock] using e
          exact hne a rfl this.symm
      have hown3 : (w3.setCell ⟨w.heap.size, 3, none⟩ (.slice (some ⟨w.heap.size + 5 + 1, 0, none⟩) (n + 3) c3)).ownsRow base 83 5 (.slice pl N cl) N xs := by
        have h1 := hown.kept hgr hrow
        refine h1.kept (grownBy_of_below none (hwr3s.mono (by omega))) ?_
        cases pl with
        | none => exact .inl rfl
        | some a => exact .inr (by simp [Value.ownBlock])
      clear hX2s hO2s hO12s hwr2s hs2s hb3 hbb3 hFA3 hO3 hO3m hO13 hO23 hwr3
      go_wp2_with fail
      clear x0 x1 x2 x3 x4 xf hs3
      generalize (w3.setCell ⟨w.heap.size, 3, none⟩ (.slice (some ⟨w.heap.size + 5 + 1, 0, none⟩) (n + 3) c3)) = W3 at *
      have hX4 := hX3s
      obtain ⟨⟨x0, x1, x2, x3, x4⟩, xf⟩ := hX4
      obtain ⟨i68, hi68, hz0, hz1, hz2⟩ := info_parts info68
      have hHW : w.heap.size ≠ WB := by omega
      have hownA : ∀ o : Obj, (W3.alloc o).drew.ownsRow base 83 5 (.slice pl N cl) N xs := fun o => by
        refine hown3.kept (grownBy_of_below none (((Below.refl W3.heap.size W3).alloc (Nat.le_refl _) o).drew)) ?_
        cases pl with
        | none => exact .inl rfl
        | some a => exact .inr (by simp [Value.ownBlock])
      have hbase1 : base ≤ w.heap.size := by omega
      have hblk : ∀ cs : Array Value, (W3.alloc (Obj.cells cs 83)).drew.heap[w.heap.size + 7]? = some (Obj.cells cs 83 (0, 0)) := fun cs => by
        rw [← hs3s]
        exact heap_alloc_new W3 _
      have HOWNA := (show Hid _ from hownA)
      have HBLK := (show Hid _ from hblk)
      have hrne : some WB ≠ (Value.slice pl N cl).ownBlock := by
        rcases hown.2 with ⟨h1, _⟩ | ⟨gl, cap, cur, h1, _, h2, _⟩
        · cases h1
          simp [Value.ownBlock]
        · cases h1
          intro e
          have e2 : WB = gl := by simpa [Value.ownBlock] using e
          subst e2
          rw [hwb] at h2
          cases h2
      have hfz3 : W3.frozen? ⟨WB, 2, none⟩ = false := by
        refine (hwr3s.frozen (p := ⟨WB, 2, none⟩) hWB).trans ?_
        refine (World.frozen?_of_block (hgr.block WB hWB ?_)).trans hclf
        intro e
        cases p with
        | none => simp [Value.ownBlock] at e
        | some a =>
          have : WB = a.block := by simpa [Value.ownBlock] using e
          exact hne a rfl this.symm
      have hst : ∀ (o : Obj) (w9 : World), (W3.alloc o).drew.grownBy w9 (Value.slice pl N cl).ownBlock → w9.cell? ⟨WB, 2, none⟩ = some (.slice pl N cl) ∧ w9.frozen? ⟨WB, 2, none⟩ = false := by
        intro o w9 hg
        have hbb := ((Below.refl W3.heap.size W3).alloc (Nat.le_refl _) o).drew
        have hlt : WB < W3.heap.size := by omega
        have hlt2 : WB < (W3.alloc o).drew.heap.size := by simp; omega
        exact ⟨(hg.cell_far ⟨WB, 2, none⟩ hlt2 hrne).trans ((hbb.cell (p := ⟨WB, 2, none⟩) hlt).trans hcl3), (hg.frozen_far ⟨WB, 2, none⟩ hlt2 hrne).trans ((hbb.frozen (p := ⟨WB, 2, none⟩) hlt).trans hfz3)⟩
      have hWB3 : WB < w.heap.size + 7 := by omega
      have HST := (show Hid _ from hst)
      have HOWN := (show Hid _ from hown)
      have HENT := (show Hid _ from hent0)
      have HOWN3 := (show Hid _ from hown3)
      have HWB3 : Hid (W3.heap[WB]? = some (Obj.cells #[d, s, .slice pl N cl] 53 (0, 0))) := by
        refine (hwr3s.block WB hWB).trans ((hgr.block WB hWB ?_).trans hwb)
        intro e
        cases p with
        | none => simp [Value.ownBlock] at e
        | some a =>
          have : WB = a.block := by simpa [Value.ownBlock] using e
          exact hne a rfl this.symm
      clear hownA hblk hown hown3 hent hst hent0
      go_region_law (refine step_append_lies _ rfl (.tmp 66) (.tmp 68) 49 rfl base 83 i68 _ 5 104 Tryz.underlying49 hi68 hz0 hz1 hz2 rfl (by omega) (.slice pl N cl) N xs rfl (HOWNA.out _) ⟨w.heap.size + 7, 0, none⟩ 1 1 [.slice p n n, .slice (some ⟨w.heap.size + 1 + 1, 0, none⟩) (n + 1) c1, .slice (some ⟨w.heap.size + 3 + 1, 0, none⟩) (n + 2) c2, .slice (some ⟨w.heap.size + 5 + 1, 0, none⟩) (n + 3) c3, .int .i64 (N : Int)] rfl rfl (World.news_of_block (HBLK.out _)) (by intro u hu; simp at hu; rcases hu with rfl | rfl | rfl | rfl | rfl <;> rfl) (by omega) (by unfold maxLen; omega) (by omega) (by simp; omega) (w.heap.size + 8) (by simp [hs3s]) ?_; intro g9 c9 w9 hown9 hgrow9 hat9 hlt9; obtain ⟨yc, yf⟩ := HST.out _ w9 hgrow9)
      all_goals
        go_wp2
        go_end0
        exact ⟨rfl, keep_end base WB N n p xs d s w0 w wr W3 w9 _ pl cl g9 c9 c1 c2 c3 hn hbase hWB0.2 hb0 hne0 hgr hsz hwr3s hs3s HWB3.out HOWN3.out hgrow9 hown9 HENT.out l hF hFk hO13s hO23s hO3s⟩

theorem keep_any (base WB N n : Nat) (p : Option Addr) (l : List Nat) (w0 w : World) (hN : N < 1000000) (hn : n ≤ 2000000) (hB0 : Books w0 base WB N) (hb0 : Below w0.heap.size w0 w) (hF : FullB w p n l) (hl : ∀ x ∈ l, x < 256) (hne0 : ∀ a, p = some a → w0.heap.size ≤ a.block) :
    Calls Tryz.prog 84 #[.pointer (some ⟨WB, 2, none⟩), .slice p n n] w fun e w' => e = .returned (.tuple #[]) ∧ Books w' base WB (N + 1) ∧ Below base w w' ∧ Keeps w w' := by
  obtain ⟨d, s, hD⟩ := hB0.parts
  refine (keep_full base WB N n p l d s w0 w hN hn hD hb0 hF hl hne0).mono ?_
  rintro e w' ⟨h1, h2, h3, h4, _⟩
  exact ⟨h1, h2.books, h3, h4⟩
end Go.Proofs.YtloaefcgcniacaaGreatDoor
