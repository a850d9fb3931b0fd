import Derived.Test.YtloaefcgcniacaaGreatDoorBa
namespace Go.Proofs.YtloaefcgcniacaaGreatDoor
open Go.RowKit
set_option linter.unusedVariables false

/-- The j-th list of the books, in the cells xs. -/
def Ent (w : World) (xs : List Value) (j : Nat) : Prop :=
  ∃ (pa pb pc pd : Option Addr) (na ca nb cb nc cc nd cd : Nat), xs[j * 5]? = some (.slice pa na ca) ∧ xs[j * 5 + 1]? = some (.slice pb nb cb) ∧ xs[j * 5 + 2]? = some (.slice pc nc cc) ∧ xs[j * 5 + 3]? = some (.slice pd nd cd) ∧ xs[j * 5 + 4]? = some (.int .i64 (j : Int)) ∧ Mk w pa na ca j ∧ Mk w pb nb cb j ∧ Mk w pc nc cc j ∧ Mk w pd nd cd j

/-- All lists that came out read as the caller has written them. -/
def Books (w : World) (base WB N : Nat) : Prop :=
  ∃ (d s lv : Value) (xs : List Value), base ≤ WB ∧ w.heap[WB]? = some (Obj.cells #[d, s, lv] 53 (0, 0)) ∧ w.ownsRow base 83 5 lv N xs ∧ ∀ j, j < N → Ent w xs j

/-- The books, and what else the World holds: its disks d and its stores s. -/
def BooksD (w : World) (base WB N : Nat) (d s : Value) : Prop :=
  ∃ (lv : Value) (xs : List Value), base ≤ WB ∧ w.heap[WB]? = some (Obj.cells #[d, s, lv] 53 (0, 0)) ∧ w.ownsRow base 83 5 lv N xs ∧ ∀ j, j < N → Ent w xs j
theorem BooksD.books {w : World} {base WB N : Nat} {d s : Value} (h : BooksD w base WB N d s) : Books w base WB N := by
  obtain ⟨lv, xs, h⟩ := h
  exact ⟨d, s, lv, xs, h⟩
theorem Books.parts {w : World} {base WB N : Nat} (h : Books w base WB N) : ∃ d s, BooksD w base WB N d s := by
  obtain ⟨d, s, lv, xs, h⟩ := h
  exact ⟨d, s, lv, xs, h⟩

theorem Mk.keep {w w' : World} {p : Option Addr} {n c j : Nat} (h : Mk w p n c j) (hk : ∀ (g : Nat) (cur : Array Value) (fz : Nat × Nat), w.heap[g]? = some (Obj.cells cur 5 fz) → w'.heap[g]? = some (Obj.cells cur 5 fz)) : Mk w' p n c j := by
  rcases h with h | ⟨g, cur, fz, h1, h2, h3, h4⟩
  · exact .inl h
  · exact .inr ⟨g, cur, fz, h1, h2, hk g cur fz h3, h4⟩
theorem Mk.below {w w' : World} {p : Option Addr} {n c j : Nat} (h : Mk w p n c j) (hb : Below w.heap.size w w') : Mk w' p n c j :=
  Mk.keep h fun g cur fz hg => (hb.block g (Array.getElem?_eq_some_iff.1 hg).1).trans hg

set_option maxHeartbeats 1000000 in
theorem whole_any (base WB N : Nat) (w : World) (hN : N ≤ 1000000) (h : Books w base WB N) :
    Calls Tryz.prog 18 #[.pointer (some ⟨WB, 2, none⟩)] w fun e w' => e = .returned (.bool true) ∧ Below w.heap.size w w' := by
  obtain ⟨d, s, lv, xs, _, hwb, hown, hent⟩ := h
  have hcl : w.cell? ⟨WB, 2, none⟩ = some lv := by simp [World.cell?, hwb]
  have hWB : WB < w.heap.size := World.block_lt_of_cell? w _ hcl
  obtain ⟨hxl, hcase⟩ := hown
  rcases hcase with ⟨rfl, rfl⟩ | ⟨gl, cap, cur, rfl, hbg, hg, hnc, hcm, hcs, htake⟩
  · go_enter Tryz.func18, Tryz.ntmps18
    go_wp2
    refine wp_loop_rounds 1 ?_
    rw [rounds_succ]
    go_wp2
    go_ret
    exact ⟨rfl, Below.refl _ _⟩
  · have hgl : gl < w.heap.size := (Array.getElem?_eq_some_iff.1 hg).1
    have hcell : ∀ t u, xs[t]? = some u → w.cell? ⟨gl, t, none⟩ = some u := by
      intro t u hu
      have : cur.toList[t]? = some u := by
        rw [← htake] at hu
        rw [List.getElem?_take] at hu
        split at hu
        · exact hu
        · cases hu
      simp only [World.cell?, hg]
      simpa using this
    clear htake hcs hg hxl hcm hnc
    go_enter Tryz.func18, Tryz.ntmps18
    go_wp2
    go_loopw [3] (fun i wr => ∃ k : Nat, k ≤ N ∧ i = .int .i64 k ∧ Below w.heap.size w wr) (fun i _ => N - (intOf i).toNat)
    case atStart => exact ⟨0, Nat.zero_le _, rfl, Below.refl _ _⟩
    case round =>
      obtain ⟨k, hk, rfl, hb⟩ := hrel
      have hcl' : wr.cell? ⟨WB, 2, none⟩ = some (.slice (some ⟨gl, 0, none⟩) N cap) := (hb.cell (p := ⟨WB, 2, none⟩) hWB).trans hcl
      by_cases hlt : k < N
      · obtain ⟨pa, pb, pc, pd, na, ca, nb, cb, nc, cc, nd, cd, x0, x1, x2, x3, x4, m0, m1, m2, m3⟩ := hent k hlt
        have y0 : wr.cell? ⟨gl, k * 5, none⟩ = some (.slice pa na ca) := (hb.cell (p := ⟨gl, k * 5, none⟩) hgl).trans (hcell _ _ x0)
        have y1 : wr.cell? ⟨gl, k * 5 + 1, none⟩ = some (.slice pb nb cb) := (hb.cell (p := ⟨gl, k * 5 + 1, none⟩) hgl).trans (hcell _ _ x1)
        have y2 : wr.cell? ⟨gl, k * 5 + 2, none⟩ = some (.slice pc nc cc) := (hb.cell (p := ⟨gl, k * 5 + 2, none⟩) hgl).trans (hcell _ _ x2)
        have y3 : wr.cell? ⟨gl, k * 5 + 3, none⟩ = some (.slice pd nd cd) := (hb.cell (p := ⟨gl, k * 5 + 3, none⟩) hgl).trans (hcell _ _ x3)
        have y4 : wr.cell? ⟨gl, k * 5 + 4, none⟩ = some (.int .i64 (k : Int)) := (hb.cell (p := ⟨gl, k * 5 + 4, none⟩) hgl).trans (hcell _ _ x4)
        have hlti : (k : Int) < (N : Int) := by omega
        clear x0 x1 x2 x3 x4 hcell hent hcl
        have hz := hb.size
        go_wp2_with fail
        refine (marked_any pa na ca k _ (by omega) (m0.below (hb.alloc hz _))).mono ?_
        rintro e w2 ⟨rfl, q2, rfl⟩
        go_wp2_with fail
        refine (marked_any pb nb cb k _ (by omega) (m1.below (below_drewN (hb.alloc hz _) _))).mono ?_
        rintro e w3 ⟨rfl, q3, rfl⟩
        go_wp2_with fail
        refine (marked_any pc nc cc k _ (by omega) (m2.below (below_drewN (hb.alloc hz _) _))).mono ?_
        rintro e w4 ⟨rfl, q4, rfl⟩
        go_wp2_with fail
        refine (marked_any pd nd cd k _ (by omega) (m3.below (below_drewN (hb.alloc hz _) _))).mono ?_
        rintro e w5 ⟨rfl, q5, rfl⟩
        go_wp2
        go_roundw
        case rel => exact ⟨k + 1, by omega, by go_num, below_drewN (hb.alloc hz _) _⟩
        case measure => simp [intOf]; omega
      · go_wp2
        go_ret
        exact ⟨rfl, hb⟩
theorem Ent.below {w w' : World} {xs : List Value} {j : Nat} (h : Ent w xs j) (hb : Below w.heap.size w w') : Ent w' xs j := by
  obtain ⟨pa, pb, pc, pd, na, ca, nb, cb, nc, cc, nd, cd, x0, x1, x2, x3, x4, m0, m1, m2, m3⟩ := h
  exact ⟨pa, pb, pc, pd, na, ca, nb, cb, nc, cc, nd, cd, x0, x1, x2, x3, x4, m0.below hb, m1.below hb, m2.below hb, m3.below hb⟩
theorem Books.below {w w' : World} {base WB N : Nat} (h : Books w base WB N) (hb : Below w.heap.size w w') : Books w' base WB N := by
  obtain ⟨d, s, lv, xs, h1, hwb, hown, hent⟩ := h
  have hWB : WB < w.heap.size := (Array.getElem?_eq_some_iff.1 hwb).1
  refine ⟨d, s, lv, xs, h1, (hb.block WB hWB).trans hwb, ?_, fun j hj => (hent j hj).below hb⟩
  refine hown.kept (row := none) ⟨hb.os, hb.tape, hb.output, hb.size, fun k hk _ => hb.block k hk⟩ ?_
  cases h : lv.ownBlock with
  | none => exact .inl rfl
  | some a => exact .inr (by simp)
theorem Books.wb {w : World} {base WB N : Nat} (h : Books w base WB N) : base ≤ WB ∧ WB < w.heap.size := by
  obtain ⟨d, s, lv, xs, h1, hwb, _⟩ := h
  exact ⟨h1, (Array.getElem?_eq_some_iff.1 hwb).1⟩
end Go.Proofs.YtloaefcgcniacaaGreatDoor
