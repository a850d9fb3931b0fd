import Derived.Test.YtloaefcgcniacaaGreatDoorFf
import Derived.Test.YtloaefcgcniacaaGreatDoorBulk2
import Derived.Test.YtloaefcgcniacaaGreatDoorWr
import Derived.ProofKit
import Derived.OpenShut
import Derived.ShutString
import Derived.ChangeOld
import Derived.Below
import Derived.JoinedCond
import Derived.Deep.Slices
namespace Go.Proofs.YtloaefcgcniacaaGreatDoor
open Go.ChangeShapes Go.WideShapes Go.ChangeAt Go.RowKit Go.Deep
set_option linter.unusedVariables false

namespace Law2
theorem own : ownKnob Tryz.prog.godebug = none := by kernel_rfl
theorem laidOut : laidOutB Tryz.prog = true := by kernel_rfl

set_option maxRecDepth 100000 in
theorem open_op {H : Type} {enc : TypeId × Value → H} {W : World} {fuel : Nat} {cs : List Value} {y : DataW H × List MemPlace} (h : DataW.trod enc Tryz.prog W 0 (fun _ => true) true fuel 56 cs = some y) :
    8 ≤ Rows.uptoBulk y.1 ∧ ∃ (k a b c d e : Int) (s : ByteArray), cs = [.int .i64 k, .int .i64 a, .int .i64 b, .int .i64 c, .int .i64 d, .int .i64 e, .string s] ∧ s.size ≤ Rows.uptoBulk y.1 := by
  have hC : Tryz.prog.cellsOf 56 = 7 := by kernel_rfl
  have k3 : Tryz.prog.cellsOf 3 = 1 := by kernel_rfl
  have k9 : Tryz.prog.cellsOf 9 = 1 := by kernel_rfl
  obtain ⟨xs, n, _, hy, hl, hxl, hfs⟩ := DataW.trod_struct Tryz.underlying56 h
  have hxl7 : xs.length = 7 := hxl
  refine ⟨by rw [hy]; exact bulks.agg_seven _ (by rw [List.length_map]; exact hxl7), ?_⟩
  rw [hC] at hl
  match cs, hl with
  | [c0, c1, c2, c3, c4, c5, c6], _ =>
    match xs, hxl7 with
    | [y0, y1, y2, y3, y4, y5, y6], _ =>
      have g0 : DataW.trod enc Tryz.prog W 0 (fun _ => true) true n 3 (([c0, c1, c2, c3, c4, c5, c6].drop 0).take (Tryz.prog.cellsOf 3)) = some y0 := hfs 0 _ rfl
      have g1 : DataW.trod enc Tryz.prog W 0 (fun _ => true) true n 3 (([c0, c1, c2, c3, c4, c5, c6].drop 1).take (Tryz.prog.cellsOf 3)) = some y1 := hfs 1 _ rfl
      have g2 : DataW.trod enc Tryz.prog W 0 (fun _ => true) true n 3 (([c0, c1, c2, c3, c4, c5, c6].drop 2).take (Tryz.prog.cellsOf 3)) = some y2 := hfs 2 _ rfl
      have g3 : DataW.trod enc Tryz.prog W 0 (fun _ => true) true n 3 (([c0, c1, c2, c3, c4, c5, c6].drop 3).take (Tryz.prog.cellsOf 3)) = some y3 := hfs 3 _ rfl
      have g4 : DataW.trod enc Tryz.prog W 0 (fun _ => true) true n 3 (([c0, c1, c2, c3, c4, c5, c6].drop 4).take (Tryz.prog.cellsOf 3)) = some y4 := hfs 4 _ rfl
      have g5 : DataW.trod enc Tryz.prog W 0 (fun _ => true) true n 3 (([c0, c1, c2, c3, c4, c5, c6].drop 5).take (Tryz.prog.cellsOf 3)) = some y5 := hfs 5 _ rfl
      have g6 : DataW.trod enc Tryz.prog W 0 (fun _ => true) true n 9 (([c0, c1, c2, c3, c4, c5, c6].drop 6).take (Tryz.prog.cellsOf 9)) = some y6 := hfs 6 _ rfl
      rw [k3] at g0 g1 g2 g3 g4 g5
      rw [k9] at g6
      simp only [List.drop_zero, List.drop_succ_cons, List.take_succ_cons, List.take_zero] at g0 g1 g2 g3 g4 g5 g6
      obtain ⟨z0, e0, _, _⟩ := DataW.trod_int Tryz.underlying3 g0
      obtain ⟨z1, e1, _, _⟩ := DataW.trod_int Tryz.underlying3 g1
      obtain ⟨z2, e2, _, _⟩ := DataW.trod_int Tryz.underlying3 g2
      obtain ⟨z3, e3, _, _⟩ := DataW.trod_int Tryz.underlying3 g3
      obtain ⟨z4, e4, _, _⟩ := DataW.trod_int Tryz.underlying3 g4
      obtain ⟨z5, e5, _, _⟩ := DataW.trod_int Tryz.underlying3 g5
      obtain ⟨z6, e6, x6, _⟩ := DataW.trod_string Tryz.underlying9 g6
      have hsz : z6.size ≤ Rows.uptoBulk y.1 := by
        rw [hy]
        refine Nat.le_trans (bulks.str z6) (bulks.agg_mem _ _ ?_)
        rw [x6]
        simp
      simp only [List.cons.injEq, and_true] at e0 e1 e2 e3 e4 e5 e6
      subst e0 e1 e2 e3 e4 e5 e6
      exact ⟨z0, z1, z2, z3, z4, z5, z6, rfl, hsz⟩

set_option maxRecDepth 100000 in
theorem open_script {H : Type} {enc : TypeId × Value → H} {W : World} {b0 : Nat} {v : Value} {d : DataW H} {p : List MemPlace} (hv : Value.okWide Tryz.prog W .any b0 22 v)
    (h : DataW.Trod enc Tryz.prog W 0 (fun _ => true) true 22 v d p) :
    ∃ (a : Option Addr) (len cap : Nat), v = .slice a len cap ∧ (Rows.uptoBulk d ≤ 1048576 → len ≤ 200000 ∧ (len = 0 ∨ ∃ g off, a = some ⟨g, off, none⟩ ∧ g < W.heap.size ∧ OpsC2 W g off len)) := by
  obtain ⟨a0, len0, cap0, rfl⟩ := okWide_slice Tryz.underlying22 hv
  obtain ⟨fuel, hf⟩ := h
  have hC : Tryz.prog.cellsOf 56 = 7 := by kernel_rfl
  rcases open_slice Tryz.underlying22 hf with ⟨hcs, hx⟩ | ⟨a, len, cap, m, n, D, Pl, hcs, _, hlc, hcm, hm, hx, hall⟩
  · simp [Value.cells] at hcs
    obtain ⟨rfl, rfl, rfl⟩ := hcs
    exact ⟨none, 0, 0, rfl, fun _ => ⟨by omega, .inl rfl⟩⟩
  · simp [Value.cells] at hcs
    obtain ⟨rfl, rfl, rfl⟩ := hcs
    have hm' : m = cap0 := by simpa using hm
    subst hm'
    refine ⟨some a, len0, m, rfl, ?_⟩
    intro hb
    simp only [Prod.mk.injEq] at hx
    rw [hx.1] at hb
    refine ⟨?_, ?_⟩
    · skip
      have h8 := bulks.eight_le ((List.range len0).map D) (by
        intro x hx2
        obtain ⟨i, hi, rfl⟩ := List.mem_map.1 hx2
        obtain ⟨cs', _, ht⟩ := hall i (by have := List.mem_range.1 hi; omega)
        exact (open_op ht).1)
      simp only [List.length_map, List.length_range] at h8
      simp only [Rows.uptoBulk] at hb
      omega
    · by_cases h0 : len0 = 0
      · exact .inl h0
      · right
        have hcell : ∀ i, i < len0 → ∃ (k a1 b c d e : Int) (s : ByteArray), (∀ t, t < 7 → W.cell? ((a.add (i * 7)).add t) = [Value.int .i64 k, .int .i64 a1, .int .i64 b, .int .i64 c, .int .i64 d, .int .i64 e, .string s][t]?) ∧ s.size ≤ 2000000 := by
          intro i hi
          obtain ⟨cs', hc1, ht⟩ := hall i (by omega)
          rw [hC] at hc1
          obtain ⟨_, _, hc2⟩ := World.cells?_some hc1
          obtain ⟨_, k, a1, b, c, d, e, s, rfl, hsz⟩ := open_op ht
          refine ⟨k, a1, b, c, d, e, s, hc2, ?_⟩
          have hm2 := bulks.mem_le ((List.range len0).map D) (D i) (List.mem_map.2 ⟨i, List.mem_range.2 hi, rfl⟩)
          simp only [Rows.uptoBulk] at hb
          have hsz2 : s.size ≤ Rows.uptoBulk (D i) := hsz
          omega
        obtain ⟨g, off, spot⟩ := a
        have hspot : spot = none := by
          obtain ⟨k, a1, b, c, d, e, s, h1, hs7⟩ := hcell 0 (by omega)
          have h2 := h1 0 (by omega)
          have h3 := World.cell?_spot (v := Value.int .i64 k) h2
          simpa [Addr.add] using h3
        subst hspot
        have hg : g < W.heap.size := by
          obtain ⟨k, a1, b, c, d, e, s, h1, hs7⟩ := hcell 0 (by omega)
          have h2 := h1 0 (by omega)
          have h3 := World.block_lt_of_cell? W (u := Value.int .i64 k) _ h2
          simpa [Addr.add] using h3
        refine ⟨g, off, rfl, hg, ?_⟩
        intro i hi
        obtain ⟨k, a1, b, c, d, e, s, h1, hs7⟩ := hcell i hi
        refine ⟨k, a1, b, c, d, e, s, ?_, ?_, ?_, ?_, ?_, ?_, ?_, hs7⟩
        · have := h1 0 (by omega); rw [Addr.add_lit, Addr.add_lit] at this; exact this
        · have := h1 1 (by omega); rw [Addr.add_lit, Addr.add_lit] at this; exact this
        · have := h1 2 (by omega); rw [Addr.add_lit, Addr.add_lit] at this; exact this
        · have := h1 3 (by omega); rw [Addr.add_lit, Addr.add_lit] at this; exact this
        · have := h1 4 (by omega); rw [Addr.add_lit, Addr.add_lit] at this; exact this
        · have := h1 5 (by omega); rw [Addr.add_lit, Addr.add_lit] at this; exact this
        · have := h1 6 (by omega); rw [Addr.add_lit, Addr.add_lit] at this; exact this

end Law2
end Go.Proofs.YtloaefcgcniacaaGreatDoor
