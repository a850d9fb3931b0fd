import Derived.Test.YtalbdljajihpfaaFf
import Derived.Test.YtalbdljajihpfaaBulk2
import Derived.ProofKit
import Derived.OpenShut
import Derived.ShutString
import Derived.ChangeOld
import Derived.Below
import Derived.JoinedCond
import Derived.Deep.Slices
namespace Go.Proofs.Ytalbdljajihpfaa
open Go.ChangeShapes Go.WideShapes Go.ChangeAt Go.RowKit Go.Deep
set_option linter.unusedVariables false

namespace Law2
theorem own : ownKnob Try.prog.godebug = none := by kernel_rfl
theorem laidOut : laidOutB Try.prog = true := by kernel_rfl

set_option maxRecDepth 100000 in
theorem open_op {H : Type} {enc : TypeId × Value → H} {W : World} {fuel : Nat} {cs : List Value} {y : DataW H × List MemPlace} (h : DataW.trod enc Try.prog W 0 (fun _ => true) true fuel 50 cs = some y) :
    8 ≤ Rows.uptoBulk y.1 ∧ ∃ (k a b c d e : Int) (s : ByteArray), cs = [.int .i64 k, .int .i64 a, .int .i64 b, .int .i64 c, .int .i64 d, .int .i64 e, .string s] ∧ s.size ≤ Rows.uptoBulk y.1 := by
  have hC : Try.prog.cellsOf 50 = 7 := by kernel_rfl
  have k3 : Try.prog.cellsOf 3 = 1 := by kernel_rfl
  have k9 : Try.prog.cellsOf 9 = 1 := by kernel_rfl
  obtain ⟨xs, n, _, hy, hl, hxl, hfs⟩ := DataW.trod_struct Try.underlying50 h
  have hxl7 : xs.length = 7 := hxl
  refine ⟨by rw [hy]; exact bulks.agg_seven _ (by rw [List.length_map]; exact hxl7), ?_⟩
  rw [hC] at hl
  match cs, hl with
  | [c0, c1, c2, c3, c4, c5, c6], _ =>
    match xs, hxl7 with
    | [y0, y1, y2, y3, y4, y5, y6], _ =>
      have g0 : DataW.trod enc Try.prog W 0 (fun _ => true) true n 3 (([c0, c1, c2, c3, c4, c5, c6].drop 0).take (Try.prog.cellsOf 3)) = some y0 := hfs 0 _ rfl
      have g1 : DataW.trod enc Try.prog W 0 (fun _ => true) true n 3 (([c0, c1, c2, c3, c4, c5, c6].drop 1).take (Try.prog.cellsOf 3)) = some y1 := hfs 1 _ rfl
      have g2 : DataW.trod enc Try.prog W 0 (fun _ => true) true n 3 (([c0, c1, c2, c3, c4, c5, c6].drop 2).take (Try.prog.cellsOf 3)) = some y2 := hfs 2 _ rfl
      have g3 : DataW.trod enc Try.prog W 0 (fun _ => true) true n 3 (([c0, c1, c2, c3, c4, c5, c6].drop 3).take (Try.prog.cellsOf 3)) = some y3 := hfs 3 _ rfl
      have g4 : DataW.trod enc Try.prog W 0 (fun _ => true) true n 3 (([c0, c1, c2, c3, c4, c5, c6].drop 4).take (Try.prog.cellsOf 3)) = some y4 := hfs 4 _ rfl
      have g5 : DataW.trod enc Try.prog W 0 (fun _ => true) true n 3 (([c0, c1, c2, c3, c4, c5, c6].drop 5).take (Try.prog.cellsOf 3)) = some y5 := hfs 5 _ rfl
      have g6 : DataW.trod enc Try.prog W 0 (fun _ => true) true n 9 (([c0, c1, c2, c3, c4, c5, c6].drop 6).take (Try.prog.cellsOf 9)) = some y6 := hfs 6 _ rfl
      rw [k3] at g0 g1 g2 g3 g4 g5
      rw [k9] at g6
      simp only [List.drop_zero, List.drop_succ_cons, List.take_succ_cons, List.take_zero] at g0 g1 g2 g3 g4 g5 g6
      obtain ⟨z0, e0, _, _⟩ := DataW.trod_int Try.underlying3 g0
      obtain ⟨z1, e1, _, _⟩ := DataW.trod_int Try.underlying3 g1
      obtain ⟨z2, e2, _, _⟩ := DataW.trod_int Try.underlying3 g2
      obtain ⟨z3, e3, _, _⟩ := DataW.trod_int Try.underlying3 g3
      obtain ⟨z4, e4, _, _⟩ := DataW.trod_int Try.underlying3 g4
      obtain ⟨z5, e5, _, _⟩ := DataW.trod_int Try.underlying3 g5
      obtain ⟨z6, e6, x6, _⟩ := DataW.trod_string Try.underlying9 g6
      have hsz : z6.size ≤ Rows.uptoBulk y.1 := by
        rw [hy]
        refine Nat.le_trans (bulks.str z6) (bulks.agg_mem _ _ ?_)
        rw [x6]
        simp
      simp only [List.cons.injEq, and_true] at e0 e1 e2 e3 e4 e5 e6
      subst e0 e1 e2 e3 e4 e5 e6
      exact ⟨z0, z1, z2, z3, z4, z5, z6, rfl, hsz⟩

set_option maxRecDepth 100000 in
theorem open_script {H : Type} {enc : TypeId × Value → H} {W : World} {b0 : Nat} {v : Value} {d : DataW H} {p : List MemPlace} (hv : Value.okWide Try.prog W .any b0 22 v)
    (h : DataW.Trod enc Try.prog W 0 (fun _ => true) true 22 v d p) :
    ∃ (a : Option Addr) (len cap : Nat), v = .slice a len cap ∧ (Rows.uptoBulk d ≤ 1048576 → len ≤ 200000 ∧ (len = 0 ∨ ∃ g off, a = some ⟨g, off, none⟩ ∧ g < W.heap.size ∧ OpsC2 W g off len)) := by
  obtain ⟨a0, len0, cap0, rfl⟩ := okWide_slice Try.underlying22 hv
  obtain ⟨fuel, hf⟩ := h
  have hC : Try.prog.cellsOf 50 = 7 := by kernel_rfl
  rcases open_slice Try.underlying22 hf with ⟨hcs, hx⟩ | ⟨a, len, cap, m, n, D, Pl, hcs, _, hlc, hcm, hm, hx, hall⟩
  · simp [Value.cells] at hcs
    obtain ⟨rfl, rfl, rfl⟩ := hcs
    exact ⟨none, 0, 0, rfl, fun _ => ⟨by omega, .inl rfl⟩⟩
  · simp [Value.cells] at hcs
    obtain ⟨rfl, rfl, rfl⟩ := hcs
    have hm' : m = cap0 := by simpa using hm
    subst hm'
    refine ⟨some a, len0, m, rfl, ?_⟩
    intro hb
    simp only [Prod.mk.injEq] at hx
    rw [hx.1] at hb
    refine ⟨?_, ?_⟩
    · skip
      have h8 := bulks.eight_le ((List.range len0).map D) (by
        intro x hx2
        obtain ⟨i, hi, rfl⟩ := List.mem_map.1 hx2
        obtain ⟨cs', _, ht⟩ := hall i (by have := List.mem_range.1 hi; omega)
        exact (open_op ht).1)
      simp only [List.length_map, List.length_range] at h8
      simp only [Rows.uptoBulk] at hb
      omega
    · by_cases h0 : len0 = 0
      · exact .inl h0
      · right
        have hcell : ∀ i, i < len0 → ∃ (k a1 b c d e : Int) (s : ByteArray), (∀ t, t < 7 → W.cell? ((a.add (i * 7)).add t) = [Value.int .i64 k, .int .i64 a1, .int .i64 b, .int .i64 c, .int .i64 d, .int .i64 e, .string s][t]?) ∧ s.size ≤ 2000000 := by
          intro i hi
          obtain ⟨cs', hc1, ht⟩ := hall i (by omega)
          rw [hC] at hc1
          obtain ⟨_, _, hc2⟩ := World.cells?_some hc1
          obtain ⟨_, k, a1, b, c, d, e, s, rfl, hsz⟩ := open_op ht
          refine ⟨k, a1, b, c, d, e, s, hc2, ?_⟩
          have hm2 := bulks.mem_le ((List.range len0).map D) (D i) (List.mem_map.2 ⟨i, List.mem_range.2 hi, rfl⟩)
          simp only [Rows.uptoBulk] at hb
          have hsz2 : s.size ≤ Rows.uptoBulk (D i) := hsz
          omega
        obtain ⟨g, off, spot⟩ := a
        have hspot : spot = none := by
          obtain ⟨k, a1, b, c, d, e, s, h1, hs7⟩ := hcell 0 (by omega)
          have h2 := h1 0 (by omega)
          have h3 := World.cell?_spot (v := Value.int .i64 k) h2
          simpa [Addr.add] using h3
        subst hspot
        have hg : g < W.heap.size := by
          obtain ⟨k, a1, b, c, d, e, s, h1, hs7⟩ := hcell 0 (by omega)
          have h2 := h1 0 (by omega)
          have h3 := World.block_lt_of_cell? W (u := Value.int .i64 k) _ h2
          simpa [Addr.add] using h3
        refine ⟨g, off, rfl, hg, ?_⟩
        intro i hi
        obtain ⟨k, a1, b, c, d, e, s, h1, hs7⟩ := hcell i hi
        refine ⟨k, a1, b, c, d, e, s, ?_, ?_, ?_, ?_, ?_, ?_, ?_, hs7⟩
        · have := h1 0 (by omega); rw [Addr.add_lit, Addr.add_lit] at this; exact this
        · have := h1 1 (by omega); rw [Addr.add_lit, Addr.add_lit] at this; exact this
        · have := h1 2 (by omega); rw [Addr.add_lit, Addr.add_lit] at this; exact this
        · have := h1 3 (by omega); rw [Addr.add_lit, Addr.add_lit] at this; exact this
        · have := h1 4 (by omega); rw [Addr.add_lit, Addr.add_lit] at this; exact this
        · have := h1 5 (by omega); rw [Addr.add_lit, Addr.add_lit] at this; exact this
        · have := h1 6 (by omega); rw [Addr.add_lit, Addr.add_lit] at this; exact this

set_option maxRecDepth 100000 in
theorem seals_lifted (os : Os) (started : os.Started) (H : Type) (enc : TypeId × Value → H) (F : Stop.Interp) :
    ReturnsInHanded {} Try.checked os 4 .any ((Rows.OpenSpec.upto Rows.sealsSpec).pre6 enc Try.prog Try.f4 Rows.sealsUptoRow.domain false) (((Rows.OpenSpec.upto Rows.sealsSpec).at F).post enc Try.prog Try.f4 false true false false) := by
  refine returnsInHanded_of_cond (C := Try.checked) (s := Rows.OpenSpec.upto Rows.sealsSpec) (k := Rows.uptoSmall) rfl own started (by kernel_rfl) Try.func4
    (OpenSpec.witness (enc := enc) (C := Try.checked) (s := Rows.OpenSpec.upto Rows.sealsSpec) (k := Rows.uptoSmall) rfl false ⟨#[], #[.slice none 0 0], []⟩ 8 (by kernel_rfl) (by kernel_rfl) (by kernel_rfl)
      (x := ([.nil], [], [])) (by kernel_rfl) rfl (by kernel_rfl)) ?_
  intro W base args ds gs before hval hW _ hk _
  have hval' : ∀ (j : Nat) t v, Try.f4.params[j]? = some t → args[j]? = some v → Value.okWide Try.prog W .any base t v := hval
  have hW' := hW
  obtain ⟨p, q, hA0, hV, rfl, hfz, hnd⟩ := hW
  have hA : DataW.TrodAll enc Try.prog W 0 (fun _ => true) true Try.f4.params.toList args.toList ds p := hA0
  rw [Try.params4] at hA hval'
  obtain ⟨v0, vs0, d0, ds0, p0, q0, hargs, rfl, rfl, h0, r0⟩ := trodAll_cons hA
  obtain ⟨rfl, rfl, rfl⟩ := trodAll_nil r0
  obtain rfl : args = #[v0] := by cases args; simp_all
  obtain ⟨rfl, rfl⟩ := trodVars_none hV
  have k0 := h0
  have lt0 : ∀ x ∈ p0, x.block < W.heap.size := by obtain ⟨m, hm⟩ := k0; exact DataW.trod_lt m _ _ _ hm
  obtain ⟨a, len, cap, rfl, hbd⟩ := open_script (hval' 0 22 v0 rfl rfl) h0
  have hb := of_decide_eq_true hk
  simp only [Rows.uptoBulkAll, List.append_nil] at hb
  obtain ⟨hlen, hops⟩ := hbd (by omega)
  refine (seals_walk a len cap W hlen hops).mono fun e W' ⟨he, bel⟩ => ?_
  subst he
  exact ⟨_, rfl, _, _, _, [], _, [], hW', trodAll_mk1 (shut_bool Try.underlying4 _), (trodAll_cons_mk (Below.trod laidOut (by kernel_rfl) (of_decide_eq_true (by kernel_rfl)) k0 bel lt0) trodAll_mk0), rfl, bel.frame _, fun h => by cases h⟩

theorem seals_over : Rows.sealsUptoRow.holds Try.pinned (Rows.OpenSpec.upto Rows.sealsSpec) :=
  OpenClaim.holds_of_cond 4 Try.f4 rfl rfl rfl rfl rfl rfl rfl ⟨rfl, rfl, rfl, rfl, rfl⟩ rfl rfl rfl rfl rfl (by kernel_rfl) Try.func4 (by kernel_rfl)
    (of_decide_eq_true (by kernel_rfl)) (by unfold Func.isWrapper; first | (rw [if_pos (by decide +kernel)]; kernel_rfl) | (rw [if_neg (by decide +kernel)]; exact ⟨rfl, rfl⟩))
    (fun os started H enc _ F => seals_lifted os started H enc F)
end Law2

theorem seals_upto_holds : Rows.SealsUptoSaid := Law2.seals_over
#print axioms seals_upto_holds
end Go.Proofs.Ytalbdljajihpfaa
