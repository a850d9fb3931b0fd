import Derived.Test.YtloaefcgcniacaaKs
import Derived.ProofKit
import Derived.OpenShut
import Derived.ShutString
import Derived.ChangeOld
import Derived.Below
import Derived.Lib.SmallJoins
namespace Go.Proofs.Ytloaefcgcniacaa
open Go.ChangeShapes Go.WideShapes Go.ChangeAt Go.RowKit Go.Joins
open Go.ChangeMaps (open_string shut_string)
set_option linter.unusedVariables false

theorem own : ownKnob Try.prog.godebug = none := by kernel_rfl
theorem laidOut : laidOutB Try.prog = true := by kernel_rfl

/-- A string that is read where nothing below has turned. -/
theorem inFrame_nil (w : World) : InFrame w none 0 0 ByteArray.empty := fun W _ =>
  run_convert_bytes_nil (P := Try.prog) W 22 5 Try.underlying22 Try.underlying5 0 0 9 Try.underlying9

theorem inFrame_row (w : World) (x : Addr) (len cap : Nat) (zs : List Int) (hz : len ≤ zs.length) (hcell : ∀ i, i < zs.length → w.cell? (x.add i) = some (.int .u8 (zs.getD i 0))) :
    ∃ sb, InFrame w (some x) len cap sb := by
  refine ⟨(zs.take len).foldl (fun r n => r.push (UInt8.ofNat n.toNat)) ByteArray.empty, fun W hb => ?_⟩
  rw [run_convert_bytes_string W 22 9 5 _ len cap Try.underlying22 Try.underlying5 Try.underlying9]
  have hl := run_loadCells_list (P := Try.prog) W x ((zs.take len).map (Value.int .u8)) (fun j v hj => by
    have hj1 : j < len := by
      have := (List.getElem?_eq_some_iff.1 hj).1
      simp at this
      omega
    have hc := hcell j (by omega)
    have hlt : (x.add j).block < w.heap.size := World.block_lt_of_cell? w _ hc
    rw [hb.cell hlt, hc]
    have hj2 : j < zs.length := by omega
    simp [hj1, hj2] at hj
    rw [← hj]
    simp [hj2])
  have e : ((zs.take len).map (Value.int .u8)).length = len := by simp; omega
  rw [e] at hl
  exact run_bytesToString W x len cap (zs.take len) hl

set_option maxRecDepth 100000 in
theorem open_frame {H : Type} {enc : TypeId × Value → H} {W : World} {b0 : Nat} {v : Value} {d : DataW H} {p : List MemPlace} (hv : Value.okWide Try.prog W .any b0 24 v)
    (h : DataW.Trod enc Try.prog W 0 (fun _ => true) true 24 v d p) :
    ∃ (kd ix ep sq : Int) (a : Option Addr) (len cap : Nat) (sb : ByteArray), v = .agg #[.int .i64 kd, .int .i64 ix, .int .i64 ep, .int .i64 sq, .slice a len cap] ∧ inI64 kd ∧ inI64 ix ∧ inI64 ep ∧ inI64 sq ∧ InFrame W a len cap sb := by
  obtain ⟨cs, rfl, hsz⟩ := okWide_struct Try.underlying24 hv
  have hC : Try.prog.cellsOf 24 = 5 := by kernel_rfl
  rw [hC] at hsz
  obtain ⟨l⟩ := cs
  match l, hsz with
  | [c0, c1, c2, c3, c4], _ =>
    obtain ⟨fuel, hf⟩ := h
    obtain ⟨xs, n, _, _, _, hxl, hfs⟩ := DataW.trod_struct Try.underlying24 hf
    have k3 : Try.prog.cellsOf 3 = 1 := by kernel_rfl
    have k25 : Try.prog.cellsOf 22 = 1 := by kernel_rfl
    match xs, hxl with
    | [y0, y1, y2, y3, y4], _ =>
      have g0 : DataW.trod enc Try.prog W 0 (fun _ => true) true n 3 (([c0, c1, c2, c3, c4].drop 0).take (Try.prog.cellsOf 3)) = some y0 := hfs 0 _ rfl
      have g1 : DataW.trod enc Try.prog W 0 (fun _ => true) true n 3 (([c0, c1, c2, c3, c4].drop 1).take (Try.prog.cellsOf 3)) = some y1 := hfs 1 _ rfl
      have g2 : DataW.trod enc Try.prog W 0 (fun _ => true) true n 3 (([c0, c1, c2, c3, c4].drop 2).take (Try.prog.cellsOf 3)) = some y2 := hfs 2 _ rfl
      have g3 : DataW.trod enc Try.prog W 0 (fun _ => true) true n 3 (([c0, c1, c2, c3, c4].drop 3).take (Try.prog.cellsOf 3)) = some y3 := hfs 3 _ rfl
      have g4 : DataW.trod enc Try.prog W 0 (fun _ => true) true n 22 (([c0, c1, c2, c3, c4].drop 4).take (Try.prog.cellsOf 22)) = some y4 := hfs 4 _ rfl
      rw [k3] at g0 g1 g2 g3
      rw [k25] at g4
      simp only [List.drop_zero, List.drop_succ_cons, List.take_succ_cons, List.take_zero] at g0 g1 g2 g3 g4
      obtain ⟨kd, e0, _, w0⟩ := DataW.trod_int Try.underlying3 g0
      obtain ⟨ix, e1, _, w1⟩ := DataW.trod_int Try.underlying3 g1
      obtain ⟨ep, e2, _, w2⟩ := DataW.trod_int Try.underlying3 g2
      obtain ⟨sq, e3, _, w3⟩ := DataW.trod_int Try.underlying3 g3
      simp only [List.cons.injEq, and_true] at e0 e1 e2 e3
      subst e0 e1 e2 e3
      rcases open_ints Try.underlying22 Try.underlying5 (by kernel_rfl) g4 with ⟨hcs, _⟩ | ⟨x, len, cap, zs, hcs, _, hl, hm, hz, _, hcell, hwz⟩
      · simp only [List.cons.injEq, and_true] at hcs
        subst hcs
        exact ⟨kd, ix, ep, sq, none, 0, 0, _, rfl, bounds_i64 w0, bounds_i64 w1, bounds_i64 w2, bounds_i64 w3, inFrame_nil W⟩
      · simp only [List.cons.injEq, and_true] at hcs
        subst hcs
        obtain ⟨sb, hsb⟩ := inFrame_row W x len cap zs (by have hz2 : zs.length = cap := (by simpa using hz); omega) hcell
        exact ⟨kd, ix, ep, sq, some x, len, cap, sb, rfl, bounds_i64 w0, bounds_i64 w1, bounds_i64 w2, bounds_i64 w3, hsb⟩

set_option maxRecDepth 100000 in
theorem lifted (os : Os) (started : os.Started) (H : Type) (enc : TypeId × Value → H) :
    ReturnsInHanded {} Try.checked os 4 .any (Rows.veiledSpec.pre6 enc Try.prog Try.f4 Rows.veiledRow.domain false) (Rows.veiledSpec.post enc Try.prog Try.f4 false true false false) := by
  refine returnsInHanded_of_change (C := Try.checked) own started (by kernel_rfl) Try.func4
    (ChangeSpec.witness6 (enc := enc) (C := Try.checked) false ⟨#[], #[.int .i64 0, .agg #[.int .i64 0, .int .i64 0, .int .i64 0, .int .i64 0, .slice none 0 0], .string ByteArray.empty], []⟩ 8 (by kernel_rfl) (by kernel_rfl) (by kernel_rfl) (by kernel_rfl)) ?_
  intro W base args ds gs before hval0 hW hcnd _
  have hval : ∀ (j : Nat) t v, Try.f4.params[j]? = some t → args[j]? = some v → Value.okWide Try.prog W .any base t v := hval0
  have hW' := hW
  obtain ⟨p, q, hA0, hV, rfl, hfz, hnd⟩ := hW
  have hA : DataW.TrodAll enc Try.prog W 0 (fun _ => true) true Try.f4.params.toList args.toList ds p := hA0
  rw [Try.params4] at hA hval
  obtain ⟨v0, vs0, d0, ds0, p0, q0, hargs, rfl, rfl, h0, r0⟩ := trodAll_cons hA
  obtain ⟨v1, vs1, d1, ds1, p1, q1, rfl, rfl, rfl, h1, r1⟩ := trodAll_cons r0
  obtain ⟨v2, vs2, d2, ds2, p2, q2, rfl, rfl, rfl, h2, r2⟩ := trodAll_cons r1
  obtain ⟨rfl, rfl, rfl⟩ := trodAll_nil r2
  obtain rfl : args = #[v0, v1, v2] := by cases args; simp_all
  obtain ⟨rfl, rfl⟩ := trodVars_none hV
  obtain ⟨a0, rfl, rfl, rfl, w0⟩ := open_int Try.underlying3 (hval 0 3 v0 rfl rfl) h0
  have k1 := h1
  have lt1 : ∀ x ∈ p1, x.block < W.heap.size := by obtain ⟨m, hm⟩ := k1; exact DataW.trod_lt m _ _ _ hm
  obtain ⟨kd, ix, ep, sq, a, len, cap, sb, rfl, i0, i1, i2, i3, hin⟩ := open_frame (hval 1 24 v1 rfl rfl) h1
  obtain ⟨so, rfl, rfl, rfl, ws⟩ := open_string Try.underlying9 (hval 2 9 v2 rfl rfl) h2
  clear hA0 hval0
  refine (veiled_walk a0 kd ix ep sq a len cap sb so W (bounds_i64 w0) i0 i1 i2 i3 hin).mono fun e W' ⟨he, bel⟩ => ?_
  subst he
  exact ⟨_, rfl, _, _, _, [], _, [], hW', trodAll_mk1 (shut_bool Try.underlying4 _), (trodAll_cons_mk (shut_int Try.underlying3 w0) (trodAll_cons_mk (Below.trod laidOut (by kernel_rfl) (of_decide_eq_true (by kernel_rfl)) k1 bel lt1) (trodAll_cons_mk (shut_string Try.underlying9 ws) trodAll_mk0))), rfl, bel.frame _, fun h => by cases h⟩

theorem over : Rows.veiledRow.holds Try.pinned (OpenSpec.ofChange Rows.veiledSpec) :=
  OpenClaim.holds_of_wide 4 Try.f4 rfl rfl rfl rfl rfl rfl rfl ⟨rfl, rfl, rfl, rfl, rfl⟩ rfl rfl rfl rfl rfl (by kernel_rfl) Try.func4 (by kernel_rfl)
    (of_decide_eq_true (by kernel_rfl)) (by unfold Func.isWrapper; first | (rw [if_pos (by decide +kernel)]; kernel_rfl) | (rw [if_neg (by decide +kernel)]; exact ⟨rfl, rfl⟩))
    (fun os started H enc _ => lifted os started H enc)

theorem veiled_holds : Rows.VeiledSaid := over
#print axioms veiled_holds
end Go.Proofs.Ytloaefcgcniacaa
