import Derived.Test.YtloaefcgcniacaaGreatDoorDA1
import Derived.Deep.RegionHeld3
namespace Go.Proofs.YtloaefcgcniacaaGreatDoor
open Go.RowKit
set_option linter.unusedVariables false

/-- A list of bytes as a value: nil, or a block of its own with no spare room. -/
def BytesV (w : World) (v : Value) (l : List Nat) : Prop := (v = .slice none 0 0 ∧ l = []) ∨ ∃ g, v = .slice (some ⟨g, 0, none⟩) l.length l.length ∧ Blk w g l
theorem BytesV.form {w : World} {v : Value} {l : List Nat} (h : BytesV w v l) : ∃ p, v = .slice p l.length l.length ∧ Rds w p l.length l := by
  rcases h with ⟨rfl, rfl⟩ | ⟨g, rfl, hB⟩
  · exact ⟨none, rfl, rfl, fun h => absurd h (by simp)⟩
  · exact ⟨_, rfl, rfl, fun _ => ⟨g, 0, rfl, hB.lt, hB.rd⟩⟩
theorem BytesV.below {w w' : World} {v : Value} {l : List Nat} (h : BytesV w v l) (hb : Below w.heap.size w w') : BytesV w' v l := by
  rcases h with h | ⟨g, h1, h2⟩
  · exact .inl h
  · exact .inr ⟨g, h1, h2.below hb h2.lt⟩

/-- S holds no block of bytes. -/
def NoB (w : World) (S : Nat → Prop) : Prop := ∀ k, S k → ∀ cur fz, w.heap[k]? ≠ some (Obj.cells cur 5 fz)
theorem Blk.chg {w w' : World} {S : Nat → Prop} {g : Nat} {l : List Nat} (h : Blk w g l) (hc : Chg w w' S) (hS : NoB w S) : Blk w' g l := (hc.block g h.lt (fun hs => hS g hs _ _ h)).trans h
theorem BytesV.chg {w w' : World} {S : Nat → Prop} {v : Value} {l : List Nat} (h : BytesV w v l) (hc : Chg w w' S) (hS : NoB w S) : BytesV w' v l := by
  rcases h with h | ⟨g, h1, h2⟩
  · exact .inl h
  · exact .inr ⟨g, h1, h2.chg hc hS⟩

set_option maxHeartbeats 1000000 in
theorem hPower (x g : Nat) (sl lf ca wr cn n : Int) (zs bd lg : Value) (w : World) (hx : HdAt w x g) (h : StAt w g sl lf ca wr zs cn bd lg) :
    Calls Tryz.prog 33 #[.pointer (some ⟨x, 0, none⟩), .int .i64 n] w fun e w' => e = .returned (.tuple #[]) ∧ StAt w' g sl n ca wr zs cn bd lg ∧ Chg w w' (fun k => k = g) := by
  obtain ⟨c0, c1, c2, c3, c4, c5, c6, c7, cf⟩ := h.cells
  have k0 := hx.cell0
  have H := (show Hid _ from h)
  clear h hx
  go_enter Tryz.func33, Tryz.ntmps33
  go_wp2
  go_end0
  refine ⟨rfl, ?_, Chg.of_only ((Only.refl w g).set 1 _)⟩
  have := Cel.set H.out 1 (.int .i64 n)
  simpa [StAt] using this

set_option maxHeartbeats 1000000 in
theorem hAnchor (x g : Nat) (sl lf ca wr cn : Int) (zs bd lg : Value) (l : List Nat) (w : World) (hx : HdAt w x g) (h : StAt w g sl lf ca wr zs cn bd lg) (hB : BytesV w bd l) (hl : l.length ≤ 2000000) :
    Calls Tryz.prog 65 #[.pointer (some ⟨x, 0, none⟩)] w fun e w' => ∃ g', e = .returned (.agg #[.int .i64 cn, .slice (some ⟨g', 0, none⟩) l.length l.length]) ∧ Blk w' g' l ∧ w.heap.size ≤ g' ∧ Below w.heap.size w w' := by
  obtain ⟨p, rfl, hr⟩ := hB.form
  have HL := (show Hid _ from hl)
  clear hl hB
  go_enter Tryz.func65, Tryz.ntmps65
  go_wp2_with fail
  have hbW : Below w.heap.size w (w.alloc (Obj.cells #[Value.int IntKind.i64 0, Value.slice none 0 0] 91)) := (Below.refl _ _).alloc (Nat.le_refl _) _
  have hcel : Cel (w.alloc (Obj.cells #[Value.int IntKind.i64 0, Value.slice none 0 0] 91)) w.heap.size 91 #[Value.int IntKind.i64 0, Value.slice none 0 0] := Cel.new w _ _
  generalize w.alloc (Obj.cells #[Value.int IntKind.i64 0, Value.slice none 0 0] 91) = V at *
  have hS : StAt V g sl lf ca wr zs cn (.slice p l.length l.length) lg := Cel.below h hbW (Cel.lt h)
  have hX : HdAt V x g := Cel.below hx hbW (Cel.lt hx)
  have hgx := Cel.lt hx
  have hgg := Cel.lt h
  have hVz := hcel.lt
  obtain ⟨c0, c1, c2, c3, c4, c5, c6, c7, cf⟩ := hS.cells
  have k0 := hX.cell0
  have HK : Hid (∀ w1, Below V.drew.heap.size V.drew w1 → HdAt w1 x g ∧ StAt w1 g sl lf ca wr zs cn (.slice p l.length l.length) lg ∧ Cel w1 w.heap.size 91 #[Value.int IntKind.i64 0, Value.slice none 0 0]) := fun w1 hb1 =>
    ⟨Cel.below (w := V.drew) hX hb1 hX.lt, Cel.below (w := V.drew) hS hb1 hS.lt, Cel.below (w := V.drew) hcel hb1 hcel.lt⟩
  have HR : Hid (Rds V.drew p l.length l) := (hr.below hbW).below ((Below.refl _ _).drew)
  clear h hx hr c0 c1 c2 c3 c4 c7 cf hS hX hcel
  go_region_held3 (fun w' => w'.cell? ⟨x, 0, none⟩ = some (.pointer (some ⟨g, 0, none⟩)) ∧ w'.cell? ⟨g, 5, none⟩ = some (.int .i64 cn) ∧ w'.cell? ⟨g, 6, none⟩ = some (.slice p l.length l.length)) (first | (simp [k0, c5, c6]; done) | (simp [z0, z5, z6]; done) | (simp [z0, z5, z6, World.cell?_setCell_far, hne1, hne2]; done))
    (first
      | (go_at_call 107; refine (clone_sl p _ _ l _ HL.out HR.out).mono ?_; rintro e w1 ⟨rfl, hB1, hb1, hz1⟩; have hXw := (HK.out w1 hb1).1; have hSw := (HK.out w1 hb1).2.1; have hCw := (HK.out w1 hb1).2.2; have z0 := hXw.cell0; have z5 := hSw.cells.2.2.2.2.2.1; have z6 := hSw.cells.2.2.2.2.2.2.1; have y0 := hCw.cell 0; have y1 := hCw.cell 1; have yf := hCw.frozen; have hne1 : w.heap.size ≠ x := (by omega); have hne2 : w.heap.size ≠ g := (by omega); simp at y0 y1))
  go_wp2
  have hVd : V.drew.heap.size = V.heap.size := rfl
  have hnv : V.heap.size ≠ w.heap.size := by omega
  refine bodyPost_ret (v := .agg #[.int .i64 cn, .slice (some ⟨V.heap.size, 0, none⟩) l.length l.length]) (by simp [results, Tryz.results65, go_sem, y0, y1]) rfl ⟨V.heap.size, rfl, ?_, by omega, ?_⟩
  · exact ((show Blk w1 V.heap.size l from hB1).other _ _ hnv).other _ _ hnv
  · exact ((hbW.trans (((Below.refl V.heap.size V).drew.trans hb1).mono (by omega))).setCell (by simp) _).setCell (by simp) _

set_option maxHeartbeats 1000000 in
theorem hBind (x g : Nat) (sl lf ca wr cn n : Int) (zs bd lg v : Value) (l : List Nat) (w : World) (hx : HdAt w x g) (h : StAt w g sl lf ca wr zs cn bd lg) (hB : BytesV w v l) (hl : l.length ≤ 2000000) :
    Calls Tryz.prog 47 #[.pointer (some ⟨x, 0, none⟩), .agg #[.int .i64 n, v]] w fun e w' => e = .returned (.tuple #[]) ∧ (∃ g', w.heap.size ≤ g' ∧ Blk w' g' l ∧ StAt w' g sl lf ca wr zs n (.slice (some ⟨g', 0, none⟩) l.length l.length) lg) ∧ Chg w w' (fun k => k = g) := by
  obtain ⟨p, rfl, hr⟩ := hB.form
  have HL := (show Hid _ from hl)
  clear hl hB
  go_enter Tryz.func47, Tryz.ntmps47
  go_wp2_with fail
  have hbW : Below w.heap.size w (w.alloc (Obj.cells #[Value.int IntKind.i64 n, Value.slice p l.length l.length] 91)) := (Below.refl _ _).alloc (Nat.le_refl _) _
  have hcel : Cel (w.alloc (Obj.cells #[Value.int IntKind.i64 n, Value.slice p l.length l.length] 91)) w.heap.size 91 #[Value.int IntKind.i64 n, Value.slice p l.length l.length] := Cel.new w _ _
  generalize w.alloc (Obj.cells #[Value.int IntKind.i64 n, Value.slice p l.length l.length] 91) = V at *
  have hS : StAt V g sl lf ca wr zs cn bd lg := Cel.below h hbW (Cel.lt h)
  have hX : HdAt V x g := Cel.below hx hbW (Cel.lt hx)
  have hgx := Cel.lt hx
  have hgg := Cel.lt h
  have hVz := hcel.lt
  have hxg : x ≠ g := fun e => by subst e; unfold HdAt Cel at hX; unfold StAt Cel at hS; rw [hS] at hX; cases hX
  have k0 := hX.cell0
  have b0 := hcel.cell 0
  have b1 := hcel.cell 1
  simp at b0 b1
  have HK : Hid (∀ w1, Below V.drew.heap.size V.drew w1 → HdAt w1 x g ∧ StAt w1 g sl lf ca wr zs cn bd lg ∧ Cel w1 w.heap.size 91 #[Value.int IntKind.i64 n, Value.slice p l.length l.length]) := fun w1 hb1 =>
    ⟨Cel.below (w := V.drew) hX hb1 hX.lt, Cel.below (w := V.drew) hS hb1 hS.lt, Cel.below (w := V.drew) hcel hb1 hcel.lt⟩
  have HR : Hid (Rds V.drew p l.length l) := (hr.below hbW).below ((Below.refl _ _).drew)
  clear h hx hr hS hX hcel
  go_region_held3 (fun w' => w'.cell? ⟨x, 0, none⟩ = some (.pointer (some ⟨g, 0, none⟩)) ∧ w'.cell? ⟨w.heap.size, 0, none⟩ = some (.int .i64 n) ∧ w'.cell? ⟨w.heap.size, 1, none⟩ = some (.slice p l.length l.length)) (first | (simp [k0, b0, b1]; done) | (simp [z0, y0, y1]; done) | (simp [z0, y0, y1, World.cell?_setCell_far, hne1, hne2]; done))
    (first
      | (go_at_call 107; refine (clone_sl p _ _ l _ HL.out HR.out).mono ?_; rintro e w1 ⟨rfl, hB1, hb1, hz1⟩; have hXw := (HK.out w1 hb1).1; have hSw := (HK.out w1 hb1).2.1; have hCw := (HK.out w1 hb1).2.2; have z0 := hXw.cell0; have z5 := hSw.cells.2.2.2.2.2.1; have z6 := hSw.cells.2.2.2.2.2.2.1; have zf := hSw.cells.2.2.2.2.2.2.2.2; have y0 := hCw.cell 0; have y1 := hCw.cell 1; have hne1 : g ≠ x := (by omega); have hne2 : g ≠ w.heap.size := (by omega); simp at y0 y1))
  go_wp2
  go_end0
  have hVd : V.drew.heap.size = V.heap.size := rfl
  have hnv : V.heap.size ≠ g := by omega
  refine ⟨rfl, ⟨V.heap.size, by omega, ?_, ?_⟩, ?_⟩
  · exact ((show Blk w1 V.heap.size l from hB1).other _ _ hnv).other _ _ hnv
  · have := (Cel.set hSw 5 (.int .i64 n)).set 6 (.slice (some ⟨V.heap.size, 0, none⟩) l.length l.length)
    simpa [StAt] using this
  · exact (Chg.of_below (hbW.trans (((Below.refl V.heap.size V).drew.trans hb1).mono (by omega))) (fun k => k = g)).trans (Chg.of_only (((Only.refl _ g).set 5 _).set 6 _)) (fun i hi h => h)
end Go.Proofs.YtloaefcgcniacaaGreatDoor

namespace Go.Proofs.YtloaefcgcniacaaGreatDoor
open Go.RowKit
set_option linter.unusedVariables false

theorem st_dk_ne {w : World} {x g : Nat} {sl lf ca wr cn : Int} {zs bd lg : Value} (hx : DkAt w x g) (h : StAt w g sl lf ca wr zs cn bd lg) : x ≠ g := fun e => by
  subst e
  unfold DkAt Cel at hx
  unfold StAt Cel at h
  rw [h] at hx
  cases hx

set_option maxHeartbeats 1000000 in
theorem dAnchored_off (x g : Nat) (sl ca wr cn : Int) (zs bd lg : Value) (w : World) (hx : DkAt w x g) (h : StAt w g sl 0 ca wr zs cn bd lg) :
    Calls Tryz.prog 125 #[.pointer (some ⟨x, 0, none⟩)] w fun e w' => e = .returned (.tuple #[.int .i64 0, .slice none 0 0, .bool false]) ∧ Below w.heap.size w w' := by
  have k0 := hx.cell0
  have H := (show Hid _ from h)
  clear h hx
  go_enter Tryz.func125, Tryz.ntmps125
  go_wp2_with (go_at_call 150; refine (goes_off g sl ca wr cn zs bd lg _ H.out).mono ?_; rintro e w' ⟨rfl, rfl⟩)
  exact bodyPost_ret (v := .tuple #[.int .i64 0, .slice none 0 0, .bool false]) (by simp [results, Tryz.results125, go_sem]) rfl ⟨rfl, Below.refl _ _⟩

theorem NoB.state {w : World} {g : Nat} {sl lf ca wr cn : Int} {zs bd lg : Value} (h : StAt w g sl lf ca wr zs cn bd lg) : NoB w (fun k => k = g) := fun k hk cur fz e => by
  subst hk
  unfold StAt Cel at h
  rw [h] at e
  cases e

set_option maxHeartbeats 1000000 in
theorem dAnchored_on (x g : Nat) (sl lf ca wr cn : Int) (zs bd lg : Value) (l : List Nat) (w : World) (hx : DkAt w x g) (h : StAt w g sl lf ca wr zs cn bd lg) (hB : BytesV w bd l) (hl : l.length ≤ 2000000) (hlf : lf ≠ 0) (hf : fits lf) (hca : small ca) :
    Calls Tryz.prog 125 #[.pointer (some ⟨x, 0, none⟩)] w fun e w' => ∃ g', e = .returned (.tuple #[.int .i64 cn, .slice (some ⟨g', 0, none⟩) l.length l.length, .bool true]) ∧ Blk w' g' l ∧ w.heap.size ≤ g' ∧ StAt w' g sl (less lf) (ca + 1) wr zs cn bd lg ∧ Chg w w' (fun k => k = g) := by
  have k0 := hx.cell0
  have H := (show Hid _ from h)
  have HB := (show Hid _ from hB)
  have HL := (show Hid _ from hl)
  have HF := (show Hid _ from hf)
  have HC := (show Hid _ from hca)
  have HX := (show Hid _ from hx)
  have hxg := st_dk_ne hx h
  clear h hx hB hl hf hca
  go_enter Tryz.func125, Tryz.ntmps125
  go_wp2_with fail
  refine (goes_on g sl lf ca wr cn zs bd lg _ H.out hlf HF.out HC.out).mono ?_
  rintro e w1 ⟨rfl, hS1, ho1⟩
  have hX1 : DkAt w1 x g := HX.out.only ho1 hxg
  have hB1 : BytesV w1 bd l := BytesV.chg HB.out (Chg.of_only ho1) (NoB.state H.out)
  obtain ⟨p, rfl, hr1⟩ := hB1.form
  have k1 := hX1.cell0
  obtain ⟨c0, c1, c2, c3, c4, c5, c6, c7, cf⟩ := hS1.cells
  have HK : Hid (∀ w2, Below w1.drew.heap.size w1.drew w2 → StAt w2 g sl (less lf) (ca + 1) wr zs cn (.slice p l.length l.length) lg) := fun w2 hb2 => Cel.below (w := w1.drew) hS1 hb2 hS1.lt
  have HR : Hid (Rds w1.drew p l.length l) := hr1.below ((Below.refl _ _).drew)
  have HO := (show Hid _ from ho1)
  clear c0 c1 c2 c3 c4 c7 cf hS1 hr1 hB1 hX1 ho1 H HB HX
  go_wp2_with fail
  go_region_held3 (fun w' => w'.cell? ⟨g, 5, none⟩ = some (.int .i64 cn) ∧ w'.cell? ⟨g, 6, none⟩ = some (.slice p l.length l.length)) (first | (simp [c5, c6]; done) | (simp [z5, z6]; done))
    (first
      | (go_at_call 107; refine (clone_sl p _ _ l _ HL.out HR.out).mono ?_; rintro e w2 ⟨rfl, hB2, hb2, hz2⟩; have hSw := HK.out w2 hb2; have z5 := hSw.cells.2.2.2.2.2.1; have z6 := hSw.cells.2.2.2.2.2.2.1))
  go_wp2
  have hVd : w1.drew.heap.size = w1.heap.size := rfl
  refine bodyPost_ret (v := .tuple #[.int .i64 cn, .slice (some ⟨w1.heap.size, 0, none⟩) l.length l.length, .bool true]) (by simp [results, Tryz.results125, go_sem]) rfl ⟨w1.heap.size, rfl, hB2, by have := HO.out.2; omega, hSw, ?_⟩
  exact (Chg.of_only HO.out).trans (Chg.of_below ((Below.refl w1.heap.size w1).drew.trans hb2) (fun k => k = g)) (fun i hi h => h)
end Go.Proofs.YtloaefcgcniacaaGreatDoor

namespace Go.Proofs.YtloaefcgcniacaaGreatDoor
open Go.RowKit
set_option linter.unusedVariables false

/-- Bytes that come in, out of a block of bytes. -/
def ByV (w : World) (p : Option Addr) (l : List Nat) : Prop := 0 < l.length → ∃ gs off cur fz, p = some ⟨gs, off, none⟩ ∧ w.heap[gs]? = some (Obj.cells cur 5 fz) ∧ ∀ i, i < l.length → cur[off + i]? = some (.int .u8 ((l[i]?.getD 0 : Nat) : Int))
theorem ByV.rds {w : World} {p : Option Addr} {l : List Nat} (h : ByV w p l) : Rds w p l.length l := ⟨rfl, fun h0 => by
  obtain ⟨gs, off, cur, fz, h1, h2, h3⟩ := h h0
  refine ⟨gs, off, h1, (Array.getElem?_eq_some_iff.1 h2).1, fun i hi => ?_⟩
  simp only [World.cell?, h2]
  exact h3 i hi⟩
theorem ByV.chg {w w' : World} {S : Nat → Prop} {p : Option Addr} {l : List Nat} (h : ByV w p l) (hc : Chg w w' S) (hS : NoB w S) : ByV w' p l := fun h0 => by
  obtain ⟨gs, off, cur, fz, h1, h2, h3⟩ := h h0
  exact ⟨gs, off, cur, fz, h1, (hc.block gs (Array.getElem?_eq_some_iff.1 h2).1 (fun hs => hS gs hs _ _ h2)).trans h2, h3⟩

set_option maxHeartbeats 1000000 in
theorem dAdvance_off (x g : Nat) (sl ca wr cn : Int) (zs bd lg : Value) (p : Option Addr) (n c : Nat) (w : World) (hx : DkAt w x g) (h : StAt w g sl 0 ca wr zs cn bd lg) :
    Calls Tryz.prog 146 #[.pointer (some ⟨x, 0, none⟩), .slice p n c] w fun e w' => e = .returned (.bool false) ∧ Below w.heap.size w w' := by
  have k0 := hx.cell0
  have H := (show Hid _ from h)
  clear h hx
  go_enter Tryz.func146, Tryz.ntmps146
  go_wp2_with (go_at_call 150; refine (goes_off g sl ca wr cn zs bd lg _ H.out).mono ?_; rintro e w' ⟨rfl, rfl⟩)
  go_ret
  exact ⟨rfl, Below.refl _ _⟩

set_option maxRecDepth 20000 in
set_option maxHeartbeats 2000000 in
theorem dAdvance_on (x g : Nat) (sl lf ca wr cn : Int) (zs bd lg : Value) (l : List Nat) (p : Option Addr) (c : Nat) (w : World) (hx : DkAt w x g) (h : StAt w g sl lf ca wr zs cn bd lg) (hr : ByV w p l) (hl : l.length ≤ 2000000) (hlf : lf ≠ 0) (hf : fits lf) (hca : small ca) (hwr : small wr) (hcn : 0 ≤ cn ∧ cn ≤ 4294967295) :
    Calls Tryz.prog 146 #[.pointer (some ⟨x, 0, none⟩), .slice p l.length c] w fun e w' => e = .returned (.bool (decide (cn < 4294967295 ∧ (l.length : Int) ≤ 32))) ∧ Chg w w' (fun k => k = g) ∧
      (¬ (cn < 4294967295 ∧ (l.length : Int) ≤ 32) → StAt w' g sl (less lf) (ca + 1) (wr + 1) zs cn bd lg) ∧
      (cn < 4294967295 ∧ (l.length : Int) ≤ 32 → ∃ g', w.heap.size ≤ g' ∧ Blk w' g' l ∧ StAt w' g sl (less lf) (ca + 1) wr zs (cn + 1) (.slice (some ⟨g', 0, none⟩) l.length l.length) lg) := by
  have k0 := hx.cell0
  have H := (show Hid _ from h)
  have HR := (show Hid _ from hr)
  have HL := (show Hid _ from hl)
  have HF := (show Hid _ from hf)
  have HC := (show Hid _ from hca)
  have HW := (show Hid _ from hwr)
  have HX := (show Hid _ from hx)
  have hxg := st_dk_ne hx h
  obtain ⟨hn1, hn2⟩ := hcn
  clear h hx hr hl hf hca hwr
  go_enter Tryz.func146, Tryz.ntmps146
  go_wp2_with fail
  refine (goes_on g sl lf ca wr cn zs bd lg _ H.out hlf HF.out HC.out).mono ?_
  rintro e w1 ⟨rfl, hS1, ho1⟩
  have hc1 := Chg.of_only ho1
  have HR1 : Hid (ByV w1 p l) := ByV.chg HR.out hc1 (NoB.state H.out)
  obtain ⟨c0, c1, c2, c3, c4, c5, c6, c7, cf⟩ := hS1.cells
  have hz1 := ho1.2
  clear HR ho1
  by_cases q1 : cn < 4294967295
  · by_cases q2 : (l.length : Int) ≤ 32
    · have q2d : decide ((l.length : Int) ≤ 32) = true := decide_eq_true q2
      have HQ : Hid (cn < 4294967295 ∧ (l.length : Int) ≤ 32) := ⟨q1, q2⟩
      go_wp2_with fail
      refine (may_yes g w1).mono ?_
      rintro e w' ⟨rfl, hw'⟩
      have hw2 := hw'.symm
      clear hw'
      subst hw2
      have HK : Hid (∀ w2, Below w1.drew.heap.size w1.drew w2 → StAt w2 g sl (less lf) (ca + 1) wr zs cn bd lg) := fun w2 hb2 => Cel.below (w := w1.drew) hS1 hb2 hS1.lt
      have HR2 : Hid (Rds w1.drew p l.length l) := (ByV.rds HR1.out).below ((Below.refl _ _).drew)
      have hgz := hS1.lt
      clear hS1 c0 c1 c2 c3 c4 c6 c7 q1 q2 q2d
      go_wp2_with fail
      go_region_with (first
        | (go_at_call 107; refine (clone_sl p _ _ l _ HL.out HR2.out).mono ?_; rintro e w2 ⟨rfl, hB2, hb2, hz2⟩; have hSw := HK.out w2 hb2; obtain ⟨z0, z1, z2, z3, z4, z5, z6, z7, zf⟩ := hSw.cells))
      all_goals
        have hz1' : w1.drew.heap.size = w.heap.size := hz1
        go_wp2
        go_ret
        have hwp : IntKind.i64.wrap (cn + 1) = cn + 1 := by rw [show (cn + 1 : Int) = (((cn + 1).toNat : Nat) : Int) by omega]; exact wrap_small _ (by have := HQ.out.1; omega)
        have hnv : w.heap.size ≠ g := by omega
        refine ⟨ret_bool (decide_eq_true HQ.out).symm, ?_, (fun h => absurd HQ.out h), fun _ => ⟨w.heap.size, Nat.le_refl _, ?_, ?_⟩⟩
        · exact (hc1.trans (Chg.of_below ((Below.refl w1.heap.size w1).drew.trans (hb2.mono (by omega))) (fun k => k = g)) (fun i hi h => h)).trans (Chg.of_only (((Only.refl _ g).set 5 _).set 6 _)) (fun i hi h => h)
        · have hB2' : Blk w2 w.heap.size l := by rw [← hz1']; exact hB2
          exact (hB2'.other _ _ hnv).other _ _ hnv
        · have := (Cel.set hSw 5 (.int .i64 (cn + 1))).set 6 (.slice (some ⟨w.heap.size, 0, none⟩) l.length l.length)
          rw [hwp]
          simpa [StAt] using this
    · have HQ : Hid (¬ (cn < 4294967295 ∧ (l.length : Int) ≤ 32)) := fun h => q2 h.2
      have q2d : decide ((l.length : Int) ≤ 32) = false := decide_eq_false q2
      clear q2
      go_wp2_with fail
      refine (may_no g sl (less lf) (ca + 1) wr cn zs bd lg w1 hS1 HW.out).mono ?_
      rintro e w2 ⟨rfl, hS2, ho2⟩
      clear c0 c1 c2 c3 c4 c5 c6 c7 cf
      go_wp2
      go_ret
      exact ⟨ret_bool (decide_eq_false HQ.out).symm, hc1.trans (Chg.of_only ho2) (fun i hi h => h), fun _ => hS2, fun h => absurd h HQ.out⟩
  · have HQ : Hid (¬ (cn < 4294967295 ∧ (l.length : Int) ≤ 32)) := fun h => q1 h.1
    go_wp2_with fail
    refine (may_no g sl (less lf) (ca + 1) wr cn zs bd lg w1 hS1 HW.out).mono ?_
    rintro e w2 ⟨rfl, hS2, ho2⟩
    clear c0 c1 c2 c3 c4 c5 c6 c7 cf
    go_wp2
    go_ret
    exact ⟨ret_bool (decide_eq_false HQ.out).symm, hc1.trans (Chg.of_only ho2) (fun i hi h => h), fun _ => hS2, fun h => absurd h HQ.out⟩
end Go.Proofs.YtloaefcgcniacaaGreatDoor

namespace Go.Proofs.YtloaefcgcniacaaGreatDoor
open Go.RowKit
set_option linter.unusedVariables false

theorem Cel.ne_of {w : World} {g k : Nat} {t t' : TypeId} {cs cs' : Array Value} (h : Cel w g t cs) (h' : Cel w k t' cs') (ht : t ≠ t') : g ≠ k := fun e => by
  subst e
  unfold Cel at h h'
  rw [h] at h'
  injection h' with h'
  injection h' with _ h2
  exact ht h2

def zcells (zs : List (Value × Int)) : List Value := zs.flatMap fun z => [z.1, .int .i64 z.2]
theorem zcells_length (zs : List (Value × Int)) : (zcells zs).length = zs.length * 2 := by
  induction zs with
  | nil => rfl
  | cons c r ih => simp only [zcells, List.flatMap_cons, List.length_append, List.length_cons, List.length_nil] at *; omega
theorem zcells_at (zs : List (Value × Int)) (i : Nat) (c : Value × Int) (h : zs[i]? = some c) : (zcells zs)[i * 2]? = some c.1 ∧ (zcells zs)[i * 2 + 1]? = some (.int .i64 c.2) := by
  induction zs generalizing i with
  | nil => cases h
  | cons d r ih =>
    cases i with
    | zero =>
      simp only [List.getElem?_cons_zero, Option.some.injEq] at h
      subst h
      exact ⟨rfl, rfl⟩
    | succ m =>
      simp only [List.getElem?_cons_succ] at h
      have := ih m h
      simp only [zcells, List.flatMap_cons] at *
      rw [List.getElem?_append_right (by simp; omega), List.getElem?_append_right (by simp; omega)]
      have e1 : (m + 1) * 2 - [d.1, Value.int IntKind.i64 d.2].length = m * 2 := by simp; omega
      have e2 : (m + 1) * 2 + 1 - [d.1, Value.int IntKind.i64 d.2].length = m * 2 + 1 := by simp; omega
      rw [e1, e2]
      exact this
theorem zcells_set0 (zs : List (Value × Int)) (i : Nat) (c : Value × Int) (h : zs[i]? = some c) (v : Value) : (zcells zs).toArray.setIfInBounds (i * 2) v = (zcells (zs.set i (v, c.2))).toArray := by
  have hi : i < zs.length := (List.getElem?_eq_some_iff.1 h).1
  apply Array.toList_inj.1
  rw [Array.toList_setIfInBounds]
  induction zs generalizing i with
  | nil => cases h
  | cons d r ih =>
    cases i with
    | zero =>
      simp only [List.getElem?_cons_zero, Option.some.injEq] at h
      subst h
      rfl
    | succ m =>
      simp only [List.getElem?_cons_succ] at h
      have := ih m h (by simpa using hi)
      simp only [List.set_cons_succ, zcells, List.flatMap_cons] at *
      have e1 : (m + 1) * 2 = m * 2 + 1 + 1 := by omega
      rw [e1]
      simp only [List.cons_append, List.nil_append, List.set_cons_succ]
      rw [this]
theorem zcells_set1 (zs : List (Value × Int)) (i : Nat) (c : Value × Int) (h : zs[i]? = some c) (k : Int) : (zcells zs).toArray.setIfInBounds (i * 2 + 1) (.int .i64 k) = (zcells (zs.set i (c.1, k))).toArray := by
  have hi : i < zs.length := (List.getElem?_eq_some_iff.1 h).1
  apply Array.toList_inj.1
  rw [Array.toList_setIfInBounds]
  induction zs generalizing i with
  | nil => cases h
  | cons d r ih =>
    cases i with
    | zero =>
      simp only [List.getElem?_cons_zero, Option.some.injEq] at h
      subst h
      rfl
    | succ m =>
      simp only [List.getElem?_cons_succ] at h
      have := ih m h (by simpa using hi)
      simp only [List.set_cons_succ, zcells, List.flatMap_cons] at *
      have e1 : (m + 1) * 2 + 1 = m * 2 + 1 + 1 + 1 := by omega
      rw [e1]
      simp only [List.cons_append, List.nil_append, List.set_cons_succ]
      rw [this]

/-- The zones, in a row of their own. -/
def ZAt (w : World) (gz : Nat) (zs : List (Value × Int)) : Prop := Cel w gz 111 (zcells zs).toArray
theorem ZAt.cells {w : World} {gz : Nat} {zs : List (Value × Int)} (h : ZAt w gz zs) (i : Nat) (c : Value × Int) (hi : zs[i]? = some c) :
    w.cell? ⟨gz, i * 2, none⟩ = some c.1 ∧ w.cell? ⟨gz, i * 2 + 1, none⟩ = some (.int .i64 c.2) ∧ (∀ j, w.frozen? ⟨gz, j, none⟩ = false) := by
  have := zcells_at zs i c hi
  unfold ZAt at h
  exact ⟨by rw [h.cell]; simpa using this.1, by rw [h.cell]; simpa using this.2, h.frozen⟩

/-- Lists of bytes, in a row of their own. -/
def RowB (w : World) (base : Nat) (v : Value) (ls : List (List Nat)) : Prop := ∃ xs : List Value, w.ownsRow base 66 1 v ls.length xs ∧ ∀ (i : Nat) (l : List Nat), ls[i]? = some l → ∃ g, xs[i]? = some (Value.slice (some ⟨g, 0, none⟩) l.length l.length) ∧ base ≤ g ∧ Blk w g l
theorem RowB.form {w : World} {base : Nat} {v : Value} {ls : List (List Nat)} (h : RowB w base v ls) : ∃ p cap, v = .slice p ls.length cap := by
  obtain ⟨xs, h1, _⟩ := h
  rcases h1.2 with ⟨hv, h0⟩ | ⟨g, cap, cur, hv, _⟩
  · exact ⟨none, 0, by rw [hv, h0]⟩
  · exact ⟨_, cap, hv⟩
theorem RowB.chg {w w' : World} {S : Nat → Prop} {base : Nat} {v : Value} {ls : List (List Nat)} (h : RowB w base v ls) (hc : Chg w w' S) (hS : NoB w S) (hv : ∀ k, v.ownBlock = some k → ¬ S k) : RowB w' base v ls := by
  obtain ⟨xs, h1, h2⟩ := h
  exact ⟨xs, ownsRow_chg h1 hc hv, fun i l hi => by obtain ⟨g, g1, g2, g3⟩ := h2 i l hi; exact ⟨g, g1, g2, g3.chg hc hS⟩⟩
theorem RowB.cell {w : World} {base : Nat} {p : Option Addr} {n cap : Nat} {ls : List (List Nat)} (h : RowB w base (.slice p n cap) ls) (i : Nat) (l : List Nat) (hi : ls[i]? = some l) :
    ∃ gr g, p = some ⟨gr, 0, none⟩ ∧ gr < w.heap.size ∧ w.cell? ⟨gr, i, none⟩ = some (.slice (some ⟨g, 0, none⟩) l.length l.length) ∧ base ≤ g ∧ Blk w g l := by
  obtain ⟨xs, h1, h2⟩ := h
  obtain ⟨g, g1, g2, g3⟩ := h2 i l hi
  have hlt := (List.getElem?_eq_some_iff.1 hi).1
  rcases h1.2 with ⟨hv, h0⟩ | ⟨gr, cap', cur, hv, hb, hgr, _, _, _, htake⟩
  · omega
  · cases hv
    refine ⟨gr, g, rfl, (Array.getElem?_eq_some_iff.1 hgr).1, ?_, g2, g3⟩
    rw [← htake, List.getElem?_take] at g1
    split at g1
    · simp only [World.cell?, hgr]
      simpa using g1
    · cases g1
end Go.Proofs.YtloaefcgcniacaaGreatDoor

namespace Go.Proofs.YtloaefcgcniacaaGreatDoor
open Go.RowKit
set_option linter.unusedVariables false

theorem st_z_ne {w : World} {g gz : Nat} {sl lf ca wr cn : Int} {zv bd lg : Value} {zs : List (Value × Int)} (h : StAt w g sl lf ca wr zv cn bd lg) (hz : ZAt w gz zs) : g ≠ gz := Cel.ne_of h hz (by decide)

set_option maxHeartbeats 1000000 in
theorem dSize_off (x g : Nat) (sl ca wr cn z : Int) (zs bd lg : Value) (w : World) (hx : DkAt w x g) (h : StAt w g sl 0 ca wr zs cn bd lg) :
    Calls Tryz.prog 148 #[.pointer (some ⟨x, 0, none⟩), .int .i64 z] w fun e w' => e = .returned (.tuple #[.int .i64 0, .bool false]) ∧ Below w.heap.size w w' := by
  have k0 := hx.cell0
  have H := (show Hid _ from h)
  clear h hx
  go_enter Tryz.func148, Tryz.ntmps148
  go_wp2_with (go_at_call 150; refine (goes_off g sl ca wr cn zs bd lg _ H.out).mono ?_; rintro e w' ⟨rfl, rfl⟩)
  go_ret2
  exact ⟨rfl, Below.refl _ _⟩

set_option maxRecDepth 20000 in
set_option maxHeartbeats 2000000 in
theorem dSize_on (x g gz : Nat) (sl lf ca wr cn z : Int) (bd lg : Value) (zs : List (Value × Int)) (w : World) (hx : DkAt w x g) (h : StAt w g sl lf ca wr (.slice (some ⟨gz, 0, none⟩) zs.length zs.length) cn bd lg) (hz : ZAt w gz zs) (hlf : lf ≠ 0) (hf : fits lf) (hca : small ca) (hwr : small wr) (hzv : ∀ (i : Nat) (c : Value × Int), zs[i]? = some c → ∃ p n cap, c.1 = .slice p n cap) :
    Calls Tryz.prog 148 #[.pointer (some ⟨x, 0, none⟩), .int .i64 z] w fun e w' => Chg w w' (fun k => k = g) ∧
      ((¬ (0 ≤ z ∧ z < zs.length) ∧ e = .returned (.tuple #[.int .i64 0, .bool false]) ∧ StAt w' g sl (less lf) (ca + 1) (wr + 1) (.slice (some ⟨gz, 0, none⟩) zs.length zs.length) cn bd lg) ∨
       (∃ (i : Nat) (p : Option Addr) (n cap : Nat) (k : Int), z = (i : Int) ∧ zs[i]? = some (.slice p n cap, k) ∧ e = .returned (.tuple #[.int .i64 (n : Int), .bool true]) ∧ StAt w' g sl (less lf) (ca + 1) wr (.slice (some ⟨gz, 0, none⟩) zs.length zs.length) cn bd lg)) := by
  have k0 := hx.cell0
  have H := (show Hid _ from h)
  have HF := (show Hid _ from hf)
  have HC := (show Hid _ from hca)
  have HW := (show Hid _ from hwr)
  have hxg := st_dk_ne hx h
  have hgz := st_z_ne h hz
  clear h hx hf hca hwr
  go_enter Tryz.func148, Tryz.ntmps148
  go_wp2_with fail
  refine (goes_on g sl lf ca wr cn _ bd lg _ H.out hlf HF.out HC.out).mono ?_
  rintro e w1 ⟨rfl, hS1, ho1⟩
  have hc1 := Chg.of_only ho1
  have hz1 : ZAt w1 gz zs := hz.only ho1 hgz.symm
  go_wp2_with fail
  refine (has_any g sl (less lf) (ca + 1) wr cn z _ _ _ bd lg w1 hS1).mono ?_
  rintro e w' ⟨rfl, hw'⟩
  have hw2 := hw'.symm
  clear hw' hz ho1
  subst hw2
  by_cases hh : 0 ≤ z ∧ z < (zs.length : Int)
  · have hhb : hasB z zs.length = true := decide_eq_true hh
    rw [hhb]
    obtain ⟨i, rfl⟩ := Int.eq_ofNat_of_zero_le hh.1
    have hil : i < zs.length := by omega
    have hic : zs[i]? = some zs[i] := List.getElem?_eq_getElem hil
    obtain ⟨p, n, cap, hcv⟩ := hzv i _ hic
    obtain ⟨q0, q1, qf⟩ := hz1.cells i _ hic
    have hlti : (i : Int) < (zs.length : Int) := hh.2
    generalize zs[i] = cc at *
    obtain ⟨cc1, cc2⟩ := cc
    simp only at hcv q0 q1
    subst hcv
    have HIC := (show Hid _ from hic)
    obtain ⟨c0, c1, c2, c3, c4, c5, c6, c7, cf⟩ := hS1.cells
    have HS1 := (show Hid _ from hS1)
    clear hzv hic hz1 hS1 c0 c1 c2 c3 c5 c6 c7 hh hhb q1 qf hil cf
    go_wp2_with (go_at_call 151; refine (may_yes g _).mono ?_; rintro e w'' ⟨rfl, hw''⟩; have hw3 := hw''.symm; clear hw''; subst hw3)
    go_ret2
    exact ⟨hc1, .inr ⟨i, p, n, cap, cc2, rfl, HIC.out, rfl, HS1.out⟩⟩
  · have hhb : hasB z zs.length = false := decide_eq_false hh
    rw [hhb]
    have HH := (show Hid _ from hh)
    clear hh hhb
    go_wp2_with fail
    refine (may_no g sl (less lf) (ca + 1) wr cn _ bd lg w1 hS1 HW.out).mono ?_
    rintro e w2 ⟨rfl, hS2, ho2⟩
    go_wp2
    go_ret2
    exact ⟨hc1.trans (Chg.of_only ho2) (fun i hi h => h), .inl ⟨HH.out, rfl, hS2⟩⟩

set_option maxHeartbeats 1000000 in
theorem dReset_off (x g : Nat) (sl ca wr cn z : Int) (zs bd lg : Value) (w : World) (hx : DkAt w x g) (h : StAt w g sl 0 ca wr zs cn bd lg) :
    Calls Tryz.prog 94 #[.pointer (some ⟨x, 0, none⟩), .int .i64 z] w fun e w' => e = .returned (.bool false) ∧ Below w.heap.size w w' := by
  have k0 := hx.cell0
  have H := (show Hid _ from h)
  clear h hx
  go_enter Tryz.func94, Tryz.ntmps94
  go_wp2_with (go_at_call 150; refine (goes_off g sl ca wr cn zs bd lg _ H.out).mono ?_; rintro e w' ⟨rfl, rfl⟩)
  go_ret
  exact ⟨rfl, Below.refl _ _⟩

set_option maxRecDepth 20000 in
set_option maxHeartbeats 2000000 in
theorem dReset_on (x g gz : Nat) (sl lf ca wr cn z : Int) (bd lg : Value) (zs : List (Value × Int)) (w : World) (hx : DkAt w x g) (h : StAt w g sl lf ca wr (.slice (some ⟨gz, 0, none⟩) zs.length zs.length) cn bd lg) (hz : ZAt w gz zs) (hlf : lf ≠ 0) (hf : fits lf) (hca : small ca) (hwr : small wr) :
    Calls Tryz.prog 94 #[.pointer (some ⟨x, 0, none⟩), .int .i64 z] w fun e w' => Chg w w' (fun k => k = g ∨ k = gz) ∧
      ((¬ (0 ≤ z ∧ z < zs.length) ∧ e = .returned (.bool false) ∧ StAt w' g sl (less lf) (ca + 1) (wr + 1) (.slice (some ⟨gz, 0, none⟩) zs.length zs.length) cn bd lg ∧ ZAt w' gz zs) ∨
       (∃ i : Nat, z = (i : Int) ∧ i < zs.length ∧ e = .returned (.bool true) ∧ StAt w' g sl (less lf) (ca + 1) wr (.slice (some ⟨gz, 0, none⟩) zs.length zs.length) cn bd lg ∧ ZAt w' gz (zs.set i (.slice none 0 0, 0)))) := by
  have k0 := hx.cell0
  have H := (show Hid _ from h)
  have HF := (show Hid _ from hf)
  have HC := (show Hid _ from hca)
  have HW := (show Hid _ from hwr)
  have hxg := st_dk_ne hx h
  have hgz := st_z_ne h hz
  clear h hx hf hca hwr
  go_enter Tryz.func94, Tryz.ntmps94
  go_wp2_with fail
  refine (goes_on g sl lf ca wr cn _ bd lg _ H.out hlf HF.out HC.out).mono ?_
  rintro e w1 ⟨rfl, hS1, ho1⟩
  have hc1 := Chg.of_only ho1
  have hz1 : ZAt w1 gz zs := hz.only ho1 hgz.symm
  go_wp2_with fail
  refine (has_any g sl (less lf) (ca + 1) wr cn z _ _ _ bd lg w1 hS1).mono ?_
  rintro e w' ⟨rfl, hw'⟩
  have hw2 := hw'.symm
  clear hw' hz ho1
  subst hw2
  by_cases hh : 0 ≤ z ∧ z < (zs.length : Int)
  · have hhb : hasB z zs.length = true := decide_eq_true hh
    rw [hhb]
    obtain ⟨i, rfl⟩ := Int.eq_ofNat_of_zero_le hh.1
    have hil : i < zs.length := by omega
    have hic : zs[i]? = some zs[i] := List.getElem?_eq_getElem hil
    obtain ⟨q0, q1, qf⟩ := hz1.cells i _ hic
    have hlti : (i : Int) < (zs.length : Int) := hh.2
    have HZ1 : Hid (ZAt ((w1.setCell ⟨gz, i * 2, none⟩ (.slice none 0 0)).setCell ⟨gz, i * 2 + 1, none⟩ (.int .i64 0)) gz (zs.set i (.slice none 0 0, 0))) := by
      have h1 := Cel.set hz1 (i * 2) (.slice none 0 0)
      rw [zcells_set0 zs i _ hic] at h1
      have h2 := Cel.set h1 (i * 2 + 1) (.int .i64 0)
      rw [zcells_set1 (zs.set i (.slice none 0 0, zs[i].2)) i (.slice none 0 0, zs[i].2) (by simp [hil])] at h2
      rw [List.set_set] at h2
      exact h2
    have HIL := (show Hid _ from hil)
    generalize zs[i] = cc at *
    obtain ⟨c0, c1, c2, c3, c4, c5, c6, c7, cf⟩ := hS1.cells
    have HS1 := (show Hid _ from hS1)
    clear hic hz1 hS1 c0 c1 c2 c3 c5 c6 c7 hh hhb hil cf
    go_wp2_with (go_at_call 151; refine (may_yes g _).mono ?_; rintro e w'' ⟨rfl, hw''⟩; have hw3 := hw''.symm; clear hw''; subst hw3)
    go_ret
    have ho2 : Only w1 ((w1.setCell ⟨gz, i * 2, none⟩ (.slice none 0 0)).setCell ⟨gz, i * 2 + 1, none⟩ (.int .i64 0)) gz := ((Only.refl _ gz).set _ _).set _ _
    exact ⟨(hc1.mono (T := fun k => k = g ∨ k = gz) (fun i hi h => .inl h)).trans (Chg.of_only ho2) (fun i hi h => .inr h), .inr ⟨i, rfl, HIL.out, rfl, Cel.only HS1.out ho2 hgz, HZ1.out⟩⟩
  · have hhb : hasB z zs.length = false := decide_eq_false hh
    rw [hhb]
    have HH := (show Hid _ from hh)
    clear hh hhb
    go_wp2_with fail
    refine (may_no g sl (less lf) (ca + 1) wr cn _ bd lg w1 hS1 HW.out).mono ?_
    rintro e w2 ⟨rfl, hS2, ho2⟩
    go_wp2
    go_ret
    exact ⟨(hc1.trans (Chg.of_only ho2) (fun i hi h => h)).mono (fun i hi h => .inl h), .inl ⟨HH.out, rfl, hS2, Cel.only hz1 ho2 hgz.symm⟩⟩
end Go.Proofs.YtloaefcgcniacaaGreatDoor

namespace Go.Proofs.YtloaefcgcniacaaGreatDoor
open Go.RowKit
set_option linter.unusedVariables false

set_option maxHeartbeats 1000000 in
theorem dRead_off (x g : Nat) (sl ca wr cn z s : Int) (zs bd lg : Value) (w : World) (hx : DkAt w x g) (h : StAt w g sl 0 ca wr zs cn bd lg) :
    Calls Tryz.prog 147 #[.pointer (some ⟨x, 0, none⟩), .int .i64 z, .int .i64 s] w fun e w' => e = .returned (.tuple #[.slice none 0 0, .bool false]) ∧ Below w.heap.size w w' := by
  have k0 := hx.cell0
  have H := (show Hid _ from h)
  clear h hx
  go_enter Tryz.func147, Tryz.ntmps147
  go_wp2_with (go_at_call 150; refine (goes_off g sl ca wr cn zs bd lg _ H.out).mono ?_; rintro e w' ⟨rfl, rfl⟩)
  go_ret2
  exact ⟨rfl, Below.refl _ _⟩

/-- What is in a slot of a zone. -/
def InSlot (zs : List (Value × Int)) (ls : List (List (List Nat))) (z s : Int) (l : List Nat) : Prop := ∃ (i j : Nat) (fs : List (List Nat)), z = (i : Int) ∧ s = (j : Int) ∧ i < zs.length ∧ ls[i]? = some fs ∧ fs[j]? = some l

set_option maxRecDepth 20000 in
set_option maxHeartbeats 2000000 in
theorem dRead_on (base x g gz : Nat) (sl lf ca wr cn z s : Int) (bd lg : Value) (zs : List (Value × Int)) (ls : List (List (List Nat))) (w : World) (hx : DkAt w x g) (h : StAt w g sl lf ca wr (.slice (some ⟨gz, 0, none⟩) zs.length zs.length) cn bd lg) (hz : ZAt w gz zs) (hlf : lf ≠ 0) (hf : fits lf) (hca : small ca) (hwr : small wr)
    (hll : ls.length = zs.length) (hrow : ∀ (i : Nat) (c : Value × Int) (fs : List (List Nat)), zs[i]? = some c → ls[i]? = some fs → RowB w base c.1 fs) (hsz : ∀ (i : Nat) (fs : List (List Nat)), ls[i]? = some fs → ∀ l ∈ fs, l.length ≤ 2000000) :
    Calls Tryz.prog 147 #[.pointer (some ⟨x, 0, none⟩), .int .i64 z, .int .i64 s] w fun e w' => Chg w w' (fun k => k = g) ∧
      (((¬ ∃ l, InSlot zs ls z s l) ∧ e = .returned (.tuple #[.slice none 0 0, .bool false]) ∧ StAt w' g sl (less lf) (ca + 1) (wr + 1) (.slice (some ⟨gz, 0, none⟩) zs.length zs.length) cn bd lg) ∨
       (∃ l, InSlot zs ls z s l ∧ ∃ g', e = .returned (.tuple #[.slice (some ⟨g', 0, none⟩) l.length l.length, .bool true]) ∧ w.heap.size ≤ g' ∧ Blk w' g' l ∧ StAt w' g sl (less lf) (ca + 1) wr (.slice (some ⟨gz, 0, none⟩) zs.length zs.length) cn bd lg)) := by
  have k0 := hx.cell0
  have H := (show Hid _ from h)
  have HF := (show Hid _ from hf)
  have HC := (show Hid _ from hca)
  have HW := (show Hid _ from hwr)
  have hxg := st_dk_ne hx h
  have hgz := st_z_ne h hz
  have hnb := NoB.state h
  clear h hx hf hca hwr
  go_enter Tryz.func147, Tryz.ntmps147
  go_wp2_with fail
  refine (goes_on g sl lf ca wr cn _ bd lg _ H.out hlf HF.out HC.out).mono ?_
  rintro e w1 ⟨rfl, hS1, ho1⟩
  have hc1 := Chg.of_only ho1
  have hz1 : ZAt w1 gz zs := hz.only ho1 hgz.symm
  have hw1z := ho1.2
  go_wp2_with fail
  refine (has_any g sl (less lf) (ca + 1) wr cn z _ _ _ bd lg w1 hS1).mono ?_
  rintro e w' ⟨rfl, hw'⟩
  have hw2 := hw'.symm
  clear hw' hz ho1
  subst hw2
  by_cases hh : 0 ≤ z ∧ z < (zs.length : Int)
  · have hhb : hasB z zs.length = true := decide_eq_true hh
    rw [hhb]
    obtain ⟨i, rfl⟩ := Int.eq_ofNat_of_zero_le hh.1
    have hil : i < zs.length := by omega
    have hic : zs[i]? = some zs[i] := List.getElem?_eq_getElem hil
    have hif : ls[i]? = some ls[i] := List.getElem?_eq_getElem (by omega)
    have hr0 := hrow i _ _ hic hif
    have hr1 : RowB w1 base zs[i].1 ls[i] := hr0.chg hc1 hnb (fun k hk e => by
      subst e
      obtain ⟨xs, h1, _⟩ := hr0
      rcases h1.2 with ⟨hv, _⟩ | ⟨gr, cap, cur, hv, _, hg, _⟩
      · rw [hv] at hk; cases hk
      · rw [hv] at hk
        cases hk
        have := H.out
        unfold Cel at this
        rw [hg] at this
        cases this)
    obtain ⟨q0, q1, qf⟩ := hz1.cells i _ hic
    have hsz' := hsz i _ hif
    have hlti : (i : Int) < (zs.length : Int) := hh.2
    generalize zs[i] = cc at *
    generalize ls[i] = fs at *
    obtain ⟨cc1, cc2⟩ := cc
    simp only at q0 q1 hr1
    obtain ⟨p, cap, rfl⟩ := hr1.form
    obtain ⟨c0, c1, c2, c3, c4, c5, c6, c7, cf⟩ := hS1.cells
    by_cases hs0 : 0 ≤ s
    · by_cases hsl : s < (fs.length : Int)
      · obtain ⟨j, rfl⟩ := Int.eq_ofNat_of_zero_le hs0
        have hjl : j < fs.length := by omega
        have hjf : fs[j]? = some fs[j] := List.getElem?_eq_getElem hjl
        obtain ⟨gr, gb, rfl, hgr, hcell, _, hblk⟩ := hr1.cell j _ hjf
        have hl2 := hsz' _ (List.getElem_mem hjl)
        have HIN : Hid (InSlot zs ls (i : Int) (j : Int) fs[j]) := ⟨i, j, fs, rfl, rfl, hil, hif, hjf⟩
        generalize fs[j] = l at *
        have HS1 := (show Hid _ from hS1)
        have HL2 := (show Hid _ from hl2)
        have HRD : Hid (∀ q, Rds (w1.drewN q) (some ⟨gb, 0, none⟩) l.length l) := fun q => ⟨rfl, fun _ => ⟨gb, 0, rfl, hblk.lt, hblk.rd⟩⟩
        clear hrow hsz hic hif hz1 hS1 c0 c1 c2 c3 c5 c6 c7 hh hhb q1 qf cf hr1 hr0 hsz' hl2 hil hjl hll
        go_wp2_with fail
        refine (may_yes g w1).mono ?_
        rintro e w'' ⟨rfl, hw''⟩
        have hw3 := hw''.symm
        clear hw''
        subst hw3
        go_wp2_with fail
        have hRd : Rds w1 (some ⟨gb, 0, none⟩) l.length l := HRD.out 0
        refine (clone_sl _ _ _ l w1 HL2.out hRd).mono ?_
        rintro e w2 ⟨rfl, hB2, hb2, hz2⟩
        clear hcell q0 c4
        go_wp2
        go_ret2
        exact ⟨hc1.trans (Chg.of_below hb2 (fun k => k = g)) (fun i hi h => h), .inr ⟨l, HIN.out, w.heap.size, rfl, Nat.le_refl _, (by rw [← hw1z]; exact hB2), Cel.below HS1.out hb2 (Cel.lt HS1.out)⟩⟩
      · have HN : Hid (¬ ∃ l, InSlot zs ls (i : Int) s l) := fun ⟨l, i2, j, fs2, h1, h2, h3, h4, h5⟩ => by
          have e1 : i2 = i := by omega
          subst e1
          rw [hif] at h4
          cases h4
          have := (List.getElem?_eq_some_iff.1 h5).1
          omega
        have hsd : decide (s < (fs.length : Int)) = false := decide_eq_false hsl
        clear hsl hrow hsz hic hif hz1 c0 c1 c2 c3 c5 c6 c7 hh hhb q1 qf cf hr1 hr0 hsz' hil hll
        go_wp2_with fail
        refine (may_no g sl (less lf) (ca + 1) wr cn _ bd lg w1 hS1 HW.out).mono ?_
        rintro e w2 ⟨rfl, hS2, ho2⟩
        clear c4 q0
        go_wp2
        go_ret2
        exact ⟨hc1.trans (Chg.of_only ho2) (fun i hi h => h), .inl ⟨HN.out, rfl, hS2⟩⟩
    · have HN : Hid (¬ ∃ l, InSlot zs ls (i : Int) s l) := fun ⟨l, i2, j, fs2, h1, h2, h3, h4, h5⟩ => by
        have e1 : i2 = i := by omega
        subst e1
        rw [hif] at h4
        cases h4
        have := (List.getElem?_eq_some_iff.1 h5).1
        omega
      have hsd : decide (0 ≤ s) = false := decide_eq_false hs0
      clear hs0 hrow hsz hic hif hz1 c0 c1 c2 c3 c5 c6 c7 hh hhb q1 qf cf hr1 hr0 hsz' hil hll
      go_wp2_with fail
      refine (may_no g sl (less lf) (ca + 1) wr cn _ bd lg w1 hS1 HW.out).mono ?_
      rintro e w2 ⟨rfl, hS2, ho2⟩
      clear c4 q0
      go_wp2
      go_ret2
      exact ⟨hc1.trans (Chg.of_only ho2) (fun i hi h => h), .inl ⟨HN.out, rfl, hS2⟩⟩
  · have hhb : hasB z zs.length = false := decide_eq_false hh
    rw [hhb]
    have HH := (show Hid _ from hh)
    clear hh hhb hrow hsz
    go_wp2_with fail
    refine (may_no g sl (less lf) (ca + 1) wr cn _ bd lg w1 hS1 HW.out).mono ?_
    rintro e w2 ⟨rfl, hS2, ho2⟩
    go_wp2
    go_ret2
    exact ⟨hc1.trans (Chg.of_only ho2) (fun i hi h => h), .inl ⟨(fun ⟨l, i, j, fs, h1, h2, h3, _⟩ => HH.out (by omega)), rfl, hS2⟩⟩
end Go.Proofs.YtloaefcgcniacaaGreatDoor

namespace Go.Proofs.YtloaefcgcniacaaGreatDoor
open Go.RowKit
set_option linter.unusedVariables false

theorem Chg.drew {a b : World} {S : Nat → Prop} (h : Chg a b S) : Chg a b.drew S := ⟨h.os, h.tape, h.output, h.size, h.block⟩

set_option maxHeartbeats 1000000 in
theorem dFlush_off (x g : Nat) (sl ca wr cn : Int) (zs bd lg : Value) (w : World) (hx : DkAt w x g) (h : StAt w g sl 0 ca wr zs cn bd lg) :
    Calls Tryz.prog 96 #[.pointer (some ⟨x, 0, none⟩)] w fun e w' => e = .returned (.bool false) ∧ Below w.heap.size w w' := by
  have k0 := hx.cell0
  have H := (show Hid _ from h)
  clear h hx
  go_enter Tryz.func96, Tryz.ntmps96
  go_wp2_with (go_at_call 150; refine (goes_off g sl ca wr cn zs bd lg _ H.out).mono ?_; rintro e w' ⟨rfl, rfl⟩)
  go_ret
  exact ⟨rfl, Below.refl _ _⟩

def lenV : Value → Int
  | .slice _ n _ => (n : Int)
  | _ => 0
/-- All frames are kept. -/
def flushZ (zs : List (Value × Int)) : List (Value × Int) := zs.map fun c => (c.1, lenV c.1)
theorem flushZ_length (zs : List (Value × Int)) : (flushZ zs).length = zs.length := List.length_map _
def flushTo (zs : List (Value × Int)) (k : Nat) : List (Value × Int) := (flushZ zs).take k ++ zs.drop k
theorem flushTo_length (zs : List (Value × Int)) (k : Nat) : (flushTo zs k).length = zs.length := by
  unfold flushTo
  rw [List.length_append, List.length_take, List.length_drop, flushZ_length]
  omega
theorem flushTo_at (zs : List (Value × Int)) (k : Nat) (c : Value × Int) (h : zs[k]? = some c) : (flushTo zs k)[k]? = some c := by
  have hk := (List.getElem?_eq_some_iff.1 h).1
  unfold flushTo
  rw [List.getElem?_append_right (by rw [List.length_take, flushZ_length]; omega), List.length_take, flushZ_length, List.getElem?_drop]
  rw [show k + (k - min k zs.length) = k by omega]
  exact h
theorem flushTo_succ (zs : List (Value × Int)) (k : Nat) (c : Value × Int) (h : zs[k]? = some c) : flushTo zs (k + 1) = (flushTo zs k).set k (c.1, lenV c.1) := by
  have hk := (List.getElem?_eq_some_iff.1 h).1
  have hck : zs[k] = c := (List.getElem?_eq_some_iff.1 h).2
  apply List.ext_getElem?
  intro i
  unfold flushTo
  rw [List.getElem?_set]
  by_cases hik : k = i
  · subst hik
    rw [if_pos rfl, if_pos (by rw [List.length_append, List.length_take, List.length_drop, flushZ_length]; omega)]
    rw [List.getElem?_append_left (by rw [List.length_take, flushZ_length]; omega), List.getElem?_take, if_pos (by omega)]
    simp [flushZ, h]
  · rw [if_neg hik]
    by_cases hlt : i < k
    · rw [List.getElem?_append_left (by rw [List.length_take, flushZ_length]; omega), List.getElem?_append_left (by rw [List.length_take, flushZ_length]; omega), List.getElem?_take, List.getElem?_take, if_pos (by omega), if_pos hlt]
    · rw [List.getElem?_append_right (by rw [List.length_take, flushZ_length]; omega), List.getElem?_append_right (by rw [List.length_take, flushZ_length]; omega), List.getElem?_drop, List.getElem?_drop]
      congr 1
      rw [List.length_take, List.length_take, flushZ_length]
      omega

set_option maxRecDepth 20000 in
set_option maxHeartbeats 2000000 in
theorem dFlush_on (x g gz : Nat) (sl lf ca wr_1 cn : Int) (bd lg : Value) (zs : List (Value × Int)) (w : World) (hx : DkAt w x g) (h : StAt w g sl lf ca wr_1 (.slice (some ⟨gz, 0, none⟩) zs.length zs.length) cn bd lg) (hz : ZAt w gz zs) (hlf : lf ≠ 0) (hf : fits lf) (hca : small ca) (hzl : zs.length < 1000) (hzv : ∀ (i : Nat) (c : Value × Int), zs[i]? = some c → ∃ p n cap, c.1 = .slice p n cap) :
    Calls Tryz.prog 96 #[.pointer (some ⟨x, 0, none⟩)] w fun e w' => e = .returned (.bool true) ∧ Chg w w' (fun k => k = g ∨ k = gz) ∧ StAt w' g sl (less lf) (ca + 1) wr_1 (.slice (some ⟨gz, 0, none⟩) zs.length zs.length) cn bd lg ∧ ZAt w' gz (flushZ zs) := by
  have k0 := hx.cell0
  have H := (show Hid _ from h)
  have HF := (show Hid _ from hf)
  have HC := (show Hid _ from hca)
  have hxg := st_dk_ne hx h
  have hgz := st_z_ne h hz
  clear h hx hf hca
  go_enter Tryz.func96, Tryz.ntmps96
  go_wp2_with fail
  refine (goes_on g sl lf ca wr_1 cn _ bd lg _ H.out hlf HF.out HC.out).mono ?_
  rintro e w1 ⟨rfl, hS1, ho1⟩
  have hc1 := Chg.of_only ho1
  have hz1 : ZAt w1 gz zs := hz.only ho1 hgz.symm
  have c4 := hS1.cells.2.2.2.2.1
  have HS1 := (show Hid _ from hS1)
  clear hz ho1 hS1
  go_wp2
  clear c4
  go_loopw [17] (fun i wr => ∃ k : Nat, k ≤ zs.length ∧ i = .int .i64 k ∧ ZAt wr gz (flushTo zs k) ∧ Chg w1 wr (fun j => j = gz)) (fun i _ => zs.length - (intOf i).toNat)
  case atStart => exact ⟨0, Nat.zero_le _, rfl, by simpa [flushTo] using hz1, Chg.refl _ _⟩
  case round =>
    obtain ⟨k, hk, rfl, hzk, hck⟩ := hrel
    have hSk : StAt wr g sl (less lf) (ca + 1) wr_1 (.slice (some ⟨gz, 0, none⟩) zs.length zs.length) cn bd lg := Cel.chg HS1.out hck hgz
    have c4 := hSk.cells.2.2.2.2.1
    by_cases hlt : k < zs.length
    · have hlti : (k : Int) < (zs.length : Int) := by omega
      have hic : zs[k]? = some zs[k] := List.getElem?_eq_getElem hlt
      obtain ⟨p, n, cap, hcv⟩ := hzv k _ hic
      obtain ⟨q0, q1, qf⟩ := hzk.cells k _ (flushTo_at zs k _ hic)
      have HST : Hid (ZAt (wr.setCell ⟨gz, k * 2 + 1, none⟩ (.int .i64 (n : Int))) gz (flushTo zs (k + 1))) := by
        have h1 := Cel.set hzk (k * 2 + 1) (.int .i64 (n : Int))
        rw [zcells_set1 _ k _ (flushTo_at zs k _ hic)] at h1
        show ZAt _ _ _
        rw [flushTo_succ zs k _ hic, hcv]
        rw [hcv] at h1
        exact h1
      rw [hcv] at q0
      have hks : k < 1000 := by omega
      clear hzk hSk hic hcv
      have hgz' : gz ≠ g := hgz.symm
      go_wp2_with fail
      go_region_held3 (fun w' => w'.cell? ⟨g, 4, none⟩ = some (.slice (some ⟨gz, 0, none⟩) zs.length zs.length) ∧ w'.cell? ⟨gz, k * 2, none⟩ = some (.slice p n cap)) (first | (simp [c4, q0]; done) | (simp [c4, q0, World.cell?_setCell_other]; done))
        (fail)
      clear q0 q1 qf c4
      go_wp2
      go_roundw
      case rel => exact ⟨k + 1, by omega, by go_num, HST.out, (hck.trans (Chg.of_only ((Only.refl _ gz).set _ _)) (fun i hi h => h)).drew⟩
      case measure => simp [intOf]; omega
    · have hkn : k = zs.length := by omega
      have hfl : flushTo zs k = flushZ zs := by unfold flushTo; rw [hkn, List.take_of_length_le (by rw [flushZ_length]; omega), List.drop_of_length_le (by omega), List.append_nil]
      rw [hfl] at hzk
      go_wp2
      go_ret
      exact ⟨rfl, (hc1.mono (T := fun k => k = g ∨ k = gz) (fun i hi h => .inl h)).trans hck (fun i hi h => .inr h), hSk, hzk⟩
end Go.Proofs.YtloaefcgcniacaaGreatDoor
