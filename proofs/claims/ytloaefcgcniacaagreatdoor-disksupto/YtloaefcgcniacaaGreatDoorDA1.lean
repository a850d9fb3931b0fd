import Derived.Test.YtloaefcgcniacaaGreatDoorKt
import Derived.Laws.CopyOwn
import Derived.Deep.AppendLies
import Derived.Deep.QuietTactic
import Derived.BigQuiet
import Derived.Deep.RegionLaw
namespace Go.Proofs.YtloaefcgcniacaaGreatDoor
open Go.RowKit
set_option linter.unusedVariables false

/-- A block that holds just these cells. -/
def Cel (w : World) (g : Nat) (t : TypeId) (cs : Array Value) : Prop := w.heap[g]? = some (Obj.cells cs t (0, 0))
theorem Cel.lt {w : World} {g : Nat} {t : TypeId} {cs : Array Value} (h : Cel w g t cs) : g < w.heap.size := (Array.getElem?_eq_some_iff.1 h).1
theorem Cel.cell {w : World} {g : Nat} {t : TypeId} {cs : Array Value} (h : Cel w g t cs) (i : Nat) : w.cell? ⟨g, i, none⟩ = cs[i]? := by
  unfold Cel at h
  simp [World.cell?, h]
theorem Cel.frozen {w : World} {g : Nat} {t : TypeId} {cs : Array Value} (h : Cel w g t cs) (i : Nat) : w.frozen? ⟨g, i, none⟩ = false := by
  unfold Cel at h
  simp [World.frozen?, h]
theorem Cel.below {w w' : World} {g B : Nat} {t : TypeId} {cs : Array Value} (h : Cel w g t cs) (hb : Below B w w') (hg : g < B) : Cel w' g t cs := (hb.block g hg).trans h
theorem Cel.set {w : World} {g : Nat} {t : TypeId} {cs : Array Value} (h : Cel w g t cs) (i : Nat) (v : Value) : Cel (w.setCell ⟨g, i, none⟩ v) g t (cs.setIfInBounds i v) := by
  unfold Cel at *
  simp only [World.setCell, Array.getElem?_modify, h]
  simp
theorem Cel.new (w : World) (t : TypeId) (cs : Array Value) : Cel (w.alloc (Obj.cells cs t)) w.heap.size t cs := heap_alloc_new w _

/-- What a disk is: its state's cells. -/
def StAt (w : World) (g : Nat) (sl lf ca wr : Int) (zs : Value) (cn : Int) (bd lg : Value) : Prop :=
  Cel w g 106 #[.int .i64 sl, .int .i64 lf, .int .i64 ca, .int .i64 wr, zs, .int .i64 cn, bd, lg]

theorem StAt.cells {w : World} {g : Nat} {sl lf ca wr cn : Int} {zs bd lg : Value} (h : StAt w g sl lf ca wr zs cn bd lg) :
    w.cell? ⟨g, 0, none⟩ = some (.int .i64 sl) ∧ w.cell? ⟨g, 1, none⟩ = some (.int .i64 lf) ∧ w.cell? ⟨g, 2, none⟩ = some (.int .i64 ca) ∧ w.cell? ⟨g, 3, none⟩ = some (.int .i64 wr) ∧ w.cell? ⟨g, 4, none⟩ = some zs ∧ w.cell? ⟨g, 5, none⟩ = some (.int .i64 cn) ∧ w.cell? ⟨g, 6, none⟩ = some bd ∧ w.cell? ⟨g, 7, none⟩ = some lg ∧ (∀ i, w.frozen? ⟨g, i, none⟩ = false) := by
  unfold StAt at h
  exact ⟨by rw [h.cell]; rfl, by rw [h.cell]; rfl, by rw [h.cell]; rfl, by rw [h.cell]; rfl, by rw [h.cell]; rfl, by rw [h.cell]; rfl, by rw [h.cell]; rfl, by rw [h.cell]; rfl, h.frozen⟩

/-- How much power is left behind a call. -/
def less (lf : Int) : Int := if 0 < lf then lf - 1 else lf

/-- Nothing is changed but one block. -/
def Only (w w' : World) (g : Nat) : Prop := w.grownBy w' (some g) ∧ w'.heap.size = w.heap.size
theorem Only.refl (w : World) (g : Nat) : Only w w g := ⟨⟨rfl, rfl, rfl, Nat.le_refl _, fun _ _ _ => rfl⟩, rfl⟩
theorem Only.set {w w' : World} {g : Nat} (h : Only w w' g) (i : Nat) (v : Value) : Only w (w'.setCell ⟨g, i, none⟩ v) g := by
  obtain ⟨⟨h1, h2, h3, h4, h5⟩, h6⟩ := h
  refine ⟨⟨h1, h2, h3, by simpa using h4, fun k hk hr => ?_⟩, by simpa using h6⟩
  rw [Below.heap_setCell _ _ _ _ (fun e => hr (by rw [e]))]
  exact h5 k hk hr
theorem Only.trans {a b c : World} {g : Nat} (h : Only a b g) (k : Only b c g) : Only a c g := ⟨grownBy_trans h.1 k.1, k.2.trans h.2⟩
theorem Only.block {w w' : World} {g k : Nat} (h : Only w w' g) (hk : k ≠ g) : w'.heap[k]? = w.heap[k]? := by
  by_cases hz : k < w.heap.size
  · exact h.1.block k hz (fun e => hk (by cases e; rfl))
  · rw [Array.getElem?_eq_none (by rw [h.2]; omega), Array.getElem?_eq_none (by omega)]
theorem Only.below {w w' : World} {g B : Nat} (h : Only w w' g) (hB : B ≤ g) (hg : g < w.heap.size) : Below B w w' :=
  (Below.refl _ _).grown h.1 (by omega) (fun k e => by cases e; exact hB)
theorem Cel.only {w w' : World} {g k : Nat} {t : TypeId} {cs : Array Value} (h : Cel w k t cs) (ho : Only w w' g) (hk : k ≠ g) : Cel w' k t cs := (ho.block hk).trans h

set_option maxHeartbeats 1000000 in
theorem goes_off (g : Nat) (sl ca wr cn : Int) (zs bd lg : Value) (w : World) (h : StAt w g sl 0 ca wr zs cn bd lg) :
    Calls Tryz.prog 150 #[.pointer (some ⟨g, 0, none⟩)] w fun e w' => e = .returned (.bool false) ∧ w' = w := by
  obtain ⟨c0, c1, c2, c3, c4, c5, c6, c7, cf⟩ := h.cells
  clear h
  go_enter Tryz.func150, Tryz.ntmps150
  go_wp2
  go_ret
  exact ⟨rfl, rfl⟩

/-- A number that a call counts: no wrap-round is near. -/
def small (n : Int) : Prop := 0 ≤ n ∧ n < 1000000000
/-- A number of 64 bits. -/
def fits (n : Int) : Prop := -9223372036854775808 ≤ n ∧ n ≤ 9223372036854775807

set_option maxHeartbeats 1000000 in
theorem goes_on (g : Nat) (sl lf ca wr cn : Int) (zs bd lg : Value) (w : World) (h : StAt w g sl lf ca wr zs cn bd lg) (hl : lf ≠ 0) (hf : fits lf) (hca : small ca) :
    Calls Tryz.prog 150 #[.pointer (some ⟨g, 0, none⟩)] w fun e w' => e = .returned (.bool true) ∧ StAt w' g sl (less lf) (ca + 1) wr zs cn bd lg ∧ Only w w' g := by
  obtain ⟨c0, c1, c2, c3, c4, c5, c6, c7, cf⟩ := h.cells
  obtain ⟨hf1, hf2⟩ := hf
  obtain ⟨hc1, hc2⟩ := hca
  have hne : (lf == 0) = false := by simpa using hl
  by_cases hp : 0 < lf
  · have e : less lf = lf - 1 := if_pos hp
    rw [e]
    have H := (show Hid _ from h)
    clear h e hl
    go_enter Tryz.func150, Tryz.ntmps150
    go_wp2
    go_ret
    refine ⟨rfl, ?_, ((Only.refl w g).set 1 _).set 2 _⟩
    have := (Cel.set H.out 1 (.int .i64 (lf - 1))).set 2 (.int .i64 (ca + 1))
    simpa [StAt] using this
  · have e : less lf = lf := if_neg hp
    rw [e]
    have H := (show Hid _ from h)
    clear h e hl
    go_enter Tryz.func150, Tryz.ntmps150
    go_wp2
    go_ret
    refine ⟨rfl, ?_, (Only.refl w g).set 2 _⟩
    have := Cel.set H.out 2 (.int .i64 (ca + 1))
    simpa [StAt] using this

theorem may_yes (g : Nat) (w : World) : Calls Tryz.prog 151 #[.pointer (some ⟨g, 0, none⟩), .bool true] w fun e w' => e = .returned (.bool true) ∧ w' = w := by
  go_enter Tryz.func151, Tryz.ntmps151
  go_wp2
  go_ret
  exact ⟨rfl, rfl⟩
set_option maxHeartbeats 1000000 in
theorem may_no (g : Nat) (sl lf ca wr cn : Int) (zs bd lg : Value) (w : World) (h : StAt w g sl lf ca wr zs cn bd lg) (hwr : small wr) :
    Calls Tryz.prog 151 #[.pointer (some ⟨g, 0, none⟩), .bool false] w fun e w' => e = .returned (.bool false) ∧ StAt w' g sl lf ca (wr + 1) zs cn bd lg ∧ Only w w' g := by
  obtain ⟨c0, c1, c2, c3, c4, c5, c6, c7, cf⟩ := h.cells
  obtain ⟨hf1, hf2⟩ := hwr
  have H := (show Hid _ from h)
  clear h
  go_enter Tryz.func151, Tryz.ntmps151
  go_wp2
  go_ret
  refine ⟨rfl, ?_, (Only.refl w g).set 3 _⟩
  have := Cel.set H.out 3 (.int .i64 (wr + 1))
  simpa [StAt] using this

/-- Is there such a zone? -/
def hasB (z : Int) (n : Nat) : Bool := decide (0 ≤ z ∧ z < n)
set_option maxHeartbeats 1000000 in
theorem has_any (g : Nat) (sl lf ca wr cn z : Int) (zp : Option Addr) (n c : Nat) (bd lg : Value) (w : World) (h : StAt w g sl lf ca wr (.slice zp n c) cn bd lg) :
    Calls Tryz.prog 121 #[.pointer (some ⟨g, 0, none⟩), .int .i64 z] w fun e w' => e = .returned (.bool (hasB z n)) ∧ w' = w := by
  obtain ⟨c0, c1, c2, c3, c4, c5, c6, c7, cf⟩ := h.cells
  clear h
  by_cases h1 : 0 ≤ z
  · by_cases h2 : z < n
    · have e : hasB z n = true := decide_eq_true ⟨h1, h2⟩
      rw [e]
      go_enter Tryz.func121, Tryz.ntmps121
      go_wp2
      go_ret
      exact ⟨rfl, rfl⟩
    · have e : hasB z n = false := decide_eq_false (fun h => h2 h.2)
      rw [e]
      go_enter Tryz.func121, Tryz.ntmps121
      go_wp2
      go_ret
      exact ⟨rfl, rfl⟩
  · have e : hasB z n = false := decide_eq_false (fun h => h1 h.1)
    rw [e]
    go_enter Tryz.func121, Tryz.ntmps121
    go_wp2
    go_ret
    exact ⟨rfl, rfl⟩

/-- A disk, and a hand: each names the state. -/
def DkAt (w : World) (x g : Nat) : Prop := Cel w x 109 #[.pointer (some ⟨g, 0, none⟩)]
def HdAt (w : World) (x g : Nat) : Prop := Cel w x 118 #[.pointer (some ⟨g, 0, none⟩)]
theorem DkAt.cell0 {w : World} {x g : Nat} (h : DkAt w x g) : w.cell? ⟨x, 0, none⟩ = some (.pointer (some ⟨g, 0, none⟩)) := by unfold DkAt at h; rw [h.cell]; rfl
theorem HdAt.cell0 {w : World} {x g : Nat} (h : HdAt w x g) : w.cell? ⟨x, 0, none⟩ = some (.pointer (some ⟨g, 0, none⟩)) := by unfold HdAt at h; rw [h.cell]; rfl

theorem dOff (x g : Nat) (sl lf ca wr cn : Int) (zs bd lg : Value) (w : World) (hx : DkAt w x g) (h : StAt w g sl lf ca wr zs cn bd lg) :
    Calls Tryz.prog 34 #[.pointer (some ⟨x, 0, none⟩)] w fun e w' => e = .returned (.bool (lf == 0)) ∧ ∃ q, w' = w.drewN q := by
  obtain ⟨c0, c1, c2, c3, c4, c5, c6, c7, cf⟩ := h.cells
  have k0 := hx.cell0
  clear h hx
  go_enter Tryz.func34, Tryz.ntmps34
  go_wp2
  go_ret
  exact ⟨rfl, 0, rfl⟩

theorem hLeft (x g : Nat) (sl lf ca wr cn : Int) (zs bd lg : Value) (w : World) (hx : HdAt w x g) (h : StAt w g sl lf ca wr zs cn bd lg) :
    Calls Tryz.prog 154 #[.pointer (some ⟨x, 0, none⟩)] w fun e w' => e = .returned (.int .i64 lf) ∧ ∃ q, w' = w.drewN q := by
  obtain ⟨c0, c1, c2, c3, c4, c5, c6, c7, cf⟩ := h.cells
  have k0 := hx.cell0
  clear h hx
  go_enter Tryz.func154, Tryz.ntmps154
  go_wp2
  go_ret
  exact ⟨rfl, 0, rfl⟩

theorem hCalls (x g : Nat) (sl lf ca wr cn : Int) (zs bd lg : Value) (w : World) (hx : HdAt w x g) (h : StAt w g sl lf ca wr zs cn bd lg) :
    Calls Tryz.prog 52 #[.pointer (some ⟨x, 0, none⟩)] w fun e w' => e = .returned (.int .i64 ca) ∧ ∃ q, w' = w.drewN q := by
  obtain ⟨c0, c1, c2, c3, c4, c5, c6, c7, cf⟩ := h.cells
  have k0 := hx.cell0
  clear h hx
  go_enter Tryz.func52, Tryz.ntmps52
  go_wp2
  go_ret
  exact ⟨rfl, 0, rfl⟩

theorem hWrong (x g : Nat) (sl lf ca wr cn : Int) (zs bd lg : Value) (w : World) (hx : HdAt w x g) (h : StAt w g sl lf ca wr zs cn bd lg) :
    Calls Tryz.prog 109 #[.pointer (some ⟨x, 0, none⟩)] w fun e w' => e = .returned (.int .i64 wr) ∧ ∃ q, w' = w.drewN q := by
  obtain ⟨c0, c1, c2, c3, c4, c5, c6, c7, cf⟩ := h.cells
  have k0 := hx.cell0
  clear h hx
  go_enter Tryz.func109, Tryz.ntmps109
  go_wp2
  go_ret
  exact ⟨rfl, 0, rfl⟩

theorem dSlots (x g : Nat) (sl lf ca wr cn : Int) (zs bd lg : Value) (w : World) (hx : DkAt w x g) (h : StAt w g sl lf ca wr zs cn bd lg) :
    Calls Tryz.prog 26 #[.pointer (some ⟨x, 0, none⟩)] w fun e w' => e = .returned (.int .i64 sl) ∧ ∃ q, w' = w.drewN q := by
  obtain ⟨c0, c1, c2, c3, c4, c5, c6, c7, cf⟩ := h.cells
  have k0 := hx.cell0
  clear h hx
  go_enter Tryz.func26, Tryz.ntmps26
  go_wp2
  go_ret
  exact ⟨rfl, 0, rfl⟩

theorem dZones (x g : Nat) (sl lf ca wr cn : Int) (p : Option Addr) (n c : Nat) (bd lg : Value) (w : World) (hx : DkAt w x g) (h : StAt w g sl lf ca wr (.slice p n c) cn bd lg) :
    Calls Tryz.prog 25 #[.pointer (some ⟨x, 0, none⟩)] w fun e w' => e = .returned (.int .i64 n) ∧ ∃ q, w' = w.drewN q := by
  obtain ⟨c0, c1, c2, c3, c4, c5, c6, c7, cf⟩ := h.cells
  have k0 := hx.cell0
  clear h hx
  go_enter Tryz.func25, Tryz.ntmps25
  go_wp2
  go_ret
  exact ⟨rfl, 0, rfl⟩

theorem hLogged (x g : Nat) (sl lf ca wr cn : Int) (p : Option Addr) (n c : Nat) (zs bd : Value) (w : World) (hx : HdAt w x g) (h : StAt w g sl lf ca wr zs cn bd (.slice p n c)) :
    Calls Tryz.prog 110 #[.pointer (some ⟨x, 0, none⟩)] w fun e w' => e = .returned (.int .i64 n) ∧ ∃ q, w' = w.drewN q := by
  obtain ⟨c0, c1, c2, c3, c4, c5, c6, c7, cf⟩ := h.cells
  have k0 := hx.cell0
  clear h hx
  go_enter Tryz.func110, Tryz.ntmps110
  go_wp2
  go_ret
  exact ⟨rfl, 0, rfl⟩
end Go.Proofs.YtloaefcgcniacaaGreatDoor

namespace Go.Proofs.YtloaefcgcniacaaGreatDoor
open Go.RowKit
set_option linter.unusedVariables false

/-- A list that reads so: of no bytes whatever it points to. -/
def Rds (w : World) (p : Option Addr) (n : Nat) (l : List Nat) : Prop := l.length = n ∧ (0 < n → ∃ g off, p = some ⟨g, off, none⟩ ∧ g < w.heap.size ∧ Rd w g off l)
theorem Rds.below {w w' : World} {p : Option Addr} {n : Nat} {l : List Nat} (h : Rds w p n l) (hb : Below w.heap.size w w') : Rds w' p n l :=
  ⟨h.1, fun h0 => by obtain ⟨g, off, h1, h2, h3⟩ := h.2 h0; exact ⟨g, off, h1, Nat.lt_of_lt_of_le h2 hb.size, h3.below hb h2⟩⟩

theorem run_copy_sl (w : World) (ty : TypeId) (g n c : Nat) (p : Option Addr) (l : List Nat) (hB : Blk w g (List.replicate n 0)) (h : Rds w p n l) :
    ∃ v W', (Builtin.copy_ #[66, 66] ty #[.slice (some ⟨g, 0, none⟩) n n, .slice p n c]).run Tryz.prog w = .ok v W' ∧ Blk W' g l ∧ Below g w W' ∧ W'.heap.size = w.heap.size := by
  obtain ⟨hl, hr⟩ := h
  by_cases h0 : n = 0
  · subst h0
    obtain rfl := List.eq_nil_of_length_eq_zero hl
    exact ⟨_, w, run_copy_none (P := Tryz.prog) w 66 66 ty 5 _ p 0 0 0 c Tryz.underlying66 size5 rfl, hB, Below.refl _ _, rfl⟩
  · obtain ⟨gs, off, rfl, hgs, hrd⟩ := hr (by omega)
    have hrun := run_copy_row (P := Tryz.prog) w 66 66 ty 5 g 0 n n ⟨gs, off, none⟩ n c (blkOf (List.replicate n 0)) 5 (l.map byteV) Tryz.underlying66 size5 hB
      (by rw [List.length_map, hl]; exact (Nat.min_self n).symm)
      (fun j v hj => by
        rw [Addr.add_lit]
        obtain ⟨hj1, rfl⟩ := List.getElem?_eq_some_iff.1 hj
        rw [List.length_map] at hj1
        rw [hrd j hj1]
        simp [byteV, hj1])
      (by simp [blkOf, hl]) (fun v hv => by obtain ⟨x, _, rfl⟩ := List.mem_map.1 hv; rfl)
    refine ⟨_, _, hrun, ?_, ⟨rfl, rfl, rfl, by simp [World.setRow], fun k hk => setRow_other w g k _ (by omega)⟩, by simp [World.setRow]⟩
    have e : ((blkOf (List.replicate n 0)).toList.take 0 ++ l.map byteV ++ (blkOf (List.replicate n 0)).toList.drop (0 + (l.map byteV).length)).toArray = blkOf l := by
      unfold blkOf
      simp [hl]
    rw [e]
    exact setRow_heap w g _ (blkOf l) 5 (0, 0) hB

set_option maxHeartbeats 1000000 in
theorem clone_sl (p : Option Addr) (n c : Nat) (l : List Nat) (w : World) (hn : n ≤ 2000000) (h : Rds w p n l) :
    Calls Tryz.prog 107 #[.slice p n c] w fun e w' => e = .returned (.slice (some ⟨w.heap.size, 0, none⟩) n n) ∧ Blk w' w.heap.size l ∧ Below w.heap.size w w' ∧ w'.heap.size = w.heap.size + 1 := by
  have hmk := run_make_bytes n (by omega) w
  have hb1 : Below w.heap.size w (w.alloc (.cells (blkOf (List.replicate n 0)) 5)) := (Below.refl _ _).alloc (Nat.le_refl _) _
  obtain ⟨v, W', hcp, hB, hb, hz⟩ := run_copy_sl (w.alloc (.cells (blkOf (List.replicate n 0)) 5)) 3 w.heap.size n c p l (blk_new w _) (h.below hb1)
  have hb2 := hb1.trans hb
  simp only [World.size_alloc] at hz
  have HZ := (show Hid _ from hz)
  clear h hn hb hb1 hz
  go_enter Tryz.func107, Tryz.ntmps107
  go_wp2
  go_ret
  exact ⟨rfl, hB, hb2, HZ.out⟩
end Go.Proofs.YtloaefcgcniacaaGreatDoor

namespace Go.Proofs.YtloaefcgcniacaaGreatDoor
open Go.RowKit
set_option linter.unusedVariables false

/-- A call of the disk that was done. -/
structure RCall where
  k : Int
  z : Int
  s : Int
  b : ByteArray

def RCall.cells (c : RCall) : List Value := [.int .i64 c.k, .int .i64 c.z, .int .i64 c.s, .string c.b]
def doneCells (cs : List RCall) : List Value := cs.flatMap RCall.cells
theorem doneCells_length (cs : List RCall) : (doneCells cs).length = cs.length * 4 := by
  induction cs with
  | nil => rfl
  | cons c r ih => simp only [doneCells, List.flatMap_cons, List.length_append, List.length_cons] at *; simp only [RCall.cells, List.length_cons, List.length_nil]; omega
theorem doneCells_at (cs : List RCall) (i : Nat) (c : RCall) (h : cs[i]? = some c) (j : Nat) (hj : j < 4) : (doneCells cs)[i * 4 + j]? = c.cells[j]? := by
  induction cs generalizing i with
  | nil => cases h
  | cons d r ih =>
    cases i with
    | zero =>
      simp only [List.getElem?_cons_zero, Option.some.injEq] at h
      subst h
      rw [Nat.zero_mul, Nat.zero_add]
      simp only [doneCells, List.flatMap_cons]
      rw [List.getElem?_append_left (by simpa [RCall.cells] using hj)]
    | succ m =>
      simp only [List.getElem?_cons_succ] at h
      have := ih m h
      simp only [doneCells, List.flatMap_cons] at *
      rw [List.getElem?_append_right (by simp [RCall.cells]; omega)]
      rw [← this]
      congr 1
      simp [RCall.cells]
      omega

/-- The calls that were done, in a row of their own. -/
def DoneAt (w : World) (base : Nat) (dv : Value) (cs : List RCall) : Prop := w.ownsRow base 163 4 dv cs.length (doneCells cs)
theorem DoneAt.form {w : World} {base : Nat} {dv : Value} {cs : List RCall} (h : DoneAt w base dv cs) : ∃ p cap, dv = .slice p cs.length cap ∧ (0 < cs.length → ∃ g, p = some ⟨g, 0, none⟩ ∧ base ≤ g ∧ g < w.heap.size ∧ ∀ i c, cs[i]? = some c →
    w.cell? ⟨g, i * 4, none⟩ = some (.int .i64 c.k) ∧ w.cell? ⟨g, i * 4 + 1, none⟩ = some (.int .i64 c.z) ∧ w.cell? ⟨g, i * 4 + 2, none⟩ = some (.int .i64 c.s) ∧ w.cell? ⟨g, i * 4 + 3, none⟩ = some (.string c.b)) := by
  rcases h.2 with ⟨hv, h0⟩ | ⟨g, cap, cur, hv, hb, hg, hnc, hcm, hcs, htake⟩
  · exact ⟨none, 0, by rw [hv, h0], fun h1 => by omega⟩
  · refine ⟨some ⟨g, 0, none⟩, cap, hv, fun _ => ⟨g, rfl, hb, (Array.getElem?_eq_some_iff.1 hg).1, ?_⟩⟩
    have hcell : ∀ t u, (doneCells cs)[t]? = some u → w.cell? ⟨g, t, none⟩ = some u := by
      intro t u hu
      have : cur.toList[t]? = some u := by
        rw [← htake, List.getElem?_take] at hu
        split at hu
        · exact hu
        · cases hu
      simp only [World.cell?, hg]
      simpa using this
    intro i c hc
    refine ⟨?_, ?_, ?_, ?_⟩
    · have := doneCells_at cs i c hc 0 (by omega); rw [Nat.add_zero] at this; exact hcell _ _ this
    · exact hcell _ _ (doneCells_at cs i c hc 1 (by omega))
    · exact hcell _ _ (doneCells_at cs i c hc 2 (by omega))
    · exact hcell _ _ (doneCells_at cs i c hc 3 (by omega))

/-- The document's disk. -/
def RefAt (w : World) (r : Nat) (Z S C : Int) (B : ByteArray) (L : Int) (dv : Value) (ca wr : Int) : Prop :=
  Cel w r 206 #[.int .i64 Z, .int .i64 S, .int .i64 C, .string B, .int .i64 L, dv, .int .i64 ca, .int .i64 wr]
theorem RefAt.cells {w : World} {r : Nat} {Z S C L ca wr : Int} {B : ByteArray} {dv : Value} (h : RefAt w r Z S C B L dv ca wr) :
    w.cell? ⟨r, 0, none⟩ = some (.int .i64 Z) ∧ w.cell? ⟨r, 1, none⟩ = some (.int .i64 S) ∧ w.cell? ⟨r, 2, none⟩ = some (.int .i64 C) ∧ w.cell? ⟨r, 3, none⟩ = some (.string B) ∧ w.cell? ⟨r, 4, none⟩ = some (.int .i64 L) ∧ w.cell? ⟨r, 5, none⟩ = some dv ∧ w.cell? ⟨r, 6, none⟩ = some (.int .i64 ca) ∧ w.cell? ⟨r, 7, none⟩ = some (.int .i64 wr) ∧ (∀ i, w.frozen? ⟨r, i, none⟩ = false) := by
  unfold RefAt at h
  exact ⟨by rw [h.cell]; rfl, by rw [h.cell]; rfl, by rw [h.cell]; rfl, by rw [h.cell]; rfl, by rw [h.cell]; rfl, by rw [h.cell]; rfl, by rw [h.cell]; rfl, by rw [h.cell]; rfl, h.frozen⟩

/-- Texts in a row of their own. -/
def RowS (w : World) (base : Nat) (v : Value) (ss : List ByteArray) : Prop := w.ownsRow base 9 1 v ss.length (ss.map Value.string)

theorem RowS.form {w : World} {base : Nat} {v : Value} {ss : List ByteArray} (h : RowS w base v ss) : ∃ p cap, v = .slice p ss.length cap := by
  rcases h.2 with ⟨hv, h0⟩ | ⟨g, cap, cur, hv, _⟩
  · exact ⟨none, 0, by rw [hv, h0]⟩
  · exact ⟨_, cap, hv⟩
theorem RowS.lt {w : World} {base : Nat} {v : Value} {ss : List ByteArray} (h : RowS w base v ss) (k : Nat) (hk : v.ownBlock = some k) : base ≤ k ∧ k < w.heap.size := by
  rcases h.2 with ⟨hv, _⟩ | ⟨g, cap, cur, hv, hb, hg, _⟩
  · rw [hv] at hk; cases hk
  · rw [hv] at hk; cases hk; exact ⟨hb, (Array.getElem?_eq_some_iff.1 hg).1⟩
theorem RowS.snoc {w : World} {base g cap n : Nat} {ss : List ByteArray} {b : ByteArray} (h : w.ownsRow base 9 1 (.slice (some ⟨g, 0, none⟩) n cap) n (ss.map Value.string ++ [.string b])) : RowS w base (.slice (some ⟨g, 0, none⟩) n cap) (ss ++ [b]) := by
  have hl : (ss ++ [b]).length = n := by have := h.1; simp at this; simp; omega
  unfold RowS
  rw [hl, List.map_append]
  exact h
theorem RowS.below_of {w w' : World} {base : Nat} {v : Value} {ss : List ByteArray} (h : RowS w base v ss) {B : Nat} (hb : B ≤ base) (hg : w.grownBy w' v.ownBlock) (hz : base ≤ w.heap.size) : Below B w w' := by
  refine (Below.refl _ _).grown hg (by omega) (fun k e => ?_)
  rcases h.2 with ⟨hv, _⟩ | ⟨g, cap, cur, hv, hbg, _⟩
  · rw [hv] at e; cases e
  · rw [hv] at e; cases e; exact Nat.le_trans hb hbg
/-- What was appended to a zone since it was reset last. -/
def frStep (z : Int) (l : List ByteArray) (c : RCall) : List ByteArray :=
  if c.k = 4 ∧ c.z = z then [] else if c.k = 1 ∧ c.z = z then l ++ [c.b] else l
def framesOfC (cs : List RCall) (z : Int) : List ByteArray := cs.foldl (frStep z) []
theorem framesOfC_snoc (cs : List RCall) (z : Int) (k : Nat) (c : RCall) (h : cs[k]? = some c) : framesOfC (cs.take (k + 1)) z = frStep z (framesOfC (cs.take k) z) c := by
  unfold framesOfC
  obtain ⟨hk, rfl⟩ := List.getElem?_eq_some_iff.1 h
  rw [List.take_succ_eq_append_getElem hk, List.foldl_append]
  rfl

theorem framesOfC_length (cs : List RCall) (z : Int) : (framesOfC cs z).length ≤ cs.length := by
  have h : ∀ (l : List ByteArray), (cs.foldl (frStep z) l).length ≤ l.length + cs.length := by
    induction cs with
    | nil => intro l; simp
    | cons c r ih =>
      intro l
      have := ih (frStep z l c)
      have h2 : (frStep z l c).length ≤ l.length + 1 := by
        unfold frStep
        split
        · simp
        · split
          · simp
          · omega
      simp only [List.foldl_cons, List.length_cons]
      omega
  have := h []
  unfold framesOfC
  simpa using this

theorem info9 : (Tryz.prog.info? 9).map (fun i => (i.zero, i.size, i.bytes)) = some (some (.string ByteArray.empty), 1, 16) := by kernel_rfl

set_option maxRecDepth 20000 in
set_option maxHeartbeats 1000000 in
theorem rframes_any (base r : Nat) (Z S C z : Int) (B : ByteArray) (L : Int) (dv : Value) (ca wr : Int) (cs : List RCall) (w : World) (hR : RefAt w r Z S C B L dv ca wr) (hD : DoneAt w base dv cs) (hn : cs.length < 1000000) :
    Calls Tryz.prog 145 #[.pointer (some ⟨r, 0, none⟩), .int .i64 z] w fun e w' => ∃ v, e = .returned v ∧ RowS w' w.heap.size v (framesOfC cs z) ∧ Below w.heap.size w w' := by
  obtain ⟨i9, hi9, hq9⟩ : ∃ i, Tryz.prog.info? 9 = some i ∧ (i.zero, i.size, i.bytes) = (some (Value.string ByteArray.empty), 1, 16) := by
    have := info9
    cases hq : Tryz.prog.info? 9 with
    | none => rw [hq] at this; cases this
    | some i => rw [hq] at this; exact ⟨i, rfl, by simpa using this⟩
  obtain ⟨c0, c1, c2, c3, c4, c5, c6, c7, cf⟩ := hR.cells
  have hrz := Cel.lt hR
  obtain ⟨p, cap, rfl, hcs⟩ := hD.form
  have hz0 : i9.zero = some (Value.string ByteArray.empty) := congrArg (·.1) hq9
  have hz1 : i9.size = 1 := congrArg (·.2.1) hq9
  have hz2 : i9.bytes = 16 := congrArg (·.2.2) hq9
  clear hq9
  have HN := (show Hid _ from hn)
  clear hn
  generalize hn : cs.length = n at *
  go_enter Tryz.func145, Tryz.ntmps145
  go_wp2
  clear c0 c1 c2 c3 c4 c6 c7 cf
  go_loopw [5, 6] (fun v i wr => ∃ k : Nat, k ≤ n ∧ i = .int .i64 k ∧ RowS wr w.heap.size v (framesOfC (cs.take k) z) ∧ Below w.heap.size w wr) (fun _ i _ => n - (intOf i).toNat)
  case atStart => exact ⟨0, Nat.zero_le _, rfl, World.ownsRow_nil _ _ _ _, Below.refl _ _⟩
  case round =>
    obtain ⟨k, hk, rfl, hrow, hb⟩ := hrel
    have q5 := (hb.cell (p := ⟨r, 5, none⟩) hrz).trans c5
    clear c5
    by_cases hlt : k < n
    · obtain ⟨g, rfl, _, hgz, hce⟩ := hcs (by omega)
      have hkc : cs[k]? = some cs[k] := List.getElem?_eq_getElem (by omega)
      have hsn := framesOfC_snoc cs z k _ hkc
      obtain ⟨d0, d1, d2, d3⟩ := hce k _ hkc
      have e0 := (hb.cell (p := ⟨g, k * 4, none⟩) hgz).trans d0
      have e1 := (hb.cell (p := ⟨g, k * 4 + 1, none⟩) hgz).trans d1
      have e2 := (hb.cell (p := ⟨g, k * 4 + 2, none⟩) hgz).trans d2
      have e3 := (hb.cell (p := ⟨g, k * 4 + 3, none⟩) hgz).trans d3
      clear d0 d1 d2 d3 hce
      have hlti : (k : Int) < (n : Int) := by omega
      generalize cs[k] = c at *
      by_cases hz : c.z = z
      · have hzb : (c.z == z) = true := by simpa using hz
        by_cases h1 : c.k = 1
        · have hkb : (c.k == 1) = true := by simpa using h1
          have hk4 : (c.k == 4) = false := by rw [h1]; rfl
          have hfl := framesOfC_length (cs.take k) z
          rw [List.length_take] at hfl
          have hst : frStep z (framesOfC (cs.take k) z) c = framesOfC (cs.take k) z ++ [c.b] := by unfold frStep; rw [if_neg (by omega), if_pos ⟨h1, hz⟩]
          rw [hst] at hsn
          obtain ⟨pv, cv, rfl⟩ := hrow.form
          have HROW : Hid (∀ o1 o2 : Obj, RowS ((wr.alloc o1).alloc o2) w.heap.size (.slice pv (framesOfC (cs.take k) z).length cv) (framesOfC (cs.take k) z)) := fun o1 o2 => World.ownsRow.alloc (World.ownsRow.alloc hrow o1) o2
          have HSN := (show Hid _ from hsn)
          have HFL : Hid ((framesOfC (cs.take k) z).length < 1000000) := by have := HN.out; show _ < _; omega
          have hbz := hb.size
          have HLT : Hid (∀ k', (Value.slice pv (framesOfC (cs.take k) z).length cv).ownBlock = some k' → w.heap.size ≤ k' ∧ k' < wr.heap.size) := hrow.lt
          clear hst hsn hfl hrow
          generalize framesOfC (cs.take k) z = ss at *
          go_wp2_with (at_builtin; go_loud (refine wpList_append_lies (P := Tryz.prog) _ rfl (.tmp 33) (.tmp 36) 39 rfl w.heap.size 9 i9 _ 1 16 Tryz.underlying39 hi9 hz0 hz1 hz2 rfl (by omega) (.slice pv ss.length cv) ss.length (ss.map Value.string) rfl (HROW.out _ _) ⟨wr.heap.size + 1, 0, none⟩ 1 1 [.string c.b] rfl rfl (fun j u hj => by cases j with | zero => (cases hj; simp [Addr.add]) | succ m => cases hj) (by intro u hu; simp at hu; subst hu; rfl) (by omega) (by have := HFL.out; unfold maxLen; omega) (by have := HFL.out; omega) (by simp; omega) (wr.heap.size + 2) (by simp) ?_))
          intro g2 cap2 w2 hown2 hgr2 hat2 hlt2
          have hz2' := hgr2.size
          simp only [World.size_alloc] at hz2'
          have hc2 : Cel w2 wr.heap.size 163 #[Value.int IntKind.i64 1, Value.int IntKind.i64 z, Value.int IntKind.i64 c.s, Value.string c.b] := by
            refine (hgr2.block wr.heap.size (by simp; omega) (fun e => ?_)).trans ?_
            · have := HLT.out _ e.symm; omega
            · rw [heap_alloc_old _ _ (by simp)]; exact heap_alloc_new wr _
          have k0 := hc2.cell 0
          have k1 := hc2.cell 1
          simp at k0 k1
          have hb2 : Below w.heap.size w w2 := (((hb.alloc hbz _).alloc (by simp; omega) _)).grown hgr2 (by simp; omega) (fun k e => (HLT.out k e).1)
          clear e0 e1 e2 e3 q5 hc2
          have hks : k < 1000000 := by have := HN.out; omega
          go_wp2
          go_roundw
          case rel => exact ⟨k + 1, by omega, by go_num, by rw [HSN.out]; exact RowS.snoc hown2, hb2⟩
          case measure => simp [intOf]; omega
        · have hkb : (c.k == 1) = false := by simpa using h1
          by_cases h4 : c.k = 4
          · have hk4 : (c.k == 4) = true := by simpa using h4
            have hst : frStep z (framesOfC (cs.take k) z) c = [] := by unfold frStep; rw [if_pos ⟨h4, hz⟩]
            rw [hst] at hsn
            have hbz := hb.size
            have hks : k < 1000000 := by have := HN.out; omega
            have HSN := (show Hid _ from hsn)
            clear hsn hst hrow
            go_wp2
            go_roundw
            case rel => exact ⟨k + 1, by omega, by go_num, by rw [HSN.out]; exact World.ownsRow_nil _ _ _ _, hb.alloc hbz _⟩
            case measure => simp [intOf]; omega
          · have hk4 : (c.k == 4) = false := by simpa using h4
            have hst : frStep z (framesOfC (cs.take k) z) c = framesOfC (cs.take k) z := by unfold frStep; rw [if_neg (fun h => h4 h.1), if_neg (fun h => h1 h.1)]
            rw [hst] at hsn
            have hbz := hb.size
            have hks : k < 1000000 := by have := HN.out; omega
            have HSN := (show Hid _ from hsn)
            have HROW := (show Hid _ from hrow)
            clear hsn hst hrow
            go_wp2
            go_roundw
            case rel => exact ⟨k + 1, by omega, by go_num, by rw [HSN.out]; exact World.ownsRow.alloc HROW.out _, hb.alloc hbz _⟩
            case measure => simp [intOf]; omega
      · have hzb : (c.z == z) = false := by simpa using hz
        have hst : frStep z (framesOfC (cs.take k) z) c = framesOfC (cs.take k) z := by unfold frStep; rw [if_neg (fun h => hz h.2), if_neg (fun h => hz h.2)]
        rw [hst] at hsn
        have hbz := hb.size
        have hks : k < 1000000 := by have := HN.out; omega
        have HSN := (show Hid _ from hsn)
        have HROW := (show Hid _ from hrow)
        clear hsn hst hrow
        have fin : ∀ o : Obj, RowS (wr.alloc o) w.heap.size _ (framesOfC (cs.take (k + 1)) z) := fun o => by rw [HSN.out]; exact World.ownsRow.alloc HROW.out o
        by_cases h1 : c.k = 1
        · have hkb : (c.k == 1) = true := by simpa using h1
          have hk4 : (c.k == 4) = false := by rw [h1]; rfl
          go_wp2
          go_roundw
          case rel => exact ⟨k + 1, by omega, by go_num, fin _, hb.alloc hbz _⟩
          case measure => simp [intOf]; omega
        · have hkb : (c.k == 1) = false := by simpa using h1
          by_cases h4 : c.k = 4
          · have hk4 : (c.k == 4) = true := by simpa using h4
            go_wp2
            go_roundw
            case rel => exact ⟨k + 1, by omega, by go_num, fin _, hb.alloc hbz _⟩
            case measure => simp [intOf]; omega
          · have hk4 : (c.k == 4) = false := by simpa using h4
            go_wp2
            go_roundw
            case rel => exact ⟨k + 1, by omega, by go_num, fin _, hb.alloc hbz _⟩
            case measure => simp [intOf]; omega
    · have hkn : k = n := by omega
      have hall : cs.take k = cs := List.take_of_length_le (by omega)
      rw [hall] at hrow
      have HROW := (show Hid _ from hrow)
      clear hrow
      go_wp2
      go_ret
      exact ⟨_, rfl, HROW.out, hb⟩
end Go.Proofs.YtloaefcgcniacaaGreatDoor

namespace Go.Proofs.YtloaefcgcniacaaGreatDoor
open Go.RowKit
set_option linter.unusedVariables false

/-- How many frames of a zone there are, and how many of them were there at the last Flush. -/
def kpStep (z : Int) (x : Nat × Nat) (c : RCall) : Nat × Nat :=
  if c.k = 4 ∧ c.z = z then (0, 0) else if c.k = 1 ∧ c.z = z then (x.1 + 1, x.2) else if c.k = 5 then (x.1, x.1) else x
def keptC (cs : List RCall) (z : Int) : Nat × Nat := cs.foldl (kpStep z) (0, 0)
theorem keptC_snoc (cs : List RCall) (z : Int) (k : Nat) (c : RCall) (h : cs[k]? = some c) : keptC (cs.take (k + 1)) z = kpStep z (keptC (cs.take k) z) c := by
  unfold keptC
  obtain ⟨hk, rfl⟩ := List.getElem?_eq_some_iff.1 h
  rw [List.take_succ_eq_append_getElem hk, List.foldl_append]
  rfl
theorem keptC_le (cs : List RCall) (z : Int) : (keptC cs z).1 ≤ cs.length := by
  have h : ∀ (x : Nat × Nat), (cs.foldl (kpStep z) x).1 ≤ x.1 + cs.length := by
    induction cs with
    | nil => intro l; simp
    | cons c r ih =>
      intro x
      have := ih (kpStep z x c)
      have h2 : (kpStep z x c).1 ≤ x.1 + 1 := by
        unfold kpStep
        split
        · simp
        · split
          · simp
          · split <;> simp
      simp only [List.foldl_cons, List.length_cons]
      omega
  have := h (0, 0)
  unfold keptC
  simpa using this

set_option maxRecDepth 20000 in
set_option maxHeartbeats 1000000 in
theorem rkept_any (base r : Nat) (Z S C z : Int) (B : ByteArray) (L : Int) (dv : Value) (ca wr : Int) (cs : List RCall) (w : World) (hR : RefAt w r Z S C B L dv ca wr) (hD : DoneAt w base dv cs) (hn : cs.length < 1000000) :
    Calls Tryz.prog 155 #[.pointer (some ⟨r, 0, none⟩), .int .i64 z] w fun e w' => e = .returned (.int .i64 ((keptC cs z).2 : Nat)) ∧ Below w.heap.size w w' := by
  obtain ⟨c0, c1, c2, c3, c4, c5, c6, c7, cf⟩ := hR.cells
  have hrz := Cel.lt hR
  obtain ⟨p, cap, rfl, hcs⟩ := hD.form
  have HN := (show Hid _ from hn)
  clear hn
  generalize hn : cs.length = n at *
  go_enter Tryz.func155, Tryz.ntmps155
  go_wp2
  clear c0 c1 c2 c3 c4 c6 c7 cf
  go_loopw [5, 6, 7] (fun a b i wr => ∃ k : Nat, k ≤ n ∧ i = .int .i64 k ∧ a = .int .i64 ((keptC (cs.take k) z).1 : Nat) ∧ b = .int .i64 ((keptC (cs.take k) z).2 : Nat) ∧ Below w.heap.size w wr) (fun _ _ i _ => n - (intOf i).toNat)
  case atStart => exact ⟨0, Nat.zero_le _, rfl, rfl, rfl, Below.refl _ _⟩
  case round =>
    obtain ⟨k, hk, rfl, rfl, rfl, hb⟩ := hrel
    have q5 := (hb.cell (p := ⟨r, 5, none⟩) hrz).trans c5
    clear c5
    by_cases hlt : k < n
    · obtain ⟨g, rfl, _, hgz, hce⟩ := hcs (by omega)
      have hkc : cs[k]? = some cs[k] := List.getElem?_eq_getElem (by omega)
      have hsn := keptC_snoc cs z k _ hkc
      obtain ⟨d0, d1, d2, d3⟩ := hce k _ hkc
      have e0 := (hb.cell (p := ⟨g, k * 4, none⟩) hgz).trans d0
      have e1 := (hb.cell (p := ⟨g, k * 4 + 1, none⟩) hgz).trans d1
      have e2 := (hb.cell (p := ⟨g, k * 4 + 2, none⟩) hgz).trans d2
      have e3 := (hb.cell (p := ⟨g, k * 4 + 3, none⟩) hgz).trans d3
      clear d0 d1 d2 d3 hce
      have hlti : (k : Int) < (n : Int) := by omega
      have hle := keptC_le (cs.take k) z
      rw [List.length_take] at hle
      have hks : k < 1000000 := by have := HN.out; omega
      have hle2 : (keptC (cs.take k) z).1 ≤ k := by omega
      have hbz := hb.size
      have HSN := (show Hid _ from hsn)
      clear hsn hle
      generalize keptC (cs.take k) z = x at *
      obtain ⟨x1, x2⟩ := x
      simp only at hle2 ⊢
      generalize cs[k] = c at *
      by_cases hz : c.z = z
      · have hzb : (c.z == z) = true := by simpa using hz
        by_cases h1 : c.k = 1
        · have hb1 : (c.k == 1) = true := by simpa using h1
          have hb4 : (c.k == 4) = false := by rw [h1]; rfl
          have hb5 : (c.k == 5) = false := by rw [h1]; rfl
          have HST : Hid (kpStep z (x1, x2) c = (x1 + 1, x2)) := by show _ = _; unfold kpStep; rw [if_neg (by omega), if_pos ⟨h1, hz⟩]
          go_wp2
          go_roundw
          case rel => exact ⟨k + 1, by omega, by go_num, by rw [HSN.out, HST.out]; try go_num, by rw [HSN.out, HST.out]; try rfl, hb.alloc hbz _⟩
          case measure => simp [intOf]; omega
        · have hb1 : (c.k == 1) = false := by simpa using h1
          by_cases h4 : c.k = 4
          · have hb4 : (c.k == 4) = true := by simpa using h4
            have hb5 : (c.k == 5) = false := by rw [h4]; rfl
            have HST : Hid (kpStep z (x1, x2) c = (0, 0)) := by show _ = _; unfold kpStep; rw [if_pos ⟨h4, hz⟩]
            go_wp2
            go_roundw
            case rel => exact ⟨k + 1, by omega, by go_num, by rw [HSN.out, HST.out]; try go_num, by rw [HSN.out, HST.out]; try rfl, hb.alloc hbz _⟩
            case measure => simp [intOf]; omega
          · have hb4 : (c.k == 4) = false := by simpa using h4
            by_cases h5 : c.k = 5
            · have hb5 : (c.k == 5) = true := by simpa using h5
              have HST : Hid (kpStep z (x1, x2) c = (x1, x1)) := by show _ = _; unfold kpStep; rw [if_neg (by omega), if_neg (by omega), if_pos h5]
              go_wp2
              go_roundw
              case rel => exact ⟨k + 1, by omega, by go_num, by rw [HSN.out, HST.out]; try go_num, by rw [HSN.out, HST.out]; try rfl, hb.alloc hbz _⟩
              case measure => simp [intOf]; omega
            · have hb5 : (c.k == 5) = false := by simpa using h5
              have HST : Hid (kpStep z (x1, x2) c = (x1, x2)) := by show _ = _; unfold kpStep; rw [if_neg (by omega), if_neg (by omega), if_neg (by omega)]
              go_wp2
              go_roundw
              case rel => exact ⟨k + 1, by omega, by go_num, by rw [HSN.out, HST.out]; try go_num, by rw [HSN.out, HST.out]; try rfl, hb.alloc hbz _⟩
              case measure => simp [intOf]; omega
      · have hzb : (c.z == z) = false := by simpa using hz
        by_cases h1 : c.k = 1
        · have hb1 : (c.k == 1) = true := by simpa using h1
          have hb4 : (c.k == 4) = false := by rw [h1]; rfl
          have hb5 : (c.k == 5) = false := by rw [h1]; rfl
          have HST : Hid (kpStep z (x1, x2) c = (x1, x2)) := by show _ = _; unfold kpStep; rw [if_neg (by omega), if_neg (by omega), if_neg (by omega)]
          go_wp2
          go_roundw
          case rel => exact ⟨k + 1, by omega, by go_num, by rw [HSN.out, HST.out]; try go_num, by rw [HSN.out, HST.out]; try rfl, hb.alloc hbz _⟩
          case measure => simp [intOf]; omega
        · have hb1 : (c.k == 1) = false := by simpa using h1
          by_cases h4 : c.k = 4
          · have hb4 : (c.k == 4) = true := by simpa using h4
            have hb5 : (c.k == 5) = false := by rw [h4]; rfl
            have HST : Hid (kpStep z (x1, x2) c = (x1, x2)) := by show _ = _; unfold kpStep; rw [if_neg (by omega), if_neg (by omega), if_neg (by omega)]
            go_wp2
            go_roundw
            case rel => exact ⟨k + 1, by omega, by go_num, by rw [HSN.out, HST.out]; try go_num, by rw [HSN.out, HST.out]; try rfl, hb.alloc hbz _⟩
            case measure => simp [intOf]; omega
          · have hb4 : (c.k == 4) = false := by simpa using h4
            by_cases h5 : c.k = 5
            · have hb5 : (c.k == 5) = true := by simpa using h5
              have HST : Hid (kpStep z (x1, x2) c = (x1, x1)) := by show _ = _; unfold kpStep; rw [if_neg (by omega), if_neg (by omega), if_pos h5]
              go_wp2
              go_roundw
              case rel => exact ⟨k + 1, by omega, by go_num, by rw [HSN.out, HST.out]; try go_num, by rw [HSN.out, HST.out]; try rfl, hb.alloc hbz _⟩
              case measure => simp [intOf]; omega
            · have hb5 : (c.k == 5) = false := by simpa using h5
              have HST : Hid (kpStep z (x1, x2) c = (x1, x2)) := by show _ = _; unfold kpStep; rw [if_neg (by omega), if_neg (by omega), if_neg (by omega)]
              go_wp2
              go_roundw
              case rel => exact ⟨k + 1, by omega, by go_num, by rw [HSN.out, HST.out]; try go_num, by rw [HSN.out, HST.out]; try rfl, hb.alloc hbz _⟩
              case measure => simp [intOf]; omega
    · have hkn : k = n := by omega
      have hall : cs.take k = cs := List.take_of_length_le (by omega)
      rw [hall]
      go_wp2
      go_ret
      exact ⟨rfl, hb⟩
end Go.Proofs.YtloaefcgcniacaaGreatDoor

namespace Go.Proofs.YtloaefcgcniacaaGreatDoor
open Go.RowKit
set_option linter.unusedVariables false

/-- The anchor's count, and what is bound. -/
def anStep (x : Int × ByteArray) (c : RCall) : Int × ByteArray := if c.k = 7 then (x.1 + 1, c.b) else x
def anchC (C : Int) (B : ByteArray) (cs : List RCall) : Int × ByteArray := cs.foldl anStep (C, B)
theorem anchC_snoc (C : Int) (B : ByteArray) (cs : List RCall) (k : Nat) (c : RCall) (h : cs[k]? = some c) : anchC C B (cs.take (k + 1)) = anStep (anchC C B (cs.take k)) c := by
  unfold anchC
  obtain ⟨hk, rfl⟩ := List.getElem?_eq_some_iff.1 h
  rw [List.take_succ_eq_append_getElem hk, List.foldl_append]
  rfl
theorem anchC_le (C : Int) (B : ByteArray) (cs : List RCall) : C ≤ (anchC C B cs).1 ∧ (anchC C B cs).1 ≤ C + cs.length := by
  have h : ∀ (x : Int × ByteArray), x.1 ≤ (cs.foldl anStep x).1 ∧ (cs.foldl anStep x).1 ≤ x.1 + cs.length := by
    induction cs with
    | nil => intro l; simp
    | cons c r ih =>
      intro x
      have := ih (anStep x c)
      have h2 : (anStep x c).1 = x.1 ∨ (anStep x c).1 = x.1 + 1 := by
        unfold anStep
        split
        · right; rfl
        · left; rfl
      simp only [List.foldl_cons, List.length_cons]
      omega
  exact h (C, B)

set_option maxRecDepth 20000 in
set_option maxHeartbeats 1000000 in
theorem ranchored_any (base r : Nat) (Z S C : Int) (B : ByteArray) (L : Int) (dv : Value) (ca wr : Int) (cs : List RCall) (w : World) (hR : RefAt w r Z S C B L dv ca wr) (hD : DoneAt w base dv cs) (hn : cs.length < 1000000) (hC : 0 ≤ C) (hC2 : C ≤ 4294967295) :
    Calls Tryz.prog 149 #[.pointer (some ⟨r, 0, none⟩)] w fun e w' => e = .returned (.tuple #[.int .i64 (anchC C B cs).1, .string (anchC C B cs).2]) ∧ Below w.heap.size w w' := by
  obtain ⟨c0, c1, c2, c3, c4, c5, c6, c7, cf⟩ := hR.cells
  have hrz := Cel.lt hR
  obtain ⟨p, cap, rfl, hcs⟩ := hD.form
  have HN := (show Hid _ from hn)
  clear hn
  generalize hn : cs.length = n at *
  go_enter Tryz.func149, Tryz.ntmps149
  go_wp2
  clear c0 c1 c2 c3 c4 c6 c7 cf
  go_loopw [4, 5, 6] (fun a b i wr => ∃ k : Nat, k ≤ n ∧ i = .int .i64 k ∧ a = .int .i64 (anchC C B (cs.take k)).1 ∧ b = .string (anchC C B (cs.take k)).2 ∧ Below w.heap.size w wr) (fun _ _ i _ => n - (intOf i).toNat)
  case atStart => exact ⟨0, Nat.zero_le _, rfl, rfl, rfl, Below.refl _ _⟩
  case round =>
    obtain ⟨k, hk, rfl, rfl, rfl, hb⟩ := hrel
    have q5 := (hb.cell (p := ⟨r, 5, none⟩) hrz).trans c5
    clear c5
    by_cases hlt : k < n
    · obtain ⟨g, rfl, _, hgz, hce⟩ := hcs (by omega)
      have hkc : cs[k]? = some cs[k] := List.getElem?_eq_getElem (by omega)
      have hsn := anchC_snoc C B cs k _ hkc
      obtain ⟨d0, d1, d2, d3⟩ := hce k _ hkc
      have e0 := (hb.cell (p := ⟨g, k * 4, none⟩) hgz).trans d0
      have e1 := (hb.cell (p := ⟨g, k * 4 + 1, none⟩) hgz).trans d1
      have e2 := (hb.cell (p := ⟨g, k * 4 + 2, none⟩) hgz).trans d2
      have e3 := (hb.cell (p := ⟨g, k * 4 + 3, none⟩) hgz).trans d3
      clear d0 d1 d2 d3 hce
      have hlti : (k : Int) < (n : Int) := by omega
      have hle := anchC_le C B (cs.take k)
      rw [List.length_take] at hle
      have hks : k < 1000000 := by have := HN.out; omega
      have hle1 : 0 ≤ (anchC C B (cs.take k)).1 := by omega
      have hle2 : (anchC C B (cs.take k)).1 ≤ 4296967295 := by omega
      have hbz := hb.size
      have HSN := (show Hid _ from hsn)
      clear hsn hle
      generalize anchC C B (cs.take k) = x at *
      obtain ⟨x1, x2⟩ := x
      simp only at hle1 hle2 ⊢
      generalize cs[k] = c at *
      by_cases h7 : c.k = 7
      · have hb7 : (c.k == 7) = true := by simpa using h7
        have HST : Hid (anStep (x1, x2) c = (x1 + 1, c.b)) := by show _ = _; unfold anStep; rw [if_pos h7]
        go_wp2
        go_roundw
        case rel => exact ⟨k + 1, by omega, by go_num, by rw [HSN.out, HST.out], by rw [HSN.out, HST.out], hb⟩
        case measure => simp [intOf]; omega
      · have hb7 : (c.k == 7) = false := by simpa using h7
        have HST : Hid (anStep (x1, x2) c = (x1, x2)) := by show _ = _; unfold anStep; rw [if_neg h7]
        go_wp2
        go_roundw
        case rel => exact ⟨k + 1, by omega, by go_num, by rw [HSN.out, HST.out], by rw [HSN.out, HST.out], hb⟩
        case measure => simp [intOf]; omega
    · have hkn : k = n := by omega
      have hall : cs.take k = cs := List.take_of_length_le (by omega)
      rw [hall]
      go_wp2
      go_ret2
      exact ⟨rfl, hb⟩

/-- All that was ever appended. -/
def lgStep (l : List ByteArray) (c : RCall) : List ByteArray := if c.k = 1 then l ++ [c.b] else l
def logC (cs : List RCall) : List ByteArray := cs.foldl lgStep []
theorem logC_snoc (cs : List RCall) (k : Nat) (c : RCall) (h : cs[k]? = some c) : logC (cs.take (k + 1)) = lgStep (logC (cs.take k)) c := by
  unfold logC
  obtain ⟨hk, rfl⟩ := List.getElem?_eq_some_iff.1 h
  rw [List.take_succ_eq_append_getElem hk, List.foldl_append]
  rfl
theorem logC_length (cs : List RCall) : (logC cs).length ≤ cs.length := by
  have h : ∀ (l : List ByteArray), (cs.foldl lgStep l).length ≤ l.length + cs.length := by
    induction cs with
    | nil => intro l; simp
    | cons c r ih =>
      intro l
      have := ih (lgStep l c)
      have h2 : (lgStep l c).length ≤ l.length + 1 := by
        unfold lgStep
        split
        · simp
        · omega
      simp only [List.foldl_cons, List.length_cons]
      omega
  have := h []
  unfold logC
  simpa using this

set_option maxRecDepth 20000 in
set_option maxHeartbeats 1000000 in
theorem rlog_any (base r : Nat) (Z S C : Int) (B : ByteArray) (L : Int) (dv : Value) (ca wr : Int) (cs : List RCall) (w : World) (hR : RefAt w r Z S C B L dv ca wr) (hD : DoneAt w base dv cs) (hn : cs.length < 1000000) :
    Calls Tryz.prog 153 #[.pointer (some ⟨r, 0, none⟩)] w fun e w' => ∃ v, e = .returned v ∧ RowS w' w.heap.size v (logC cs) ∧ Below w.heap.size w w' := by
  obtain ⟨i9, hi9, hq9⟩ : ∃ i, Tryz.prog.info? 9 = some i ∧ (i.zero, i.size, i.bytes) = (some (Value.string ByteArray.empty), 1, 16) := by
    have := info9
    cases hq : Tryz.prog.info? 9 with
    | none => rw [hq] at this; cases this
    | some i => rw [hq] at this; exact ⟨i, rfl, by simpa using this⟩
  obtain ⟨c0, c1, c2, c3, c4, c5, c6, c7, cf⟩ := hR.cells
  have hrz := Cel.lt hR
  obtain ⟨p, cap, rfl, hcs⟩ := hD.form
  have hz0 : i9.zero = some (Value.string ByteArray.empty) := congrArg (·.1) hq9
  have hz1 : i9.size = 1 := congrArg (·.2.1) hq9
  have hz2 : i9.bytes = 16 := congrArg (·.2.2) hq9
  clear hq9
  have HN := (show Hid _ from hn)
  clear hn
  generalize hn : cs.length = n at *
  go_enter Tryz.func153, Tryz.ntmps153
  go_wp2
  clear c0 c1 c2 c3 c4 c6 c7 cf
  go_loopw [3, 4] (fun v i wr => ∃ k : Nat, k ≤ n ∧ i = .int .i64 k ∧ RowS wr w.heap.size v (logC (cs.take k)) ∧ Below w.heap.size w wr) (fun _ i _ => n - (intOf i).toNat)
  case atStart => exact ⟨0, Nat.zero_le _, rfl, World.ownsRow_nil _ _ _ _, Below.refl _ _⟩
  case round =>
    obtain ⟨k, hk, rfl, hrow, hb⟩ := hrel
    have q5 := (hb.cell (p := ⟨r, 5, none⟩) hrz).trans c5
    clear c5
    by_cases hlt : k < n
    · obtain ⟨g, rfl, _, hgz, hce⟩ := hcs (by omega)
      have hkc : cs[k]? = some cs[k] := List.getElem?_eq_getElem (by omega)
      have hsn := logC_snoc cs k _ hkc
      obtain ⟨d0, d1, d2, d3⟩ := hce k _ hkc
      have e0 := (hb.cell (p := ⟨g, k * 4, none⟩) hgz).trans d0
      have e3 := (hb.cell (p := ⟨g, k * 4 + 3, none⟩) hgz).trans d3
      clear d0 d1 d2 d3 hce
      have hlti : (k : Int) < (n : Int) := by omega
      have hks : k < 1000000 := by have := HN.out; omega
      generalize cs[k] = c at *
      by_cases h1 : c.k = 1
      · have hkb : (c.k == 1) = true := by simpa using h1
        have hfl := logC_length (cs.take k)
        rw [List.length_take] at hfl
        have hst : lgStep (logC (cs.take k)) c = logC (cs.take k) ++ [c.b] := by unfold lgStep; rw [if_pos h1]
        rw [hst] at hsn
        obtain ⟨pv, cv, rfl⟩ := hrow.form
        have HROW : Hid (∀ o1 : Obj, RowS (wr.alloc o1) w.heap.size (.slice pv (logC (cs.take k)).length cv) (logC (cs.take k))) := fun o1 => World.ownsRow.alloc hrow o1
        have HSN := (show Hid _ from hsn)
        have HFL : Hid ((logC (cs.take k)).length < 1000000) := by show _ < _; omega
        have hbz := hb.size
        have HLT : Hid (∀ k', (Value.slice pv (logC (cs.take k)).length cv).ownBlock = some k' → w.heap.size ≤ k' ∧ k' < wr.heap.size) := hrow.lt
        clear hst hsn hfl hrow
        generalize logC (cs.take k) = ss at *
        go_wp2_with (at_builtin; go_loud (refine wpList_append_lies (P := Tryz.prog) _ rfl (.tmp 23) (.tmp 32) 39 rfl w.heap.size 9 i9 _ 1 16 Tryz.underlying39 hi9 hz0 hz1 hz2 rfl (by omega) (.slice pv ss.length cv) ss.length (ss.map Value.string) rfl (HROW.out _) ⟨wr.heap.size, 0, none⟩ 1 1 [.string c.b] rfl rfl (fun j u hj => by cases j with | zero => (cases hj; simp [Addr.add]) | succ m => cases hj) (by intro u hu; simp at hu; subst hu; rfl) (by omega) (by have := HFL.out; unfold maxLen; omega) (by have := HFL.out; omega) (by simp; omega) (wr.heap.size + 1) (by simp) ?_))
        intro g2 cap2 w2 hown2 hgr2 hat2 hlt2
        have hz2' := hgr2.size
        simp only [World.size_alloc] at hz2'
        have hb2 : Below w.heap.size w w2 := (hb.alloc hbz _).grown hgr2 (by simp; omega) (fun k e => (HLT.out k e).1)
        clear e0 e3 q5
        go_wp2
        go_roundw
        case rel => exact ⟨k + 1, by omega, by go_num, by rw [HSN.out]; exact RowS.snoc hown2, hb2⟩
        case measure => simp [intOf]; omega
      · have hkb : (c.k == 1) = false := by simpa using h1
        have hst : lgStep (logC (cs.take k)) c = logC (cs.take k) := by unfold lgStep; rw [if_neg h1]
        rw [hst] at hsn
        have HSN := (show Hid _ from hsn)
        have HROW := (show Hid _ from hrow)
        clear hsn hst hrow
        go_wp2
        go_roundw
        case rel => exact ⟨k + 1, by omega, by go_num, by rw [HSN.out]; exact HROW.out, hb⟩
        case measure => simp [intOf]; omega
    · have hkn : k = n := by omega
      have hall : cs.take k = cs := List.take_of_length_le (by omega)
      rw [hall] at hrow
      have HROW := (show Hid _ from hrow)
      clear hrow
      go_wp2
      go_ret
      exact ⟨_, rfl, HROW.out, hb⟩
end Go.Proofs.YtloaefcgcniacaaGreatDoor

namespace Go.Proofs.YtloaefcgcniacaaGreatDoor
open Go.RowKit
set_option linter.unusedVariables false

/-- Nothing that was there is changed but blocks of S. -/
structure Chg (w w' : World) (S : Nat → Prop) : Prop where
  os : w'.os = w.os
  tape : w'.tape = w.tape
  output : w'.output = w.output
  size : w.heap.size ≤ w'.heap.size
  block : ∀ k, k < w.heap.size → ¬ S k → w'.heap[k]? = w.heap[k]?
theorem Chg.refl (w : World) (S : Nat → Prop) : Chg w w S := ⟨rfl, rfl, rfl, Nat.le_refl _, fun _ _ _ => rfl⟩
theorem Chg.trans {a b c : World} {S T : Nat → Prop} (h : Chg a b S) (k : Chg b c T) (hT : ∀ i, i < a.heap.size → T i → S i) : Chg a c S :=
  ⟨k.os.trans h.os, k.tape.trans h.tape, k.output.trans h.output, Nat.le_trans h.size k.size, fun i hi hs => (k.block i (Nat.lt_of_lt_of_le hi h.size) (fun ht => hs (hT i hi ht))).trans (h.block i hi hs)⟩
theorem Chg.mono {a b : World} {S T : Nat → Prop} (h : Chg a b S) (hT : ∀ i, i < a.heap.size → S i → T i) : Chg a b T :=
  ⟨h.os, h.tape, h.output, h.size, fun i hi ht => h.block i hi (fun hs => ht (hT i hi hs))⟩
theorem Chg.of_below {a b : World} (h : Below a.heap.size a b) (S : Nat → Prop) : Chg a b S := ⟨h.os, h.tape, h.output, h.size, fun k hk _ => h.block k hk⟩
theorem Chg.of_only {a b : World} {g : Nat} (h : Only a b g) : Chg a b (fun k => k = g) := ⟨h.1.os, h.1.tape, h.1.output, h.1.size, fun k hk hs => h.block hs⟩
theorem Chg.of_grown {a b : World} {row : Option Nat} (h : a.grownBy b row) : Chg a b (fun k => row = some k) := ⟨h.os, h.tape, h.output, h.size, fun k hk hs => h.block k hk (fun e => hs e.symm)⟩
theorem Chg.below {a b : World} {S : Nat → Prop} {B : Nat} (h : Chg a b S) (hS : ∀ k, S k → B ≤ k) (hB : B ≤ a.heap.size) : Below B a b :=
  ⟨h.os, h.tape, h.output, h.size, fun k hk => h.block k (by omega) (fun hs => by have := hS k hs; omega)⟩
theorem Cel.chg {w w' : World} {S : Nat → Prop} {g : Nat} {t : TypeId} {cs : Array Value} (h : Cel w g t cs) (hc : Chg w w' S) (hg : ¬ S g) : Cel w' g t cs := (hc.block g h.lt hg).trans h
theorem ownsRow_chg {w w' : World} {S : Nat → Prop} {base sz n : Nat} {e : TypeId} {v : Value} {xs : List Value} (h : w.ownsRow base e sz v n xs) (hc : Chg w w' S) (hg : ∀ k, v.ownBlock = some k → ¬ S k) : w'.ownsRow base e sz v n xs := by
  refine ⟨h.1, ?_⟩
  rcases h.2 with h2 | ⟨g, cap, cur, hv, hb, hgg, r⟩
  · exact .inl h2
  · exact .inr ⟨g, cap, cur, hv, hb, (hc.block g (Array.getElem?_eq_some_iff.1 hgg).1 (hg g (by rw [hv]; rfl))).trans hgg, r⟩

/-- Is the call allowed? -/
def mayC (cs : List RCall) (Z S C : Int) (B : ByteArray) (c : RCall) : Bool :=
  if c.k = 5 ∨ c.k = 6 then true
  else if c.k = 7 then decide ((anchC C B cs).1 < 4294967295 ∧ (c.b.size : Int) ≤ 32)
  else if c.z < 0 ∨ Z ≤ c.z then false
  else if c.k = 1 then decide ((c.b.size : Int) = 58 ∧ ((framesOfC cs c.z).length : Int) < S)
  else if c.k = 2 then decide (0 ≤ c.s ∧ c.s < (framesOfC cs c.z).length)
  else true

set_option maxRecDepth 20000 in
set_option maxHeartbeats 2000000 in
theorem rmay_any (base r : Nat) (Z S C : Int) (B : ByteArray) (L : Int) (dv : Value) (ca wr : Int) (cs : List RCall) (c : RCall) (w : World) (hR : RefAt w r Z S C B L dv ca wr) (hD : DoneAt w base dv cs) (hn : cs.length < 1000000) (hC : 0 ≤ C) (hC2 : C ≤ 4294967295) (hb : c.b.size ≤ 2000000) :
    Calls Tryz.prog 152 #[.pointer (some ⟨r, 0, none⟩), .agg #[.int .i64 c.k, .int .i64 c.z, .int .i64 c.s, .string c.b]] w fun e w' => e = .returned (.bool (mayC cs Z S C B c)) ∧ Below w.heap.size w w' := by
  obtain ⟨ck, cz, csl, cb⟩ := c
  simp only at hb ⊢
  have hbx : ∀ o, Below w.heap.size w (w.alloc o) := fun o => (Below.refl _ _).alloc (Nat.le_refl _) _
  have HR : Hid (∀ o, RefAt (w.alloc o) r Z S C B L dv ca wr) := fun o => Cel.below hR (hbx o) hR.lt
  have HRq : Hid (∀ o q, RefAt ((w.alloc o).drewN q) r Z S C B L dv ca wr) := fun o q => Cel.below hR (below_drewN (hbx o) q) hR.lt
  have HDq : Hid (∀ o q, DoneAt ((w.alloc o).drewN q) base dv cs) := fun o q => World.ownsRow.alloc hD o
  have HD : Hid (∀ o, DoneAt (w.alloc o) base dv cs) := fun o => World.ownsRow.alloc hD o
  have HH : Hid (cs.length < 1000000 ∧ 0 ≤ C ∧ C ≤ 4294967295 ∧ cb.size ≤ 2000000) := ⟨hn, hC, hC2, hb⟩
  clear hn hC hC2 hb
  by_cases h5 : ck = 5
  · subst h5
    go_enter Tryz.func152, Tryz.ntmps152
    go_wp2
    go_ret
    exact ⟨rfl, hbx _⟩
  · have hb5 : (ck == 5) = false := by simpa using h5
    by_cases h6 : ck = 6
    · subst h6
      go_enter Tryz.func152, Tryz.ntmps152
      go_wp2
      go_ret
      exact ⟨rfl, hbx _⟩
    · have hb6 : (ck == 6) = false := by simpa using h6
      by_cases h7 : ck = 7
      · subst h7
        have e : mayC cs Z S C B ⟨7, cz, csl, cb⟩ = decide ((anchC C B cs).1 < 4294967295 ∧ (cb.size : Int) ≤ 32) := by unfold mayC; rw [if_neg (by simp), if_pos rfl]
        rw [e]
        go_enter Tryz.func152, Tryz.ntmps152
        go_wp2_with fail
        refine (ranchored_any base r Z S C B L dv ca wr cs _ (HR.out _) (HD.out _) HH.out.1 HH.out.2.1 HH.out.2.2.1).mono ?_
        rintro e w1 ⟨rfl, hb1⟩
        have hz1 := hb1.size
        simp only [World.size_alloc] at hz1
        have hcel : Cel w1 w.heap.size 163 #[Value.int IntKind.i64 7, Value.int IntKind.i64 cz, Value.int IntKind.i64 csl, Value.string cb] := (Cel.new w 163 _).below hb1 (by simp)
        have k0 := hcel.cell 0
        have k1 := hcel.cell 1
        have k2 := hcel.cell 2
        have k3 := hcel.cell 3
        simp at k0 k1 k2 k3
        have hb01 : Below w.heap.size w w1 := (hbx _).trans (hb1.mono (by simp))
        clear hcel hb1
        generalize hx : anchC C B cs = x at *
        obtain ⟨x1, x2⟩ := x
        have HX := (show Hid _ from hx)
        clear hx e
        simp only
        by_cases q1 : x1 < 4294967295
        · by_cases q2 : (cb.size : Int) ≤ 32
          · go_wp2
            go_ret
            exact ⟨ret_bool (by rw [HX.out]; simp [q1, q2]), hb01⟩
          · go_wp2
            go_ret
            exact ⟨ret_bool (by rw [HX.out]; simp [q1, q2]), hb01⟩
        · go_wp2
          go_ret
          exact ⟨ret_bool (by rw [HX.out]; simp; omega), hb01⟩
      · have hb7 : (ck == 7) = false := by simpa using h7
        obtain ⟨c0, c1, c2, c3, c4, c5, c6, c7, cf⟩ := (HR.out (Obj.cells #[Value.int IntKind.i64 ck, Value.int IntKind.i64 cz, Value.int IntKind.i64 csl, Value.string cb] 163)).cells
        clear c1 c2 c3 c4 c5 c6 c7 cf
        by_cases q1 : cz < 0
        · have e : mayC cs Z S C B ⟨ck, cz, csl, cb⟩ = false := by unfold mayC; rw [if_neg (by simp [h5, h6]), if_neg h7, if_pos (.inl q1)]
          rw [e]
          have q1d : decide (cz < 0) = true := decide_eq_true q1
          go_enter Tryz.func152, Tryz.ntmps152
          go_wp2_with fail
          go_quiet (fail)
          go_wp2
          go_ret
          exact ⟨rfl, below_drewN (hbx _) _⟩
        · have q1d : decide (cz < 0) = false := decide_eq_false q1
          by_cases q2 : Z ≤ cz
          · have e : mayC cs Z S C B ⟨ck, cz, csl, cb⟩ = false := by unfold mayC; rw [if_neg (by simp [h5, h6]), if_neg h7, if_pos (.inr q2)]
            rw [e]
            go_enter Tryz.func152, Tryz.ntmps152
            go_wp2_with fail
            go_quiet (fail)
            go_wp2
            go_ret
            exact ⟨rfl, below_drewN (hbx _) _⟩
          · have HM : Hid (mayC cs Z S C B ⟨ck, cz, csl, cb⟩ = (if ck = 1 then decide ((cb.size : Int) = 58 ∧ ((framesOfC cs cz).length : Int) < S) else if ck = 2 then decide (0 ≤ csl ∧ csl < (framesOfC cs cz).length) else true)) := by
              show _ = _
              unfold mayC
              rw [if_neg (by simp [h5, h6]), if_neg h7, if_neg (fun h => h.elim q1 q2)]
            go_enter Tryz.func152, Tryz.ntmps152
            go_wp2_with fail
            go_quiet (fail)
            go_wp2_with fail
            refine (rframes_any base r Z S C cz B L dv ca wr cs _ (HRq.out _ _) (HDq.out _ _) HH.out.1).mono ?_
            rintro e w1 ⟨v1, rfl, hrow, hb1⟩
            obtain ⟨pv, cv, rfl⟩ := hrow.form
            have hR1 : RefAt w1 r Z S C B L dv ca wr := Cel.below (HRq.out (Obj.cells #[Value.int IntKind.i64 ck, Value.int IntKind.i64 cz, Value.int IntKind.i64 csl, Value.string cb] 163) _) hb1 (HRq.out _ _).lt
            obtain ⟨d0, d1, d2, d3, d4, d5, d6, d7, df⟩ := hR1.cells
            clear hrow c0 d0 d2 d3 d4 d5 d6 d7 df hR1
            have hz1 := hb1.size
            have hz1' : w.heap.size + 1 ≤ w1.heap.size := by simpa using hz1
            have hcel : Cel w1 w.heap.size 163 #[Value.int IntKind.i64 ck, Value.int IntKind.i64 cz, Value.int IntKind.i64 csl, Value.string cb] := (show Cel ((w.alloc (Obj.cells #[Value.int IntKind.i64 ck, Value.int IntKind.i64 cz, Value.int IntKind.i64 csl, Value.string cb] 163)).drewN _) w.heap.size 163 _ from Cel.new w 163 _).below hb1 (by simp)
            have k0 := hcel.cell 0
            have k1 := hcel.cell 1
            have k2 := hcel.cell 2
            have k3 := hcel.cell 3
            simp at k0 k1 k2 k3
            have hb01 : Below w.heap.size w w1 := (below_drewN (hbx _) _).trans (hb1.mono (by simp))
            clear hcel hb1
            generalize hfs : framesOfC cs cz = fs at *
            clear hfs
            by_cases h1 : ck = 1
            · subst h1
              by_cases q3 : (cb.size : Int) = 58
              · have q3b : ((cb.size : Int) == 58) = true := by simpa using q3
                have HQ3 := (show Hid _ from q3)
                clear q3
                by_cases q4 : (fs.length : Int) < S
                · have HQ : Hid (mayC cs Z S C B ⟨1, cz, csl, cb⟩ = true) := by show _ = _; rw [HM.out, if_pos rfl]; exact decide_eq_true ⟨HQ3.out, q4⟩
                  go_wp2
                  go_ret
                  exact ⟨ret_bool (by first | (rw [HQ.out]; done) | (rw [HQ.out]; simp; done) | (rw [HQ.out]; simp; omega)), hb01⟩
                · have HQ : Hid (mayC cs Z S C B ⟨1, cz, csl, cb⟩ = false) := by show _ = _; rw [HM.out, if_pos rfl]; exact decide_eq_false (fun h => q4 h.2)
                  go_wp2
                  go_ret
                  exact ⟨ret_bool (by first | (rw [HQ.out]; done) | (rw [HQ.out]; simp; done) | (rw [HQ.out]; simp; omega)), hb01⟩
              · have q3b : ((cb.size : Int) == 58) = false := by simpa using q3
                have HQ : Hid (mayC cs Z S C B ⟨1, cz, csl, cb⟩ = false) := by show _ = _; rw [HM.out, if_pos rfl]; exact decide_eq_false (fun h => q3 h.1)
                clear q3
                go_wp2
                go_ret
                exact ⟨ret_bool (by rw [HQ.out]), hb01⟩
            · have hb1' : (ck == 1) = false := by simpa using h1
              by_cases h2 : ck = 2
              · subst h2
                by_cases q3 : 0 ≤ csl
                · by_cases q4 : csl < (fs.length : Int)
                  · have HQ : Hid (mayC cs Z S C B ⟨2, cz, csl, cb⟩ = true) := by show _ = _; rw [HM.out, if_neg (by decide), if_pos rfl]; exact decide_eq_true ⟨q3, q4⟩
                    go_wp2
                    go_ret
                    exact ⟨ret_bool (by first | (rw [HQ.out]; done) | (rw [HQ.out]; simp; done) | (rw [HQ.out]; simp; omega)), hb01⟩
                  · have HQ : Hid (mayC cs Z S C B ⟨2, cz, csl, cb⟩ = false) := by show _ = _; rw [HM.out, if_neg (by decide), if_pos rfl]; exact decide_eq_false (fun h => q4 h.2)
                    go_wp2
                    go_ret
                    exact ⟨ret_bool (by first | (rw [HQ.out]; done) | (rw [HQ.out]; simp; done) | (rw [HQ.out]; simp; omega)), hb01⟩
                · have HQ : Hid (mayC cs Z S C B ⟨2, cz, csl, cb⟩ = false) := by show _ = _; rw [HM.out, if_neg (by decide), if_pos rfl]; exact decide_eq_false (fun h => q3 h.1)
                  go_wp2
                  go_ret
                  exact ⟨ret_bool (by first | (rw [HQ.out]; done) | (rw [HQ.out]; simp; done) | (rw [HQ.out]; simp; omega)), hb01⟩
              · have HQ : Hid (mayC cs Z S C B ⟨ck, cz, csl, cb⟩ = true) := by show _ = _; rw [HM.out, if_neg h1, if_neg h2]
                have hb2' : (ck != 2) = true := by simpa using h2
                go_wp2
                go_ret
                exact ⟨ret_bool (by rw [HQ.out]), hb01⟩
end Go.Proofs.YtloaefcgcniacaaGreatDoor

namespace Go.Proofs.YtloaefcgcniacaaGreatDoor
open Go.RowKit
set_option linter.unusedVariables false

theorem rdo_off (r : Nat) (Z S C : Int) (B : ByteArray) (dv : Value) (ca wr : Int) (c : RCall) (w : World) (hR : RefAt w r Z S C B 0 dv ca wr) :
    Calls Tryz.prog 95 #[.pointer (some ⟨r, 0, none⟩), .agg #[.int .i64 c.k, .int .i64 c.z, .int .i64 c.s, .string c.b]] w fun e w' => e = .returned (.bool false) ∧ Below w.heap.size w w' := by
  obtain ⟨ck, cz, csl, cb⟩ := c
  simp only
  have hbx : ∀ o, Below w.heap.size w (w.alloc o) := fun o => (Below.refl _ _).alloc (Nat.le_refl _) _
  have hR1 : RefAt (w.alloc (Obj.cells #[Value.int IntKind.i64 ck, Value.int IntKind.i64 cz, Value.int IntKind.i64 csl, Value.string cb] 163)) r Z S C B 0 dv ca wr := Cel.below hR (hbx _) hR.lt
  obtain ⟨c0, c1, c2, c3, c4, c5, c6, c7, cf⟩ := hR1.cells
  go_enter Tryz.func95, Tryz.ntmps95
  go_wp2
  go_ret
  exact ⟨rfl, hbx _⟩

theorem infoC : (Tryz.prog.info? 163).map (fun i => (i.zero, i.size, i.bytes)) = some (some (.agg #[.int .i64 0, .int .i64 0, .int .i64 0, .string ByteArray.empty]), 4, 40) := by kernel_rfl

set_option maxRecDepth 20000 in
set_option maxHeartbeats 2000000 in
theorem rdo_any (base r : Nat) (Z S C : Int) (B : ByteArray) (L : Int) (dv : Value) (ca wr : Int) (cs : List RCall) (c : RCall) (w : World) (hR : RefAt w r Z S C B L dv ca wr) (hD : DoneAt w base dv cs) (hn : cs.length < 900000) (hC : 0 ≤ C) (hC2 : C ≤ 4294967295) (hb : c.b.size ≤ 2000000)
    (hL : L ≠ 0) (hf : fits L) (hca : small ca) (hwr : small wr) (hbase : base ≤ w.heap.size) :
    Calls Tryz.prog 95 #[.pointer (some ⟨r, 0, none⟩), .agg #[.int .i64 c.k, .int .i64 c.z, .int .i64 c.s, .string c.b]] w fun e w' => e = .returned (.bool (mayC cs Z S C B c)) ∧
      Chg w w' (fun k => k = r ∨ dv.ownBlock = some k) ∧
      (mayC cs Z S C B c = false → RefAt w' r Z S C B (less L) dv (ca + 1) (wr + 1) ∧ DoneAt w' base dv cs) ∧
      (mayC cs Z S C B c = true → ∃ dv', RefAt w' r Z S C B (less L) dv' (ca + 1) wr ∧ DoneAt w' base dv' (cs ++ [c]) ∧ (dv'.ownBlock = dv.ownBlock ∨ ∃ k, dv'.ownBlock = some k ∧ w.heap.size ≤ k)) := by
  obtain ⟨ck, cz, csl, cb⟩ := c
  simp only
  obtain ⟨hf1, hf2⟩ := hf
  obtain ⟨hc1, hc2⟩ := hca
  obtain ⟨hw1, hw2⟩ := hwr
  have hLb : (L == 0) = false := by simpa using hL
  obtain ⟨ic, hic, hqc⟩ : ∃ i, Tryz.prog.info? 163 = some i ∧ (i.zero, i.size, i.bytes) = (some (Value.agg #[.int .i64 0, .int .i64 0, .int .i64 0, .string ByteArray.empty]), 4, 40) := by
    have := infoC
    cases hq : Tryz.prog.info? 163 with
    | none => rw [hq] at this; cases this
    | some i => rw [hq] at this; exact ⟨i, rfl, by simpa using this⟩
  have hz0 : ic.zero = some (Value.agg #[.int .i64 0, .int .i64 0, .int .i64 0, .string ByteArray.empty]) := congrArg (·.1) hqc
  have hz1 : ic.size = 4 := congrArg (·.2.1) hqc
  have hz2 : ic.bytes = 40 := congrArg (·.2.2) hqc
  clear hqc
  have hbx : Below w.heap.size w (w.alloc (Obj.cells #[Value.int IntKind.i64 ck, Value.int IntKind.i64 cz, Value.int IntKind.i64 csl, Value.string cb] 163)) := (Below.refl _ _).alloc (Nat.le_refl _) _
  have hR1 : RefAt (w.alloc (Obj.cells #[Value.int IntKind.i64 ck, Value.int IntKind.i64 cz, Value.int IntKind.i64 csl, Value.string cb] 163)) r Z S C B L dv ca wr := Cel.below hR hbx hR.lt
  obtain ⟨c0, c1, c2, c3, c4, c5, c6, c7, cf⟩ := hR1.cells
  by_cases hp : 0 < L
  · have hls : less L = L - 1 := if_pos hp
    have hRW : RefAt (((w.alloc (Obj.cells #[Value.int IntKind.i64 ck, Value.int IntKind.i64 cz, Value.int IntKind.i64 csl, Value.string cb] 163)).setCell ⟨r, 4, none⟩ (Value.int IntKind.i64 (L - 1))).setCell ⟨r, 6, none⟩ (Value.int IntKind.i64 (ca + 1))) r Z S C B (less L) dv (ca + 1) wr := by rw [hls]; have := (Cel.set hR1 4 (.int .i64 (L - 1))).set 6 (.int .i64 (ca + 1)); simpa [RefAt] using this
    have hcW : Chg w (((w.alloc (Obj.cells #[Value.int IntKind.i64 ck, Value.int IntKind.i64 cz, Value.int IntKind.i64 csl, Value.string cb] 163)).setCell ⟨r, 4, none⟩ (Value.int IntKind.i64 (L - 1))).setCell ⟨r, 6, none⟩ (Value.int IntKind.i64 (ca + 1))) (fun k => k = r) := (Chg.of_below hbx _).trans (Chg.of_only (((Only.refl _ r).set 4 _).set 6 _)) (fun i hi h => h)
    have hBW : Cel (((w.alloc (Obj.cells #[Value.int IntKind.i64 ck, Value.int IntKind.i64 cz, Value.int IntKind.i64 csl, Value.string cb] 163)).setCell ⟨r, 4, none⟩ (Value.int IntKind.i64 (L - 1))).setCell ⟨r, 6, none⟩ (Value.int IntKind.i64 (ca + 1))) w.heap.size 163 #[Value.int IntKind.i64 ck, Value.int IntKind.i64 cz, Value.int IntKind.i64 csl, Value.string cb] := (Cel.new w 163 _).only (((Only.refl _ r).set 4 _).set 6 _) (by have := Cel.lt hR; omega)
    have HH : Hid (cs.length < 900000 ∧ 0 ≤ C ∧ C ≤ 4294967295 ∧ cb.size ≤ 2000000) := ⟨hn, hC, hC2, hb⟩
    clear hn hC hC2 hb hls
    go_enter Tryz.func95, Tryz.ntmps95
    go_wp2_with fail
    clear c0 c1 c2 c3 c4 c5 c6 c7 cf hR1
    generalize (((w.alloc (Obj.cells #[Value.int IntKind.i64 ck, Value.int IntKind.i64 cz, Value.int IntKind.i64 csl, Value.string cb] 163)).setCell ⟨r, 4, none⟩ (Value.int IntKind.i64 (L - 1))).setCell ⟨r, 6, none⟩ (Value.int IntKind.i64 (ca + 1))) = W1 at *
    have hDW : DoneAt W1 base dv cs := ownsRow_chg hD hcW (fun k hk e => by
      subst e
      rcases hD.2 with ⟨hv, _⟩ | ⟨g, cap, cur, hv, _, hg, _⟩
      · rw [hv] at hk; cases hk
      · rw [hv] at hk
        cases hk
        have := hR
        unfold RefAt Cel at this
        rw [hg] at this
        cases this)
    refine (rmay_any base r Z S C B (less L) dv (ca + 1) wr cs ⟨ck, cz, csl, cb⟩ W1 hRW hDW (by have := HH.out; omega) HH.out.2.1 HH.out.2.2.1 HH.out.2.2.2).mono ?_
    rintro e w2 ⟨rfl, hb2⟩
    have hzz1 := hBW.lt
    have hzz2 := hb2.size
    have hR2 : RefAt w2 r Z S C B (less L) dv (ca + 1) wr := Cel.below hRW hb2 hRW.lt
    have hB2 := hBW.below hb2 hzz1
    have hD2 : DoneAt w2 base dv cs := ownsRow_chg hDW (Chg.of_below hb2 (fun _ => False)) (fun _ _ h => h)
    have hc2' : Chg w w2 (fun k => k = r) := hcW.trans (Chg.of_below hb2 (fun k => k = r)) (fun i hi h => h)
    clear hRW hBW hDW hcW hb2 hD hR
    obtain ⟨c0, c1, c2, c3, c4, c5, c6, c7, cf⟩ := hR2.cells
    have k0 := hB2.cell 0
    have k1 := hB2.cell 1
    have k2 := hB2.cell 2
    have k3 := hB2.cell 3
    simp at k0 k1 k2 k3
    by_cases hm : mayC cs Z S C B ⟨ck, cz, csl, cb⟩ = true
    · rw [hm]
      have HM := (show Hid _ from hm)
      clear hm
      obtain ⟨p, cap, hdv, _⟩ := hD2.form
      have HOWN : Hid (∀ o : Obj, (w2.alloc o).drew.ownsRow base 163 4 (.slice p cs.length cap) cs.length (doneCells cs)) := fun o => by
        rw [← hdv]
        exact ownsRow_chg hD2 (Chg.of_below (((Below.refl _ _).alloc (Nat.le_refl _) o).drew) (fun _ => False)) (fun _ _ h => h)
      have HBLK : Hid (∀ vs : Array Value, (w2.alloc (Obj.cells vs 163)).drew.heap[w2.heap.size]? = some (Obj.cells vs 163 (0, 0))) := fun vs => heap_alloc_new w2 _
      have HST : Hid (∀ (o : Obj) (w9 : World), (w2.alloc o).drew.grownBy w9 (Value.slice p cs.length cap).ownBlock → RefAt w9 r Z S C B (less L) (.slice p cs.length cap) (ca + 1) wr) := fun o w9 hg => by
        rw [← hdv] at hg ⊢
        have h1 : RefAt (w2.alloc o).drew r Z S C B (less L) dv (ca + 1) wr := Cel.below hR2 (((Below.refl _ _).alloc (Nat.le_refl _) o).drew) hR2.lt
        refine Cel.chg h1 (Chg.of_grown hg) (fun e => ?_)
        rcases hD2.2 with ⟨hv, _⟩ | ⟨g, cap', cur, hv, _, hg', _⟩
        · rw [hv] at e; cases e
        · rw [hv] at e
          cases e
          unfold RefAt Cel at hR2
          rw [hg'] at hR2
          cases hR2
      have HR2 := (show Hid _ from hR2)
      have HD2 := (show Hid _ from hD2)
      rw [hdv] at c5
      have HDV := (show Hid _ from hdv)
      have d5 : ∀ o, (w2.alloc o).cell? ⟨r, 5, none⟩ = some (.slice p cs.length cap) := fun o => (((Below.refl w2.heap.size w2).alloc (Nat.le_refl _) o).cell (p := ⟨r, 5, none⟩) hR2.lt).trans c5
      clear hdv hR2 hD2 hB2
      have hc2z : w.heap.size ≤ w2.heap.size := hc2'.size
      go_wp2_with fail
      go_region_law (refine step_append_lies _ rfl (.tmp 49) (.tmp 51) 204 rfl base 163 ic _ 4 40 Tryz.underlying204 hic hz0 hz1 hz2 rfl (by omega) (.slice p cs.length cap) cs.length (doneCells cs) rfl (HOWN.out _) ⟨w2.heap.size, 0, none⟩ 1 1 [.int .i64 ck, .int .i64 cz, .int .i64 csl, .string cb] rfl rfl (World.news_of_block (HBLK.out _)) (by intro u hu; simp at hu; rcases hu with rfl | rfl | rfl | rfl <;> rfl) (by omega) (by have := HH.out; unfold maxLen; omega) (by have := HH.out; omega) (by simp; omega) (w2.heap.size + 1) (by simp) ?_; intro g9 c9 w9 hown9 hgrow9 hat9 hlt9; obtain ⟨y0, y1, y2, y3, y4, y5, y6, y7, yf⟩ := (HST.out _ w9 hgrow9).cells)
      all_goals
        go_wp2
        go_ret
        have hR9 := HST.out _ w9 hgrow9
        have hg9r : g9 ≠ r := by
          intro e
          rcases hown9.2 with ⟨h3, _⟩ | ⟨gl, cap', cur2, h3, _, h4, _⟩
          · cases h3
          · cases h3
            rw [e] at h4
            unfold RefAt Cel at hR9
            rw [h4] at hR9
            cases hR9
        refine ⟨by rw [HM.out]; rfl, ?_, (fun h => by rw [HM.out] at h; cases h), fun _ => ⟨.slice (some ⟨g9, 0, none⟩) (cs.length + 1) c9, ?_, ?_, ?_⟩⟩
        · have hcB := (Chg.of_grown hgrow9).mono (T := fun k => k = r ∨ (Value.slice p cs.length cap).ownBlock = some k) (fun i hi h => .inr h)
          rw [← HDV.out] at hcB
          exact (((hc2'.mono (T := fun k => k = r ∨ dv.ownBlock = some k) (fun i hi h => .inl h)).trans (Chg.of_below (((Below.refl _ _).alloc (Nat.le_refl _) _).drew) (fun _ => False)) (fun i hi h => h.elim)).trans hcB (fun i hi h => h)).trans (Chg.of_only ((Only.refl _ r).set 5 _)) (fun i hi h => .inl h)
        · have := Cel.set hR9 5 (.slice (some ⟨g9, 0, none⟩) (cs.length + 1) c9)
          simpa [RefAt] using this
        · have h9 : DoneAt w9 base (.slice (some ⟨g9, 0, none⟩) (cs.length + 1) c9) (cs ++ [⟨ck, cz, csl, cb⟩]) := by
            unfold DoneAt
            have e1 : (cs ++ [(⟨ck, cz, csl, cb⟩ : RCall)]).length = cs.length + 1 := by simp
            have e2 : doneCells (cs ++ [⟨ck, cz, csl, cb⟩]) = doneCells cs ++ [.int .i64 ck, .int .i64 cz, .int .i64 csl, .string cb] := by simp [doneCells, RCall.cells]
            rw [e1, e2]
            exact hown9
          refine ownsRow_chg h9 (Chg.of_only ((Only.refl _ r).set 5 _)) (fun k hk e => ?_)
          subst e
          cases hk
          exact hg9r rfl
        · rcases hat9 with h | h
          · left
            rw [HDV.out]
            exact h.symm
          · right
            exact ⟨g9, rfl, by omega⟩
    · have hm' : mayC cs Z S C B ⟨ck, cz, csl, cb⟩ = false := by simpa using hm
      rw [hm']
      have HM := (show Hid _ from hm')
      clear hm hm'
      go_wp2
      go_ret
      refine ⟨by rw [HM.out]; rfl, ?_, fun _ => ⟨?_, ?_⟩, fun h => by rw [HM.out] at h; cases h⟩
      · exact (hc2'.trans (Chg.of_only ((Only.refl _ r).set 7 _)) (fun i hi h => h)).mono (fun i hi h => .inl h)
      · have := Cel.set hR2 7 (.int .i64 (wr + 1)); simpa [RefAt] using this
      · refine ownsRow_chg hD2 (Chg.of_only ((Only.refl _ r).set 7 _)) (fun k hk e => ?_)
        subst e
        rcases hD2.2 with ⟨hv, _⟩ | ⟨g, cap, cur, hv, _, hg, _⟩
        · rw [hv] at hk; cases hk
        · rw [hv] at hk
          cases hk
          unfold RefAt Cel at hR2
          rw [hg] at hR2
          cases hR2
  · have hls : less L = L := if_neg hp
    have hRW : RefAt ((w.alloc (Obj.cells #[Value.int IntKind.i64 ck, Value.int IntKind.i64 cz, Value.int IntKind.i64 csl, Value.string cb] 163)).setCell ⟨r, 6, none⟩ (Value.int IntKind.i64 (ca + 1))) r Z S C B (less L) dv (ca + 1) wr := by rw [hls]; have := Cel.set hR1 6 (.int .i64 (ca + 1)); simpa [RefAt] using this
    have hcW : Chg w ((w.alloc (Obj.cells #[Value.int IntKind.i64 ck, Value.int IntKind.i64 cz, Value.int IntKind.i64 csl, Value.string cb] 163)).setCell ⟨r, 6, none⟩ (Value.int IntKind.i64 (ca + 1))) (fun k => k = r) := (Chg.of_below hbx _).trans (Chg.of_only ((Only.refl _ r).set 6 _)) (fun i hi h => h)
    have hBW : Cel ((w.alloc (Obj.cells #[Value.int IntKind.i64 ck, Value.int IntKind.i64 cz, Value.int IntKind.i64 csl, Value.string cb] 163)).setCell ⟨r, 6, none⟩ (Value.int IntKind.i64 (ca + 1))) w.heap.size 163 #[Value.int IntKind.i64 ck, Value.int IntKind.i64 cz, Value.int IntKind.i64 csl, Value.string cb] := (Cel.new w 163 _).only ((Only.refl _ r).set 6 _) (by have := Cel.lt hR; omega)
    have HH : Hid (cs.length < 900000 ∧ 0 ≤ C ∧ C ≤ 4294967295 ∧ cb.size ≤ 2000000) := ⟨hn, hC, hC2, hb⟩
    clear hn hC hC2 hb hls
    go_enter Tryz.func95, Tryz.ntmps95
    go_wp2_with fail
    clear c0 c1 c2 c3 c4 c5 c6 c7 cf hR1
    generalize ((w.alloc (Obj.cells #[Value.int IntKind.i64 ck, Value.int IntKind.i64 cz, Value.int IntKind.i64 csl, Value.string cb] 163)).setCell ⟨r, 6, none⟩ (Value.int IntKind.i64 (ca + 1))) = W1 at *
    have hDW : DoneAt W1 base dv cs := ownsRow_chg hD hcW (fun k hk e => by
      subst e
      rcases hD.2 with ⟨hv, _⟩ | ⟨g, cap, cur, hv, _, hg, _⟩
      · rw [hv] at hk; cases hk
      · rw [hv] at hk
        cases hk
        have := hR
        unfold RefAt Cel at this
        rw [hg] at this
        cases this)
    refine (rmay_any base r Z S C B (less L) dv (ca + 1) wr cs ⟨ck, cz, csl, cb⟩ W1 hRW hDW (by have := HH.out; omega) HH.out.2.1 HH.out.2.2.1 HH.out.2.2.2).mono ?_
    rintro e w2 ⟨rfl, hb2⟩
    have hzz1 := hBW.lt
    have hzz2 := hb2.size
    have hR2 : RefAt w2 r Z S C B (less L) dv (ca + 1) wr := Cel.below hRW hb2 hRW.lt
    have hB2 := hBW.below hb2 hzz1
    have hD2 : DoneAt w2 base dv cs := ownsRow_chg hDW (Chg.of_below hb2 (fun _ => False)) (fun _ _ h => h)
    have hc2' : Chg w w2 (fun k => k = r) := hcW.trans (Chg.of_below hb2 (fun k => k = r)) (fun i hi h => h)
    clear hRW hBW hDW hcW hb2 hD hR
    obtain ⟨c0, c1, c2, c3, c4, c5, c6, c7, cf⟩ := hR2.cells
    have k0 := hB2.cell 0
    have k1 := hB2.cell 1
    have k2 := hB2.cell 2
    have k3 := hB2.cell 3
    simp at k0 k1 k2 k3
    by_cases hm : mayC cs Z S C B ⟨ck, cz, csl, cb⟩ = true
    · rw [hm]
      have HM := (show Hid _ from hm)
      clear hm
      obtain ⟨p, cap, hdv, _⟩ := hD2.form
      have HOWN : Hid (∀ o : Obj, (w2.alloc o).drew.ownsRow base 163 4 (.slice p cs.length cap) cs.length (doneCells cs)) := fun o => by
        rw [← hdv]
        exact ownsRow_chg hD2 (Chg.of_below (((Below.refl _ _).alloc (Nat.le_refl _) o).drew) (fun _ => False)) (fun _ _ h => h)
      have HBLK : Hid (∀ vs : Array Value, (w2.alloc (Obj.cells vs 163)).drew.heap[w2.heap.size]? = some (Obj.cells vs 163 (0, 0))) := fun vs => heap_alloc_new w2 _
      have HST : Hid (∀ (o : Obj) (w9 : World), (w2.alloc o).drew.grownBy w9 (Value.slice p cs.length cap).ownBlock → RefAt w9 r Z S C B (less L) (.slice p cs.length cap) (ca + 1) wr) := fun o w9 hg => by
        rw [← hdv] at hg ⊢
        have h1 : RefAt (w2.alloc o).drew r Z S C B (less L) dv (ca + 1) wr := Cel.below hR2 (((Below.refl _ _).alloc (Nat.le_refl _) o).drew) hR2.lt
        refine Cel.chg h1 (Chg.of_grown hg) (fun e => ?_)
        rcases hD2.2 with ⟨hv, _⟩ | ⟨g, cap', cur, hv, _, hg', _⟩
        · rw [hv] at e; cases e
        · rw [hv] at e
          cases e
          unfold RefAt Cel at hR2
          rw [hg'] at hR2
          cases hR2
      have HR2 := (show Hid _ from hR2)
      have HD2 := (show Hid _ from hD2)
      rw [hdv] at c5
      have HDV := (show Hid _ from hdv)
      have d5 : ∀ o, (w2.alloc o).cell? ⟨r, 5, none⟩ = some (.slice p cs.length cap) := fun o => (((Below.refl w2.heap.size w2).alloc (Nat.le_refl _) o).cell (p := ⟨r, 5, none⟩) hR2.lt).trans c5
      clear hdv hR2 hD2 hB2
      have hc2z : w.heap.size ≤ w2.heap.size := hc2'.size
      go_wp2_with fail
      go_region_law (refine step_append_lies _ rfl (.tmp 49) (.tmp 51) 204 rfl base 163 ic _ 4 40 Tryz.underlying204 hic hz0 hz1 hz2 rfl (by omega) (.slice p cs.length cap) cs.length (doneCells cs) rfl (HOWN.out _) ⟨w2.heap.size, 0, none⟩ 1 1 [.int .i64 ck, .int .i64 cz, .int .i64 csl, .string cb] rfl rfl (World.news_of_block (HBLK.out _)) (by intro u hu; simp at hu; rcases hu with rfl | rfl | rfl | rfl <;> rfl) (by omega) (by have := HH.out; unfold maxLen; omega) (by have := HH.out; omega) (by simp; omega) (w2.heap.size + 1) (by simp) ?_; intro g9 c9 w9 hown9 hgrow9 hat9 hlt9; obtain ⟨y0, y1, y2, y3, y4, y5, y6, y7, yf⟩ := (HST.out _ w9 hgrow9).cells)
      all_goals
        go_wp2
        go_ret
        have hR9 := HST.out _ w9 hgrow9
        have hg9r : g9 ≠ r := by
          intro e
          rcases hown9.2 with ⟨h3, _⟩ | ⟨gl, cap', cur2, h3, _, h4, _⟩
          · cases h3
          · cases h3
            rw [e] at h4
            unfold RefAt Cel at hR9
            rw [h4] at hR9
            cases hR9
        refine ⟨by rw [HM.out]; rfl, ?_, (fun h => by rw [HM.out] at h; cases h), fun _ => ⟨.slice (some ⟨g9, 0, none⟩) (cs.length + 1) c9, ?_, ?_, ?_⟩⟩
        · have hcB := (Chg.of_grown hgrow9).mono (T := fun k => k = r ∨ (Value.slice p cs.length cap).ownBlock = some k) (fun i hi h => .inr h)
          rw [← HDV.out] at hcB
          exact (((hc2'.mono (T := fun k => k = r ∨ dv.ownBlock = some k) (fun i hi h => .inl h)).trans (Chg.of_below (((Below.refl _ _).alloc (Nat.le_refl _) _).drew) (fun _ => False)) (fun i hi h => h.elim)).trans hcB (fun i hi h => h)).trans (Chg.of_only ((Only.refl _ r).set 5 _)) (fun i hi h => .inl h)
        · have := Cel.set hR9 5 (.slice (some ⟨g9, 0, none⟩) (cs.length + 1) c9)
          simpa [RefAt] using this
        · have h9 : DoneAt w9 base (.slice (some ⟨g9, 0, none⟩) (cs.length + 1) c9) (cs ++ [⟨ck, cz, csl, cb⟩]) := by
            unfold DoneAt
            have e1 : (cs ++ [(⟨ck, cz, csl, cb⟩ : RCall)]).length = cs.length + 1 := by simp
            have e2 : doneCells (cs ++ [⟨ck, cz, csl, cb⟩]) = doneCells cs ++ [.int .i64 ck, .int .i64 cz, .int .i64 csl, .string cb] := by simp [doneCells, RCall.cells]
            rw [e1, e2]
            exact hown9
          refine ownsRow_chg h9 (Chg.of_only ((Only.refl _ r).set 5 _)) (fun k hk e => ?_)
          subst e
          cases hk
          exact hg9r rfl
        · rcases hat9 with h | h
          · left
            rw [HDV.out]
            exact h.symm
          · right
            exact ⟨g9, rfl, by omega⟩
    · have hm' : mayC cs Z S C B ⟨ck, cz, csl, cb⟩ = false := by simpa using hm
      rw [hm']
      have HM := (show Hid _ from hm')
      clear hm hm'
      go_wp2
      go_ret
      refine ⟨by rw [HM.out]; rfl, ?_, fun _ => ⟨?_, ?_⟩, fun h => by rw [HM.out] at h; cases h⟩
      · exact (hc2'.trans (Chg.of_only ((Only.refl _ r).set 7 _)) (fun i hi h => h)).mono (fun i hi h => .inl h)
      · have := Cel.set hR2 7 (.int .i64 (wr + 1)); simpa [RefAt] using this
      · refine ownsRow_chg hD2 (Chg.of_only ((Only.refl _ r).set 7 _)) (fun k hk e => ?_)
        subst e
        rcases hD2.2 with ⟨hv, _⟩ | ⟨g, cap, cur, hv, _, hg, _⟩
        · rw [hv] at hk; cases hk
        · rw [hv] at hk
          cases hk
          unfold RefAt Cel at hR2
          rw [hg] at hR2
          cases hR2
end Go.Proofs.YtloaefcgcniacaaGreatDoor
