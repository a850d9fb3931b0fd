import Derived.Test.YtloaefcgcniacaaRows
import Derived.Test.YtloaefcgcniacaaMath
import Derived.WalkKit
import Derived.WalkSpells
import Derived.WalkLawsBesides
namespace Go.Proofs.Ytloaefcgcniacaa
open Go.RowKit

def byteV (n : Nat) : Value := .int .u8 (n : Int)

/-- The cells of these bytes. -/
def blkOf (l : List Nat) : Array Value := (l.map byteV).toArray

/-- Block g holds just the bytes l, none frozen. -/
def Blk (w : World) (g : Nat) (l : List Nat) : Prop := w.heap[g]? = some (.cells (blkOf l) 5 (0, 0))

theorem Blk.lt {w : World} {g : Nat} {l : List Nat} (h : Blk w g l) : g < w.heap.size := (Array.getElem?_eq_some_iff.1 h).1

theorem Blk.cell {w : World} {g : Nat} {l : List Nat} (h : Blk w g l) (i : Nat) (hi : i < l.length) :
    w.cell? ⟨g, i, none⟩ = some (.int .u8 ((l[i]?.getD 0 : Nat) : Int)) := by
  unfold Blk at h
  simp [World.cell?, h, hi, byteV, blkOf]

theorem Blk.frozen {w : World} {g : Nat} {l : List Nat} (h : Blk w g l) (i : Nat) : w.frozen? ⟨g, i, none⟩ = false := by
  unfold Blk at h
  simp [World.frozen?, h]

theorem Blk.set {w : World} {g : Nat} {l : List Nat} (h : Blk w g l) (i v : Nat) : Blk (w.setCell ⟨g, i, none⟩ (.int .u8 (v : Int))) g (l.set i v) := by
  have hlt := h.lt
  have hv : w.heap[g] = .cells (blkOf l) 5 (0, 0) := (Array.getElem?_eq_some_iff.1 h).2
  unfold Blk World.setCell
  rw [Array.getElem?_eq_getElem (by simpa using hlt), Array.getElem_modify]
  simp [hv, List.map_set, byteV, blkOf]

theorem Blk.below {w w' : World} {g B : Nat} {l : List Nat} (h : Blk w g l) (hb : Below B w w') (hg : g < B) : Blk w' g l := by
  unfold Blk at h ⊢
  rw [hb.block g hg, h]

theorem Blk.alloc {w : World} {g : Nat} {l : List Nat} (h : Blk w g l) (o : Obj) : Blk (w.alloc o) g l := by
  unfold Blk
  rw [Below.heap_alloc _ _ _ h.lt]
  exact h

theorem Blk.other {w : World} {g : Nat} {l : List Nat} (h : Blk w g l) (a : Addr) (v : Value) (hne : g ≠ a.block) : Blk (w.setCell a v) g l := by
  unfold Blk
  rw [Below.heap_setCell _ _ _ _ hne]
  exact h

theorem blk_new (w : World) (l : List Nat) : Blk (w.alloc (.cells (blkOf l) 5)) w.heap.size l := by
  unfold Blk World.alloc
  simp

theorem made_bytes (n : Nat) : madeCells (Value.int .u8 0).cells n = blkOf (List.replicate n 0) := by
  unfold madeCells blkOf
  apply Array.ext
  · simp
  · intro i h1 h2
    simp [Value.cells, byteV, Nat.mod_one]

theorem info5 : (Try.prog.info? 5).map (fun i => (i.zero, i.size, i.bytes)) = some (some (.int .u8 0), 1, 1) := by kernel_rfl
theorem info57 : (Try.prog.info? 41).map (fun i => (i.zero, i.size, i.bytes)) = some (some (.int .u32 0), 1, 4) := by kernel_rfl

theorem run_make_bytes (n : Nat) (hn : n ≤ 140737488351232) (w : World) :
    (Instr.makeSlice 22 (.int .i64 (n : Int)) (.int .i64 (n : Int))).run Try.prog w = .ok (.slice (some ⟨w.heap.size, 0, none⟩) n n) (w.alloc (.cells (blkOf (List.replicate n 0)) 5)) := by
  obtain ⟨i0, hi, hz0, hz1, hz2⟩ := info_parts info5
  have h := run_make (P := Try.prog) w 22 5 i0 _ Try.underlying22 hi hz0 .i64 .i64 n n (by omega) (Int.le_refl _) (by rw [hz2]; omega) (by omega)
  rw [hz1, Nat.mul_one, Int.toNat_natCast, made_bytes] at h
  exact h

end Go.Proofs.Ytloaefcgcniacaa
