import Derived.Test.YtloaefcgcniacaaGreatDoorBe
import Derived.Lib.SlBytesConst
namespace Go.Proofs.YtloaefcgcniacaaGreatDoor
open Go.RowKit
set_option linter.unusedVariables false

/-- A script's steps, seven cells each. -/
def OpsAt (w : World) (g off n : Nat) : Prop := ∃ (cur : Array Value) (fz : Nat × Nat), w.heap[g]? = some (Obj.cells cur 56 fz) ∧ ∀ i, i < n → ∃ (k a b c d e : Int) (s : ByteArray),
  cur[off + i * 7]? = some (.int .i64 k) ∧ cur[off + i * 7 + 1]? = some (.int .i64 a) ∧ cur[off + i * 7 + 2]? = some (.int .i64 b) ∧ cur[off + i * 7 + 3]? = some (.int .i64 c) ∧
  cur[off + i * 7 + 4]? = some (.int .i64 d) ∧ cur[off + i * 7 + 5]? = some (.int .i64 e) ∧ cur[off + i * 7 + 6]? = some (.string s)

def digits40 : List Nat := [48, 49, 50, 51, 52, 53, 54, 55, 56, 57, 48, 49, 50, 51, 52, 53, 54, 55, 56, 57, 48, 49, 50, 51, 52, 53, 54, 55, 56, 57, 48, 49, 50, 51, 52, 53, 54, 55, 56, 57]

theorem alloc_rd (w : World) (l : List Nat) (fz : Nat × Nat) : Rd (w.alloc (Obj.cells (blkOf l) 5 fz)) w.heap.size 0 l := by
  intro i hi
  have h : (w.alloc (Obj.cells (blkOf l) 5 fz)).heap[w.heap.size]? = some (Obj.cells (blkOf l) 5 fz) := heap_alloc_new w _
  simp only [World.cell?, h, Nat.zero_add]
  simp [blkOf, hi, byteV]

theorem seven_seal (w : World) : Calls Tryz.prog 37 #[.int .i64 7, .agg #[.int .i64 1, .int .i64 3, .int .i64 1, .int .i64 0, .slice (some ⟨w.heap.size, 0, none⟩) 40 40]] (w.alloc (Obj.cells (blkOf digits40) 5 (40, 41))) fun e w' =>
      ∃ g' cap', e = .returned (.tuple #[.slice (some ⟨g', 0, none⟩) 58 cap', .int .i64 0]) ∧ w.heap.size ≤ g' ∧ OwnB w' g' cap' (Lbx.sealB 7 1 3 1 0 digits40) ∧ Below w.heap.size w w' := by
  have h := rseal_ok 7 1 3 1 0 w.heap.size 0 40 digits40 (w.alloc (Obj.cells (blkOf digits40) 5 (40, 41))) (by omega) (by omega) (by omega) (by omega) (by omega) (by omega) (by omega) rfl (by decide) (alloc_rd w digits40 (40, 41))
  refine h.mono ?_
  rintro e w' ⟨g', cap', rfl, h1, h2, h3⟩
  simp only [World.size_alloc] at h1
  exact ⟨g', cap', rfl, by omega, h2, ((Below.refl _ _).alloc (Nat.le_refl _) _).trans (h3.mono (by simp))⟩

set_option maxRecDepth 100000 in
set_option maxHeartbeats 1000000 in
theorem opening_any (w : World) : Calls Tryz.prog 16 #[] w fun e w' => ∃ g, e = .returned (.slice (some ⟨g, 0, none⟩) 14 14) ∧ w.heap.size ≤ g ∧ OpsAt w' g 0 14 ∧ Below w.heap.size w w' := by
  have kc := fun (w : World) (C : Array Value) (n c : Nat) => Lib.run_convert_bytes_const (P := Tryz.prog) w 66 5 C n c Tryz.underlying66 Tryz.underlying5
  go_enter Tryz.func16, Tryz.ntmps16
  go_wp2_with fail
  refine (seven_seal w).mono ?_
  rintro e w1 ⟨g1, c1, rfl, hg1, hO1, hb1⟩
  have hs := run_str w1 g1 0 58 c1 _ (by rw [Lbx.sealB_length]; rfl) hO1.rd
  generalize Lbx.sealB 7 1 3 1 0 digits40 = F at *
  have hz := hb1.size
  go_wp2
  go_ret
  refine ⟨w1.heap.size, rfl, hz, ⟨_, _, heap_alloc_new w1 _, ?_⟩, hb1.alloc hz _⟩
  intro i hi
  match i, hi with
  | 0, _ => exact ⟨_, _, _, _, _, _, _, rfl, rfl, rfl, rfl, rfl, rfl, rfl⟩
  | 1, _ => exact ⟨_, _, _, _, _, _, _, rfl, rfl, rfl, rfl, rfl, rfl, rfl⟩
  | 2, _ => exact ⟨_, _, _, _, _, _, _, rfl, rfl, rfl, rfl, rfl, rfl, rfl⟩
  | 3, _ => exact ⟨_, _, _, _, _, _, _, rfl, rfl, rfl, rfl, rfl, rfl, rfl⟩
  | 4, _ => exact ⟨_, _, _, _, _, _, _, rfl, rfl, rfl, rfl, rfl, rfl, rfl⟩
  | 5, _ => exact ⟨_, _, _, _, _, _, _, rfl, rfl, rfl, rfl, rfl, rfl, rfl⟩
  | 6, _ => exact ⟨_, _, _, _, _, _, _, rfl, rfl, rfl, rfl, rfl, rfl, rfl⟩
  | 7, _ => exact ⟨_, _, _, _, _, _, _, rfl, rfl, rfl, rfl, rfl, rfl, rfl⟩
  | 8, _ => exact ⟨_, _, _, _, _, _, _, rfl, rfl, rfl, rfl, rfl, rfl, rfl⟩
  | 9, _ => exact ⟨_, _, _, _, _, _, _, rfl, rfl, rfl, rfl, rfl, rfl, rfl⟩
  | 10, _ => exact ⟨_, _, _, _, _, _, _, rfl, rfl, rfl, rfl, rfl, rfl, rfl⟩
  | 11, _ => exact ⟨_, _, _, _, _, _, _, rfl, rfl, rfl, rfl, rfl, rfl, rfl⟩
  | 12, _ => exact ⟨_, _, _, _, _, _, _, rfl, rfl, rfl, rfl, rfl, rfl, rfl⟩
  | 13, _ => exact ⟨_, _, _, _, _, _, _, rfl, rfl, rfl, rfl, rfl, rfl, rfl⟩
end Go.Proofs.YtloaefcgcniacaaGreatDoor
