import Derived.Test.YtalbdljajihpfaaKn
import Derived.Laws.CopyOwn
namespace Go.Proofs.Ytalbdljajihpfaa
open Go.RowKit
set_option linter.unusedVariables false

/-- A string's bytes. -/
def sbytes (s : ByteArray) : List Nat := s.data.toList.map UInt8.toNat
theorem sbytes_lt (s : ByteArray) : ∀ x ∈ sbytes s, x < 256 := by
  intro x hx
  obtain ⟨b, _, rfl⟩ := List.mem_map.1 hx
  exact b.toNat_lt
theorem data_len (s : ByteArray) : s.data.toList.length = s.size := by rw [Array.length_toList]; rfl
theorem sbytes_length (s : ByteArray) : (sbytes s).length = s.size := by rw [sbytes, List.length_map, data_len]
theorem sbytes_bstr (l : List Nat) (hl : ∀ x ∈ l, x < 256) : sbytes (bstr l) = l := by
  unfold sbytes bstr
  exact ofNat_back l hl

/-- The first N bytes, noughts behind. -/
def fixB (m : List Nat) (N : Nat) : List Nat := m.take N ++ List.replicate (N - m.length) 0
theorem fixB_length (m : List Nat) (N : Nat) : (fixB m N).length = N := by simp [fixB]; omega
theorem fixB_lt (m : List Nat) (N : Nat) (h : ∀ x ∈ m, x < 256) : ∀ x ∈ fixB m N, x < 256 := by
  intro x hx
  rcases List.mem_append.1 hx with hx | hx
  · exact h x (List.mem_of_mem_take hx)
  · rw [List.eq_of_mem_replicate hx]; decide

theorem size5 : (Try.prog.info? 5).map (·.size) = some 1 := by kernel_rfl

theorem run_copy_str (w : World) (ty : TypeId) (g N : Nat) (s : ByteArray) (hB : Blk w g (List.replicate N 0)) :
    ∃ v W', (Builtin.copy_ #[25, 9] ty #[.slice (some ⟨g, 0, none⟩) N N, .string s]).run Try.prog w = .ok v W' ∧ Blk W' g (fixB (sbytes s) N) ∧ Below g w W' := by
  obtain ⟨cs, hcs⟩ : ∃ cs, cs = List.take (Nat.min s.size N) (List.map (fun b : UInt8 => Value.int IntKind.u8 (b.toNat : Int)) s.data.toList) := ⟨_, rfl⟩
  have hsz := data_len s
  have hlen : cs.length = Nat.min s.size N := by
    rw [hcs, List.length_take, List.length_map, hsz]
    have h1 : Nat.min s.size N ≤ s.size := Nat.min_le_left _ _
    omega
  have h2 : Nat.min s.size N ≤ N := Nat.min_le_right _ _
  have hone : ∀ v ∈ cs, v.oneCell' = true := by
    intro v hv
    rw [hcs] at hv
    obtain ⟨b, _, rfl⟩ := List.mem_map.1 (List.mem_of_mem_take hv)
    rfl
  have hst := run_storeCells_at Try.prog g 0 5 cs 0 (blkOf (List.replicate N 0)) w hB (by simp [blkOf]; omega) hone
  simp only [Nat.add_zero, Nat.zero_add, List.take_zero, List.nil_append] at hst
  have ec : cs = ((sbytes s).take N).map byteV := by
    rw [hcs]
    apply List.ext_getElem?
    intro i
    simp only [List.getElem?_take, List.getElem?_map, sbytes]
    by_cases hi : i < s.data.toList.length
    · by_cases hN : i < N
      · have h5 : i < Nat.min s.size N := by rw [hsz] at hi; exact Nat.lt_min.2 ⟨hi, hN⟩
        simp [h5, hN]
        rfl
      · have h5 : ¬ i < Nat.min s.size N := by omega
        simp [h5, hN]
    · have h5 : ¬ i < Nat.min s.size N := by have h6 : Nat.min s.size N ≤ s.size := Nat.min_le_left _ _; rw [hsz] at hi; omega
      rw [if_neg h5, List.getElem?_eq_none (by omega)]
      simp
  have e : (cs ++ List.drop cs.length (blkOf (List.replicate N 0)).toList).toArray = blkOf (fixB (sbytes s) N) := by
    unfold fixB blkOf
    rw [List.map_append, ← ec]
    congr 2
    simp only [List.map_replicate, List.drop_replicate, hlen]
    congr 1
    rw [sbytes_length]
    simp only [Nat.min_def]
    split <;> omega
  rw [e] at hst
  refine ⟨goInt (Nat.min s.size N), w.setRow g (blkOf (fixB (sbytes s) N)), ?_, setRow_heap w g _ _ 5 _ hB, below_setRow (Below.refl g w) (Nat.le_refl _) _⟩
  cases hq : Try.prog.info? 5 with
  | none => have := size5; simp [hq] at this
  | some i =>
    simp [Builtin.copy_, run_underlying Try.underlying25, Builtin.lenOf, Builtin.firstCells, sizeOf, typeInfo, hq]
    rw [← hcs, hst]
    simp [Result.andThen]
set_option maxHeartbeats 400000 in
theorem fixed_any (s : ByteArray) (N : Nat) (w : World) (hN : N ≤ 4294967296) :
    Calls Try.prog 14 #[.string s, .int .i64 (N : Int)] w fun e w' => e = .returned (.string (bstr (fixB (sbytes s) N))) ∧ Below w.heap.size w w' := by
  have hmk := run_make_bytes N (by omega) w
  obtain ⟨v, W1, hcp, hB, hb⟩ := run_copy_str (w.alloc (.cells (blkOf (List.replicate N 0)) 5)) 3 w.heap.size N s (blk_new w _)
  have hstr := run_str W1 w.heap.size 0 N N (fixB (sbytes s) N) (fixB_length _ _) hB.rd
  have hb0 : Below w.heap.size w W1 := ((Below.refl _ _).alloc (Nat.le_refl _) _).trans hb
  clear hB hb
  go_enter Try.func14, Try.ntmps14
  go_wp2
  go_ret
  exact ⟨rfl, hb0⟩
end Go.Proofs.Ytalbdljajihpfaa
