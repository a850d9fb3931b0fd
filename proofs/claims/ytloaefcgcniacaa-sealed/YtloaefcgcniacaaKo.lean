import Derived.Test.YtloaefcgcniacaaKn
namespace Go.Proofs.Ytloaefcgcniacaa
open Go.RowKit
set_option linter.unusedVariables false

set_option maxHeartbeats 400000 in
theorem fixed_any (s : ByteArray) (N : Nat) (w : World) (hN : N ≤ 4294967296) :
    Calls Try.prog 9 #[.string s, .int .i64 (N : Int)] w fun e w' => e = .returned (.string (bstr (fixB (sbytes s) N))) ∧ Below w.heap.size w w' := by
  have hmk := run_make_bytes N (by omega) w
  obtain ⟨v, W1, hcp, hB, hb⟩ := run_copy_str (w.alloc (.cells (blkOf (List.replicate N 0)) 5)) 3 w.heap.size N s (blk_new w _)
  have hstr := run_str W1 w.heap.size 0 N N (fixB (sbytes s) N) (fixB_length _ _) hB.rd
  have hb0 : Below w.heap.size w W1 := ((Below.refl _ _).alloc (Nat.le_refl _) _).trans hb
  clear hB hb
  go_enter Try.func9, Try.ntmps9
  go_wp2
  go_ret
  exact ⟨rfl, hb0⟩
end Go.Proofs.Ytloaefcgcniacaa
