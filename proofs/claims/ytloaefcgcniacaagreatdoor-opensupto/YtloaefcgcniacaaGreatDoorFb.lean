import Derived.Test.YtloaefcgcniacaaGreatDoorFa
namespace Go.Proofs.YtloaefcgcniacaaGreatDoor
open Go.RowKit
set_option linter.unusedVariables false

/-- What is lent: the text's bytes, and four of the caller's own behind them. -/
def lentL (s : ByteArray) : List Nat := sbytes s ++ [77, 77, 77, 77]
theorem lentL_length (s : ByteArray) : (lentL s).length = s.size + 4 := by simp [lentL, sbytes_length]
theorem lentL_lt (s : ByteArray) : ∀ x ∈ lentL s, x < 256 := by
  intro x hx
  rcases List.mem_append.1 hx with hx | hx
  · exact sbytes_lt s x hx
  · simp at hx
    omega
theorem fixB_lent (s : ByteArray) : fixB (sbytes s) (s.size + 4) = sbytes s ++ [0, 0, 0, 0] := by
  unfold fixB
  rw [sbytes_length, List.take_of_length_le (by rw [sbytes_length]; omega)]
  have : s.size + 4 - s.size = 4 := by omega
  rw [this]
  rfl
theorem part_lent (s : ByteArray) : Lbx.part (lentL s) (sbytes s ++ [0, 0, 0, 0]) s.size = sbytes s ++ [0, 0, 0, 0] := by
  unfold Lbx.part lentL
  have h := sbytes_length s
  rw [List.take_append_of_le_length (by omega), List.drop_append_of_le_length (by omega), List.take_of_length_le (by omega), List.drop_of_length_le (by omega)]
  rfl
theorem lentL_tail (s : ByteArray) (k : Nat) (h1 : s.size ≤ k) (h2 : k < s.size + 4) : (lentL s)[k]?.getD 0 = 77 := by
  unfold lentL
  have h := sbytes_length s
  rw [List.getElem?_append_right (by omega), h]
  obtain h0 | h0 | h0 | h0 : k - s.size = 0 ∨ k - s.size = 1 ∨ k - s.size = 2 ∨ k - s.size = 3 := by omega
  all_goals rw [h0]; rfl
theorem bstr_sbytes (s : ByteArray) : bstr (sbytes s) = s := by
  unfold bstr sbytes
  rw [List.map_map]
  have e : (UInt8.ofNat ∘ UInt8.toNat) = id := by
    funext x
    simp
  rw [e, List.map_id]

theorem grownBy_refl0 (w : World) (r : Option Nat) : w.grownBy w r := ⟨rfl, rfl, rfl, Nat.le_refl _, fun _ _ _ => rfl⟩
theorem grownBy_setCell0 {w w' : World} {g : Nat} (h : w.grownBy w' (some g)) (i : Nat) (v : Value) : w.grownBy (w'.setCell ⟨g, i, none⟩ v) (some g) :=
  ⟨h.os, h.tape, h.output, by simpa using h.size, fun k hk hn => (Below.heap_setCell _ _ _ _ (fun e => hn (by rw [e]))).trans (h.block k hk hn)⟩

set_option maxHeartbeats 1000000 in
theorem lent_any (s : ByteArray) (w : World) (hs : s.size ≤ 2000000) :
    Calls Tryz.prog 85 #[.string s] w fun e w' => e = .returned (.slice (some ⟨w.heap.size, 0, none⟩) s.size (s.size + 4)) ∧ Blk w' w.heap.size (lentL s) ∧ Below w.heap.size w w' := by
  have hmk := run_make_bytes (s.size + 4) (by omega) w
  have ec : ((s.size + 4 : Nat) : Int) = (s.size : Int) + 4 := by omega
  rw [ec] at hmk
  clear ec
  obtain ⟨v, W1, hcp, hB, hb⟩ := run_copy_str (w.alloc (.cells (blkOf (List.replicate (s.size + 4) 0)) 5)) 3 w.heap.size (s.size + 4) s (blk_new w _)
  rw [fixB_lent] at hB
  have hb0 : Below w.heap.size w W1 := ((Below.refl _ _).alloc (Nat.le_refl _) _).trans hb
  clear hb
  have hvl : (lentL s).length = (sbytes s ++ [0, 0, 0, 0]).length := by simp [lentL]
  have hvn : (sbytes s ++ [0, 0, 0, 0]).length = s.size + 4 := by simp [sbytes_length]
  have HVL := (show Hid _ from hvl)
  have HVN := (show Hid _ from hvn)
  clear hvl hvn
  generalize hS : s.size = S at *
  have HS := (show Hid _ from hS)
  have hst := part_lent s
  rw [hS] at hst
  have HST := (show Hid _ from hst)
  clear hst
  have htl := lentL_tail s
  rw [hS] at htl
  have HTL := (show Hid _ from htl)
  clear htl
  go_enter Tryz.func85, Tryz.ntmps85
  go_wp2
  go_loopw [5] (fun i wr => ∃ k : Nat, S ≤ k ∧ k ≤ S + 4 ∧ i = .int .i64 k ∧ Blk wr w.heap.size (Lbx.part (lentL s) (sbytes s ++ [0, 0, 0, 0]) k) ∧ Below w.heap.size w wr) (fun i _ => S + 4 - (intOf i).toNat)
  case atStart =>
    refine ⟨S, Nat.le_refl _, by omega, rfl, ?_, hb0⟩
    rw [HST.out]
    exact hB
  case round =>
    clear hcp hmk hB
    obtain ⟨k, hk1, hk2, rfl, hbk, hbel⟩ := hrel
    have hlk : (Lbx.part (lentL s) (sbytes s ++ [0, 0, 0, 0]) k).length = S + 4 := by rw [Lbx.part_length _ _ _ HVL.out, HVN.out]
    by_cases hlt : k < S + 4
    · have hcell := hbk.cell k (by omega)
      have hfr := hbk.frozen k
      have hlti : (k : Int) < (S : Int) + 4 := by omega
      clear hlk
      go_wp2
      go_roundw
      case rel =>
        refine ⟨k + 1, by omega, by omega, by go_num, ?_, hbel.setCell (by simp) _⟩
        rw [← Lbx.part_succ _ _ _ HVL.out (by rw [HVN.out]; exact hlt), HTL.out k hk1 hlt]
        exact hbk.set k 77
      case measure => simp [intOf]; omega
    · have ek : k = (sbytes s ++ [0, 0, 0, 0]).length := by rw [HVN.out]; omega
      rw [ek, Lbx.part_all _ _ HVL.out] at hbk
      have hlti : ¬ (k : Int) < (S : Int) + 4 := by omega
      clear ek hlk
      go_wp2
      go_ret
      exact ⟨rfl, hbk, hbel⟩

set_option maxHeartbeats 1000000 in
theorem back_any (g : Nat) (s : ByteArray) (w : World) (hs : s.size ≤ 2000000) (hB : Blk w g (lentL s)) :
    Calls Tryz.prog 87 #[.slice (some ⟨g, 0, none⟩) s.size (s.size + 4), .string s] w fun e w' => e = .returned (.bool true) ∧ w.grownBy w' (some g) ∧ w'.heap.size = w.heap.size ∧ ∃ l, Blk w' g l := by
  have hstr : (convert 66 9 (.slice (some ⟨g, 0, none⟩) s.size (s.size + 4))).run Tryz.prog w = .ok (.string s) w := by
    have h := run_str w g 0 s.size (s.size + 4) (sbytes s) (sbytes_length s) (by
      have h1 := hB.rd.take s.size
      have e : (lentL s).take s.size = sbytes s := by
        unfold lentL
        rw [List.take_append_of_le_length (by rw [sbytes_length]; omega), List.take_of_length_le (by rw [sbytes_length]; omega)]
      rw [e] at h1
      exact h1)
    rw [bstr_sbytes] at h
    exact h
  have htl := lentL_tail s
  have hLl := lentL_length s
  have HLL := (show Hid _ from hLl)
  clear hLl
  generalize hS : s.size = S at *
  have HS := (show Hid _ from hS)
  have HTL := (show Hid _ from htl)
  clear htl
  go_enter Tryz.func87, Tryz.ntmps87
  go_wp2
  go_loopw [7, 8] (fun ok i wr => ∃ k : Nat, k ≤ S + 4 ∧ ok = .bool true ∧ i = .int .i64 k ∧ Blk wr g (Lbx.part (List.replicate (S + 4) 200) (lentL s) k) ∧ w.grownBy wr (some g) ∧ wr.heap.size = w.heap.size) (fun _ i _ => S + 4 - (intOf i).toNat)
  case atStart =>
    refine ⟨0, by omega, ?_, rfl, ?_, grownBy_refl0 _ _, rfl⟩
    · simp
    · rw [Lbx.part_zero]
      exact hB
  case round =>
    clear hstr hB
    obtain ⟨k, hk2, rfl, rfl, hbk, hgr, hsz⟩ := hrel
    have hvl : (List.replicate (S + 4) 200).length = (lentL s).length := by rw [HLL.out]; simp
    have hlk : (Lbx.part (List.replicate (S + 4) 200) (lentL s) k).length = S + 4 := by rw [Lbx.part_length _ _ _ hvl, HLL.out]
    by_cases hlt : k < S + 4
    · have hcell := hbk.cell k (by omega)
      have hfr := hbk.frozen k
      have hpg := Lbx.part_get (List.replicate (S + 4) 200) (lentL s) k hvl (by rw [HLL.out]; exact hlt)
      rw [hpg] at hcell
      have hlti : (k : Int) < (S : Int) + 4 := by omega
      have HVL := (show Hid _ from hvl)
      clear hlk hvl hpg
      by_cases hkS : k < S
      · have hks : (k : Int) < (S : Int) := by omega
        go_wp2
        go_roundw
        case rel =>
          refine ⟨k + 1, by omega, rfl, by go_num, ?_, grownBy_setCell0 hgr _ _, by simpa using hsz⟩
          rw [← Lbx.part_succ _ _ _ HVL.out (by rw [HLL.out]; exact hlt)]
          have e : (List.replicate (S + 4) 200)[k]?.getD 0 = 200 := by simp [hlt]
          rw [e]
          exact hbk.set k 200
        case measure => simp [intOf]; omega
      · have hks : ¬ (k : Int) < (S : Int) := by omega
        rw [HTL.out k (by omega) hlt] at hcell
        go_wp2
        go_roundw
        case rel =>
          refine ⟨k + 1, by omega, rfl, by go_num, ?_, grownBy_setCell0 hgr _ _, by simpa using hsz⟩
          rw [← Lbx.part_succ _ _ _ HVL.out (by rw [HLL.out]; exact hlt)]
          have e : (List.replicate (S + 4) 200)[k]?.getD 0 = 200 := by simp [hlt]
          rw [e]
          exact hbk.set k 200
        case measure => simp [intOf]; omega
    · have hlti : ¬ (k : Int) < (S : Int) + 4 := by omega
      clear hlk hvl
      go_wp2
      go_ret
      exact ⟨rfl, hgr, hsz, _, hbk⟩
end Go.Proofs.YtloaefcgcniacaaGreatDoor
