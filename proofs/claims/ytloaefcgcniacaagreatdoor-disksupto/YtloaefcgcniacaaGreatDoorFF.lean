import Derived.Test.YtloaefcgcniacaaGreatDoorKt
namespace Go.Proofs.YtloaefcgcniacaaGreatDoor
open Go.RowKit
set_option linter.unusedVariables false

/-- May it be sealed? -/
def FrameOK (kd ix ep sq : Int) (n : Nat) : Prop := 1 ≤ kd ∧ kd ≤ 3 ∧ 0 ≤ ix ∧ ix ≤ 255 ∧ 0 ≤ ep ∧ ep ≤ 4294967295 ∧ 0 ≤ sq ∧ sq ≤ 4294967295 ∧ n = 40

set_option maxHeartbeats 1000000 in
theorem isFrame_no (kd ix ep sq : Int) (a : Option Addr) (n cap : Nat) (w : World) (hn : n ≤ 9223372036854775807) (h : ¬ FrameOK kd ix ep sq n) :
    Calls Tryz.prog 139 #[.agg #[.int .i64 kd, .int .i64 ix, .int .i64 ep, .int .i64 sq, .slice a n cap]] w fun e w' => e = .returned (.bool false) ∧ Below w.heap.size w w' := by
  unfold FrameOK at h
  by_cases h1 : 1 ≤ kd ∧ kd ≤ 3
  · by_cases h2 : 0 ≤ ix
    · by_cases h3 : ix ≤ 255
      · by_cases h4 : 0 ≤ ep ∧ ep ≤ 4294967295
        · by_cases h5 : 0 ≤ sq ∧ sq ≤ 4294967295
          · have h6 : ((n : Int) == 40) = false := by rw [beq_eq_false_iff_ne]; omega
            obtain ⟨a1, b1⟩ := h1
            obtain ⟨a4, b4⟩ := h4
            obtain ⟨a5, b5⟩ := h5
            clear h
            go_enter Tryz.func139, Tryz.ntmps139
            go_wp2_with (first | (go_at_call 68; refine (isNumber_yes _ _ (by omega) (by omega)).mono ?_; rintro e w' ⟨rfl, rfl⟩) | (go_at_call 188; refine (isKind_yes _ _ (by omega) (by omega)).mono ?_; rintro e w' ⟨rfl, rfl⟩))
            go_ret
            exact ⟨rfl, (Below.refl _ _).alloc (Nat.le_refl _) _⟩
          · have h6 : sq < 0 ∨ 4294967295 < sq := by omega
            obtain ⟨a1, b1⟩ := h1
            obtain ⟨a4, b4⟩ := h4
            have H6 := (show Hid _ from h6)
            clear h h5 h6
            go_enter Tryz.func139, Tryz.ntmps139
            go_wp2_with (go_at_call 188; refine (isKind_yes _ _ (by omega) (by omega)).mono ?_; rintro e w' ⟨rfl, rfl⟩)
            refine (isNumber_yes _ _ a4 b4).mono ?_
            rintro e w' ⟨rfl, rfl⟩
            go_wp2_with fail
            refine (isNumber_no _ _ H6.out).mono ?_
            rintro e w' ⟨rfl, rfl⟩
            go_wp2
            go_ret
            exact ⟨rfl, (Below.refl _ _).alloc (Nat.le_refl _) _⟩
        · have h6 : ep < 0 ∨ 4294967295 < ep := by omega
          obtain ⟨a1, b1⟩ := h1
          have H6 := (show Hid _ from h6)
          clear h h4 h6
          go_enter Tryz.func139, Tryz.ntmps139
          go_wp2_with (go_at_call 188; refine (isKind_yes _ _ (by omega) (by omega)).mono ?_; rintro e w' ⟨rfl, rfl⟩)
          refine (isNumber_no _ _ H6.out).mono ?_
          rintro e w' ⟨rfl, rfl⟩
          go_wp2
          go_ret
          exact ⟨rfl, (Below.refl _ _).alloc (Nat.le_refl _) _⟩
      · obtain ⟨a1, b1⟩ := h1
        clear h
        go_enter Tryz.func139, Tryz.ntmps139
        go_wp2_with (go_at_call 188; refine (isKind_yes _ _ (by omega) (by omega)).mono ?_; rintro e w' ⟨rfl, rfl⟩)
        go_ret
        exact ⟨rfl, (Below.refl _ _).alloc (Nat.le_refl _) _⟩
    · obtain ⟨a1, b1⟩ := h1
      clear h
      go_enter Tryz.func139, Tryz.ntmps139
      go_wp2_with (go_at_call 188; refine (isKind_yes _ _ (by omega) (by omega)).mono ?_; rintro e w' ⟨rfl, rfl⟩)
      go_ret
      exact ⟨rfl, (Below.refl _ _).alloc (Nat.le_refl _) _⟩
  · have h6 : kd < 1 ∨ 3 < kd := by omega
    have H6 := (show Hid _ from h6)
    clear h h1 h6
    go_enter Tryz.func139, Tryz.ntmps139
    go_wp2_with (go_at_call 188; refine (isKind_no _ _ H6.out).mono ?_; rintro e w' ⟨rfl, rfl⟩)
    go_ret
    exact ⟨rfl, (Below.refl _ _).alloc (Nat.le_refl _) _⟩

set_option maxHeartbeats 1000000 in
theorem sseal_no (key kd ix ep sq : Int) (a : Option Addr) (n cap : Nat) (w : World) (hn : n ≤ 9223372036854775807) (h : ¬ (0 ≤ key ∧ key ≤ 4294967295 ∧ FrameOK kd ix ep sq n)) :
    Calls Tryz.prog 86 #[.int .i64 key, .agg #[.int .i64 kd, .int .i64 ix, .int .i64 ep, .int .i64 sq, .slice a n cap]] w fun e w' => e = .returned (.tuple #[.slice none 0 0, .int .i64 1]) ∧ Below w.heap.size w w' := by
  by_cases h1 : 0 ≤ key ∧ key ≤ 4294967295
  · have h2 : ¬ FrameOK kd ix ep sq n := fun e => h ⟨h1.1, h1.2, e⟩
    have H1 := (show Hid _ from h1)
    have H2 := (show Hid _ from h2)
    clear h h1 h2
    go_enter Tryz.func86, Tryz.ntmps86
    go_wp2_with fail
    refine (isNumber_yes _ _ H1.out.1 H1.out.2).mono ?_
    rintro e w' ⟨rfl, hw'⟩
    have hw2 := hw'.symm
    clear hw'
    subst hw2
    go_wp2_with fail
    refine (isFrame_no _ _ _ _ _ _ _ _ hn H2.out).mono ?_
    rintro e w1 ⟨rfl, hb1⟩
    have hb01 : Below w.heap.size w w1 := ((Below.refl _ _).alloc (Nat.le_refl _) _).trans (hb1.mono (by simp))
    clear hb1
    go_wp2
    go_ret2
    exact ⟨rfl, hb01⟩
  · have h2 : key < 0 ∨ 4294967295 < key := by omega
    have H2 := (show Hid _ from h2)
    clear h h1 h2
    go_enter Tryz.func86, Tryz.ntmps86
    go_wp2_with fail
    refine (isNumber_no _ _ H2.out).mono ?_
    rintro e w' ⟨rfl, hw'⟩
    have hw2 := hw'.symm
    clear hw'
    subst hw2
    go_wp2
    go_ret2
    exact ⟨rfl, (Below.refl _ _).alloc (Nat.le_refl _) _⟩
end Go.Proofs.YtloaefcgcniacaaGreatDoor

namespace Go.Proofs.YtloaefcgcniacaaGreatDoor
open Go.RowKit
set_option linter.unusedVariables false

/-- What is lent: the text's bytes, and four of the caller's own behind them. -/
def lentL (s : ByteArray) : List Nat := sbytes s ++ [77, 77, 77, 77]
theorem lentL_length (s : ByteArray) : (lentL s).length = s.size + 4 := by simp [lentL, sbytes_length]
theorem lentL_lt (s : ByteArray) : ∀ x ∈ lentL s, x < 256 := by
  intro x hx
  rcases List.mem_append.1 hx with hx | hx
  · exact sbytes_lt s x hx
  · simp at hx
    omega
theorem fixB_lent (s : ByteArray) : fixB (sbytes s) (s.size + 4) = sbytes s ++ [0, 0, 0, 0] := by
  unfold fixB
  rw [sbytes_length, List.take_of_length_le (by rw [sbytes_length]; omega)]
  have : s.size + 4 - s.size = 4 := by omega
  rw [this]
  rfl
theorem part_lent (s : ByteArray) : Lbx.part (lentL s) (sbytes s ++ [0, 0, 0, 0]) s.size = sbytes s ++ [0, 0, 0, 0] := by
  unfold Lbx.part lentL
  have h := sbytes_length s
  rw [List.take_append_of_le_length (by omega), List.drop_append_of_le_length (by omega), List.take_of_length_le (by omega), List.drop_of_length_le (by omega)]
  rfl
theorem lentL_tail (s : ByteArray) (k : Nat) (h1 : s.size ≤ k) (h2 : k < s.size + 4) : (lentL s)[k]?.getD 0 = 77 := by
  unfold lentL
  have h := sbytes_length s
  rw [List.getElem?_append_right (by omega), h]
  obtain h0 | h0 | h0 | h0 : k - s.size = 0 ∨ k - s.size = 1 ∨ k - s.size = 2 ∨ k - s.size = 3 := by omega
  all_goals rw [h0]; rfl
theorem bstr_sbytes (s : ByteArray) : bstr (sbytes s) = s := by
  unfold bstr sbytes
  rw [List.map_map]
  have e : (UInt8.ofNat ∘ UInt8.toNat) = id := by
    funext x
    simp
  rw [e, List.map_id]

theorem grownBy_refl0 (w : World) (r : Option Nat) : w.grownBy w r := ⟨rfl, rfl, rfl, Nat.le_refl _, fun _ _ _ => rfl⟩
theorem grownBy_setCell0 {w w' : World} {g : Nat} (h : w.grownBy w' (some g)) (i : Nat) (v : Value) : w.grownBy (w'.setCell ⟨g, i, none⟩ v) (some g) :=
  ⟨h.os, h.tape, h.output, by simpa using h.size, fun k hk hn => (Below.heap_setCell _ _ _ _ (fun e => hn (by rw [e]))).trans (h.block k hk hn)⟩

set_option maxHeartbeats 1000000 in
theorem lent_any (s : ByteArray) (w : World) (hs : s.size ≤ 2000000) :
    Calls Tryz.prog 85 #[.string s] w fun e w' => e = .returned (.slice (some ⟨w.heap.size, 0, none⟩) s.size (s.size + 4)) ∧ Blk w' w.heap.size (lentL s) ∧ Below w.heap.size w w' := by
  have hmk := run_make_bytes (s.size + 4) (by omega) w
  have ec : ((s.size + 4 : Nat) : Int) = (s.size : Int) + 4 := by omega
  rw [ec] at hmk
  clear ec
  obtain ⟨v, W1, hcp, hB, hb⟩ := run_copy_str (w.alloc (.cells (blkOf (List.replicate (s.size + 4) 0)) 5)) 3 w.heap.size (s.size + 4) s (blk_new w _)
  rw [fixB_lent] at hB
  have hb0 : Below w.heap.size w W1 := ((Below.refl _ _).alloc (Nat.le_refl _) _).trans hb
  clear hb
  have hvl : (lentL s).length = (sbytes s ++ [0, 0, 0, 0]).length := by simp [lentL]
  have hvn : (sbytes s ++ [0, 0, 0, 0]).length = s.size + 4 := by simp [sbytes_length]
  have HVL := (show Hid _ from hvl)
  have HVN := (show Hid _ from hvn)
  clear hvl hvn
  generalize hS : s.size = S at *
  have HS := (show Hid _ from hS)
  have hst := part_lent s
  rw [hS] at hst
  have HST := (show Hid _ from hst)
  clear hst
  have htl := lentL_tail s
  rw [hS] at htl
  have HTL := (show Hid _ from htl)
  clear htl
  go_enter Tryz.func85, Tryz.ntmps85
  go_wp2
  go_loopw [5] (fun i wr => ∃ k : Nat, S ≤ k ∧ k ≤ S + 4 ∧ i = .int .i64 k ∧ Blk wr w.heap.size (Lbx.part (lentL s) (sbytes s ++ [0, 0, 0, 0]) k) ∧ Below w.heap.size w wr) (fun i _ => S + 4 - (intOf i).toNat)
  case atStart =>
    refine ⟨S, Nat.le_refl _, by omega, rfl, ?_, hb0⟩
    rw [HST.out]
    exact hB
  case round =>
    clear hcp hmk hB
    obtain ⟨k, hk1, hk2, rfl, hbk, hbel⟩ := hrel
    have hlk : (Lbx.part (lentL s) (sbytes s ++ [0, 0, 0, 0]) k).length = S + 4 := by rw [Lbx.part_length _ _ _ HVL.out, HVN.out]
    by_cases hlt : k < S + 4
    · have hcell := hbk.cell k (by omega)
      have hfr := hbk.frozen k
      have hlti : (k : Int) < (S : Int) + 4 := by omega
      clear hlk
      go_wp2
      go_roundw
      case rel =>
        refine ⟨k + 1, by omega, by omega, by go_num, ?_, hbel.setCell (by simp) _⟩
        rw [← Lbx.part_succ _ _ _ HVL.out (by rw [HVN.out]; exact hlt), HTL.out k hk1 hlt]
        exact hbk.set k 77
      case measure => simp [intOf]; omega
    · have ek : k = (sbytes s ++ [0, 0, 0, 0]).length := by rw [HVN.out]; omega
      rw [ek, Lbx.part_all _ _ HVL.out] at hbk
      have hlti : ¬ (k : Int) < (S : Int) + 4 := by omega
      clear ek hlk
      go_wp2
      go_ret
      exact ⟨rfl, hbk, hbel⟩

set_option maxHeartbeats 1000000 in
theorem back_any (g : Nat) (s : ByteArray) (w : World) (hs : s.size ≤ 2000000) (hB : Blk w g (lentL s)) :
    Calls Tryz.prog 87 #[.slice (some ⟨g, 0, none⟩) s.size (s.size + 4), .string s] w fun e w' => e = .returned (.bool true) ∧ w.grownBy w' (some g) ∧ w'.heap.size = w.heap.size ∧ ∃ l, Blk w' g l := by
  have hstr : (convert 66 9 (.slice (some ⟨g, 0, none⟩) s.size (s.size + 4))).run Tryz.prog w = .ok (.string s) w := by
    have h := run_str w g 0 s.size (s.size + 4) (sbytes s) (sbytes_length s) (by
      have h1 := hB.rd.take s.size
      have e : (lentL s).take s.size = sbytes s := by
        unfold lentL
        rw [List.take_append_of_le_length (by rw [sbytes_length]; omega), List.take_of_length_le (by rw [sbytes_length]; omega)]
      rw [e] at h1
      exact h1)
    rw [bstr_sbytes] at h
    exact h
  have htl := lentL_tail s
  have hLl := lentL_length s
  have HLL := (show Hid _ from hLl)
  clear hLl
  generalize hS : s.size = S at *
  have HS := (show Hid _ from hS)
  have HTL := (show Hid _ from htl)
  clear htl
  go_enter Tryz.func87, Tryz.ntmps87
  go_wp2
  go_loopw [7, 8] (fun ok i wr => ∃ k : Nat, k ≤ S + 4 ∧ ok = .bool true ∧ i = .int .i64 k ∧ Blk wr g (Lbx.part (List.replicate (S + 4) 200) (lentL s) k) ∧ w.grownBy wr (some g) ∧ wr.heap.size = w.heap.size) (fun _ i _ => S + 4 - (intOf i).toNat)
  case atStart =>
    refine ⟨0, by omega, ?_, rfl, ?_, grownBy_refl0 _ _, rfl⟩
    · simp
    · rw [Lbx.part_zero]
      exact hB
  case round =>
    clear hstr hB
    obtain ⟨k, hk2, rfl, rfl, hbk, hgr, hsz⟩ := hrel
    have hvl : (List.replicate (S + 4) 200).length = (lentL s).length := by rw [HLL.out]; simp
    have hlk : (Lbx.part (List.replicate (S + 4) 200) (lentL s) k).length = S + 4 := by rw [Lbx.part_length _ _ _ hvl, HLL.out]
    by_cases hlt : k < S + 4
    · have hcell := hbk.cell k (by omega)
      have hfr := hbk.frozen k
      have hpg := Lbx.part_get (List.replicate (S + 4) 200) (lentL s) k hvl (by rw [HLL.out]; exact hlt)
      rw [hpg] at hcell
      have hlti : (k : Int) < (S : Int) + 4 := by omega
      have HVL := (show Hid _ from hvl)
      clear hlk hvl hpg
      by_cases hkS : k < S
      · have hks : (k : Int) < (S : Int) := by omega
        go_wp2
        go_roundw
        case rel =>
          refine ⟨k + 1, by omega, rfl, by go_num, ?_, grownBy_setCell0 hgr _ _, by simpa using hsz⟩
          rw [← Lbx.part_succ _ _ _ HVL.out (by rw [HLL.out]; exact hlt)]
          have e : (List.replicate (S + 4) 200)[k]?.getD 0 = 200 := by simp [hlt]
          rw [e]
          exact hbk.set k 200
        case measure => simp [intOf]; omega
      · have hks : ¬ (k : Int) < (S : Int) := by omega
        rw [HTL.out k (by omega) hlt] at hcell
        go_wp2
        go_roundw
        case rel =>
          refine ⟨k + 1, by omega, rfl, by go_num, ?_, grownBy_setCell0 hgr _ _, by simpa using hsz⟩
          rw [← Lbx.part_succ _ _ _ HVL.out (by rw [HLL.out]; exact hlt)]
          have e : (List.replicate (S + 4) 200)[k]?.getD 0 = 200 := by simp [hlt]
          rw [e]
          exact hbk.set k 200
        case measure => simp [intOf]; omega
    · have hlti : ¬ (k : Int) < (S : Int) + 4 := by omega
      clear hlk hvl
      go_wp2
      go_ret
      exact ⟨rfl, hgr, hsz, _, hbk⟩
end Go.Proofs.YtloaefcgcniacaaGreatDoor
