import Derived.Test.YtloaefcgcniacaaGreatDoorFe
namespace Go.Proofs.YtloaefcgcniacaaGreatDoor
open Go.RowKit
set_option linter.unusedVariables false

/-- A script's steps, seven cells each, no string of them longer than may be played. -/
def OpsAt2 (w : World) (g off n : Nat) : Prop := ∃ (cur : Array Value) (fz : Nat × Nat), w.heap[g]? = some (Obj.cells cur 56 fz) ∧ ∀ i, i < n → ∃ (k a b c d e : Int) (s : ByteArray),
  cur[off + i * 7]? = some (.int .i64 k) ∧ cur[off + i * 7 + 1]? = some (.int .i64 a) ∧ cur[off + i * 7 + 2]? = some (.int .i64 b) ∧ cur[off + i * 7 + 3]? = some (.int .i64 c) ∧
  cur[off + i * 7 + 4]? = some (.int .i64 d) ∧ cur[off + i * 7 + 5]? = some (.int .i64 e) ∧ cur[off + i * 7 + 6]? = some (.string s) ∧ s.size ≤ 2000000

set_option maxRecDepth 100000 in
set_option maxHeartbeats 1000000 in
theorem opening_any2 (w : World) : Calls Tryz.prog 16 #[] w fun e w' => ∃ g, e = .returned (.slice (some ⟨g, 0, none⟩) 14 14) ∧ w.heap.size ≤ g ∧ OpsAt2 w' g 0 14 ∧ Below w.heap.size w w' := by
  have kc := fun (w : World) (C : Array Value) (n c : Nat) => Lib.run_convert_bytes_const (P := Tryz.prog) w 66 5 C n c Tryz.underlying66 Tryz.underlying5
  go_enter Tryz.func16, Tryz.ntmps16
  go_wp2_with fail
  refine (seven_seal w).mono ?_
  rintro e w1 ⟨g1, c1, rfl, hg1, hO1, hb1⟩
  have hs := run_str w1 g1 0 58 c1 _ (by rw [Lbx.sealB_length]; rfl) hO1.rd
  have hFl : (Lbx.sealB 7 1 3 1 0 digits40).length = 58 := by rw [Lbx.sealB_length]; rfl
  generalize Lbx.sealB 7 1 3 1 0 digits40 = F at *
  have hz := hb1.size
  go_wp2
  go_ret
  refine ⟨w1.heap.size, rfl, hz, ⟨_, _, heap_alloc_new w1 _, ?_⟩, hb1.alloc hz _⟩
  have hsz : (bstr F).size ≤ 2000000 := by rw [bstr_size]; omega
  intro i hi
  match i, hi with
  | 0, _ => exact ⟨_, _, _, _, _, _, _, rfl, rfl, rfl, rfl, rfl, rfl, rfl, by first | exact hsz | decide⟩
  | 1, _ => exact ⟨_, _, _, _, _, _, _, rfl, rfl, rfl, rfl, rfl, rfl, rfl, by first | exact hsz | decide⟩
  | 2, _ => exact ⟨_, _, _, _, _, _, _, rfl, rfl, rfl, rfl, rfl, rfl, rfl, by first | exact hsz | decide⟩
  | 3, _ => exact ⟨_, _, _, _, _, _, _, rfl, rfl, rfl, rfl, rfl, rfl, rfl, by first | exact hsz | decide⟩
  | 4, _ => exact ⟨_, _, _, _, _, _, _, rfl, rfl, rfl, rfl, rfl, rfl, rfl, by first | exact hsz | decide⟩
  | 5, _ => exact ⟨_, _, _, _, _, _, _, rfl, rfl, rfl, rfl, rfl, rfl, rfl, by first | exact hsz | decide⟩
  | 6, _ => exact ⟨_, _, _, _, _, _, _, rfl, rfl, rfl, rfl, rfl, rfl, rfl, by first | exact hsz | decide⟩
  | 7, _ => exact ⟨_, _, _, _, _, _, _, rfl, rfl, rfl, rfl, rfl, rfl, rfl, by first | exact hsz | decide⟩
  | 8, _ => exact ⟨_, _, _, _, _, _, _, rfl, rfl, rfl, rfl, rfl, rfl, rfl, by first | exact hsz | decide⟩
  | 9, _ => exact ⟨_, _, _, _, _, _, _, rfl, rfl, rfl, rfl, rfl, rfl, rfl, by first | exact hsz | decide⟩
  | 10, _ => exact ⟨_, _, _, _, _, _, _, rfl, rfl, rfl, rfl, rfl, rfl, rfl, by first | exact hsz | decide⟩
  | 11, _ => exact ⟨_, _, _, _, _, _, _, rfl, rfl, rfl, rfl, rfl, rfl, rfl, by first | exact hsz | decide⟩
  | 12, _ => exact ⟨_, _, _, _, _, _, _, rfl, rfl, rfl, rfl, rfl, rfl, rfl, by first | exact hsz | decide⟩
  | 13, _ => exact ⟨_, _, _, _, _, _, _, rfl, rfl, rfl, rfl, rfl, rfl, rfl, by first | exact hsz | decide⟩
/-- Every step of these kinds is the document's, and leaves the books whole. -/
def StepOK2 (lo hi : Int) : Prop := ∀ (base WB N : Nat) (k a b c d e0 : Int) (s : ByteArray) (w : World), lo ≤ k → k ≤ hi → N < 1000000 → s.size ≤ 2000000 → Books w base WB N →
  Calls Tryz.prog 17 #[.pointer (some ⟨WB, 0, none⟩), .agg #[.int .i64 k, .int .i64 a, .int .i64 b, .int .i64 c, .int .i64 d, .int .i64 e0, .string s]] w fun e w' => e = .returned (.bool true) ∧ (∃ N', N' ≤ N + 1 ∧ Books w' base WB N') ∧ Below base w w' ∧ Keeps w w'

set_option maxRecDepth 100000 in
set_option maxHeartbeats 1000000 in
theorem step_seal : StepOK2 2 2 := by
  intro base WB N k a b c d e0 s w h1 h2 hN hsz hB
  have hk : k = 2 := by omega
  subst hk
  have hwb := hB.wb
  have hbx : Below w.heap.size w (w.alloc (Obj.cells #[.int .i64 2, .int .i64 a, .int .i64 b, .int .i64 c, .int .i64 d, .int .i64 e0, .string s] 56)) := (Below.refl _ _).alloc (Nat.le_refl _) _
  have hBx := hB.below hbx
  clear h1 h2
  go_enter Tryz.func17, Tryz.ntmps17
  go_wp2_with fail
  refine (frames_seal base WB N a b c d e0 s _ hN hBx hsz).mono ?_
  rintro e w1 ⟨rfl, hB1, hb1, hk1⟩
  go_wp2
  go_ret
  exact ⟨rfl, ⟨N + 1, Nat.le_refl _, hB1⟩, (hbx.mono (by omega)).trans hb1, (Keeps.of_below hbx).trans hk1⟩

theorem OpsAt2.keep {w w' : World} {g off n : Nat} (h : OpsAt2 w g off n) (hk : Keeps w w') : OpsAt2 w' g off n := by
  obtain ⟨cur, fz, h1, h2⟩ := h
  exact ⟨cur, fz, hk g cur _ fz (by decide) (by decide) (by decide) h1, h2⟩
theorem OpsAt2.cells {w : World} {g off n : Nat} (h : OpsAt2 w g off n) (i : Nat) (hi : i < n) : ∃ (k a b c d e : Int) (s : ByteArray),
    w.cell? ⟨g, off + i * 7, none⟩ = some (.int .i64 k) ∧ w.cell? ⟨g, off + i * 7 + 1, none⟩ = some (.int .i64 a) ∧ w.cell? ⟨g, off + i * 7 + 2, none⟩ = some (.int .i64 b) ∧ w.cell? ⟨g, off + i * 7 + 3, none⟩ = some (.int .i64 c) ∧
    w.cell? ⟨g, off + i * 7 + 4, none⟩ = some (.int .i64 d) ∧ w.cell? ⟨g, off + i * 7 + 5, none⟩ = some (.int .i64 e) ∧ w.cell? ⟨g, off + i * 7 + 6, none⟩ = some (.string s) ∧ s.size ≤ 2000000 := by
  obtain ⟨cur, fz, h1, h2⟩ := h
  obtain ⟨k, a, b, c, d, e, s, y0, y1, y2, y3, y4, y5, y6, y7⟩ := h2 i hi
  refine ⟨k, a, b, c, d, e, s, ?_, ?_, ?_, ?_, ?_, ?_, ?_, y7⟩ <;> simp only [World.cell?, h1] <;> simpa using by assumption
theorem OpsAt2.lt {w : World} {g off n : Nat} (h : OpsAt2 w g off n) : g < w.heap.size := by
  obtain ⟨cur, fz, h1, _⟩ := h
  exact (Array.getElem?_eq_some_iff.1 h1).1

/-- A script that came in, by its cells. -/
def OpsC2 (w : World) (g off n : Nat) : Prop := ∀ i, i < n → ∃ (k a b c d e : Int) (s : ByteArray),
  w.cell? ⟨g, off + i * 7, none⟩ = some (.int .i64 k) ∧ w.cell? ⟨g, off + i * 7 + 1, none⟩ = some (.int .i64 a) ∧ w.cell? ⟨g, off + i * 7 + 2, none⟩ = some (.int .i64 b) ∧ w.cell? ⟨g, off + i * 7 + 3, none⟩ = some (.int .i64 c) ∧
  w.cell? ⟨g, off + i * 7 + 4, none⟩ = some (.int .i64 d) ∧ w.cell? ⟨g, off + i * 7 + 5, none⟩ = some (.int .i64 e) ∧ w.cell? ⟨g, off + i * 7 + 6, none⟩ = some (.string s) ∧ s.size ≤ 2000000
theorem OpsC2.below {w w' : World} {g off n B : Nat} (h : OpsC2 w g off n) (hb : Below B w w') (hg : g < B) : OpsC2 w' g off n := by
  intro i hi
  obtain ⟨k, a, b, c, d, e, s, h0, h1, h2, h3, h4, h5, h6, h7⟩ := h i hi
  exact ⟨k, a, b, c, d, e, s, (hb.cell (p := ⟨g, off + i * 7, none⟩) hg).trans h0, (hb.cell (p := ⟨g, off + i * 7 + 1, none⟩) hg).trans h1, (hb.cell (p := ⟨g, off + i * 7 + 2, none⟩) hg).trans h2, (hb.cell (p := ⟨g, off + i * 7 + 3, none⟩) hg).trans h3, (hb.cell (p := ⟨g, off + i * 7 + 4, none⟩) hg).trans h4, (hb.cell (p := ⟨g, off + i * 7 + 5, none⟩) hg).trans h5, (hb.cell (p := ⟨g, off + i * 7 + 6, none⟩) hg).trans h6, h7⟩

set_option maxRecDepth 100000 in
set_option maxHeartbeats 2000000 in
theorem plays_any2 (lo hi : Int) (hst : StepOK2 lo hi) (p : Option Addr) (n cap : Nat) (w : World) (hn : n ≤ 200000) (hs : n = 0 ∨ ∃ g off, p = some ⟨g, off, none⟩ ∧ g < w.heap.size ∧ OpsC2 w g off n) :
    Calls Tryz.prog 11 #[.slice p n cap, .int .i64 lo, .int .i64 hi] w fun e w' => e = .returned (.bool true) ∧ Below w.heap.size w w' := by
  go_enter Tryz.func11, Tryz.ntmps11
  go_wp2_with fail
  refine (opening_any2 _).mono ?_
  rintro e w1 ⟨go, rfl, hgo, hops, hb1⟩
  have hbk0 := (books_new w w.heap.size (Nat.le_refl _)).below hb1
  have hb01 : Below w.heap.size w w1 := ((Below.refl _ _).alloc (Nat.le_refl _) _).trans (hb1.mono (by simp))
  have hz1 := hb1.size
  simp only [World.size_alloc] at hz1 hgo
  have hgoz := hops.lt
  clear hb1
  go_wp2_with fail
  go_loopw [9] (fun i wr => ∃ k : Nat, k ≤ 14 ∧ i = .int .i64 k ∧ (∃ N, N ≤ k ∧ Books wr w.heap.size w.heap.size N) ∧ OpsAt2 wr go 0 14 ∧ Below w.heap.size w wr) (fun i _ => 14 - (intOf i).toNat)
  case atStart => exact ⟨0, by omega, rfl, ⟨0, Nat.le_refl _, hbk0⟩, hops, hb01⟩
  case round =>
    obtain ⟨k, hk, rfl, ⟨N, hN, hbk⟩, hop, hbel⟩ := hrel
    by_cases hlt : k < 14
    · obtain ⟨kk, a, b, c, d, e1, s, y0, y1, y2, y3, y4, y5, y6, y7⟩ := hop.cells k hlt
      have Y7 := (show Hid _ from y7)
      clear y7
      rw [Nat.zero_add] at y0 y1 y2 y3 y4 y5 y6
      have hlti : (k : Int) < 14 := by omega
      by_cases h1 : lo ≤ kk
      · by_cases h2 : kk ≤ hi
        · go_wp2_with fail
          refine (hst w.heap.size w.heap.size N kk a b c d e1 s _ h1 h2 (by omega) Y7.out hbk).mono ?_
          rintro e w2 ⟨rfl, ⟨N', hN', hB'⟩, hb2, hk2⟩
          have hop2 := hop.keep hk2
          clear y0 y1 y2 y3 y4 y5 y6
          go_wp2
          go_roundw
          case rel => exact ⟨k + 1, by omega, by go_num, ⟨N', by omega, hB'⟩, hop2, hbel.trans hb2⟩
          case measure => simp [intOf]; omega
        · go_wp2
          go_roundw
          case rel => exact ⟨k + 1, by omega, by go_num, ⟨N, by omega, hbk⟩, hop, hbel⟩
          case measure => simp [intOf]; omega
      · go_wp2
        go_roundw
        case rel => exact ⟨k + 1, by omega, by go_num, ⟨N, by omega, hbk⟩, hop, hbel⟩
        case measure => simp [intOf]; omega
    · have hlti : ¬ (k : Int) < 14 := by omega
      clear hbk0 hops hop hbk
      have hbn := books_new wr wr.heap.size (Nat.le_refl _)
      have hba : Below wr.heap.size wr (wr.alloc (Obj.cells #[Value.slice none 0 0, Value.slice none 0 0, Value.slice none 0 0] 53)) := (Below.refl _ _).alloc (Nat.le_refl _) _
      have hzr := hbel.size
      generalize wr = V at *
      go_wp2_with fail
      go_loopw [12] (fun i wr => ∃ j : Nat, j ≤ n ∧ i = .int .i64 j ∧ (∃ N, N ≤ j ∧ Books wr V.heap.size V.heap.size N) ∧ Below V.heap.size V wr) (fun i _ => n - (intOf i).toNat)
      case atStart => exact ⟨0, Nat.zero_le _, rfl, ⟨0, Nat.le_refl _, hbn⟩, hba⟩
      case round =>
        obtain ⟨j, hj, rfl, ⟨N2, hN2, hbk⟩, hbv⟩ := hrel
        clear hbn hba
        by_cases hjn : j < n
        · rcases hs with h0 | ⟨g, off, rfl, hgl, hops⟩
          · omega
          · have hopj := (hops.below hbel hgl).below hbv (by omega)
            obtain ⟨kk, a, b, c, d, e1, s, y0, y1, y2, y3, y4, y5, y6, y7⟩ := hopj j hjn
            have Y7 := (show Hid _ from y7)
            clear y7
            clear hopj
            have hjni : (j : Int) < (n : Int) := by omega
            by_cases h1 : lo ≤ kk
            · by_cases h2 : kk ≤ hi
              · have h1n : ¬ kk < lo := by omega
                have h2n : ¬ hi < kk := by omega
                go_wp2_with fail
                refine (hst V.heap.size V.heap.size N2 kk a b c d e1 s _ h1 h2 (by omega) Y7.out hbk).mono ?_
                rintro e w2 ⟨rfl, ⟨N', hN', hB'⟩, hb2, hk2⟩
                clear y0 y1 y2 y3 y4 y5 y6
                go_wp2_with fail
                refine (whole_any V.heap.size V.heap.size N' _ (by omega) hB').mono ?_
                rintro e w3 ⟨rfl, hb3⟩
                have hB3 := hB'.below hb3
                have hz2 := hb2.size
                have hzv := hbv.size
                go_wp2
                go_roundw
                case rel => exact ⟨j + 1, by omega, by go_num, ⟨N', by omega, hB3⟩, hbv.trans (hb2.trans (hb3.mono (by omega)))⟩
                case measure => simp [intOf]; omega
              · have h1n : ¬ kk < lo := by omega
                have h2n : hi < kk := by omega
                go_wp2
                go_roundw
                case rel => exact ⟨j + 1, by omega, by go_num, ⟨N2, by omega, hbk⟩, hbv⟩
                case measure => simp [intOf]; omega
            · have h1n : kk < lo := by omega
              go_wp2
              go_roundw
              case rel => exact ⟨j + 1, by omega, by go_num, ⟨N2, by omega, hbk⟩, hbv⟩
              case measure => simp [intOf]; omega
        · go_wp2
          go_ret
          exact ⟨rfl, hbel.trans (hbv.mono hzr)⟩

set_option maxHeartbeats 400000 in
theorem seals_walk (p : Option Addr) (n cap : Nat) (w : World) (hn : n ≤ 200000) (hs : n = 0 ∨ ∃ g off, p = some ⟨g, off, none⟩ ∧ g < w.heap.size ∧ OpsC2 w g off n) :
    Calls Tryz.prog 4 #[.slice p n cap] w fun e w' => e = .returned (.bool true) ∧ Below w.heap.size w w' := by
  go_enter Tryz.func4, Tryz.ntmps4
  go_wp2_with fail
  refine (plays_any2 2 2 step_seal p n cap w hn hs).mono ?_
  rintro e w1 ⟨rfl, hb1⟩
  go_wp2
  go_ret
  exact ⟨rfl, hb1⟩
end Go.Proofs.YtloaefcgcniacaaGreatDoor
