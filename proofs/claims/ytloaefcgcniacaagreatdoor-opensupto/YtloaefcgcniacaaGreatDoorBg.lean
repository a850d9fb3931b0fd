import Derived.Test.YtloaefcgcniacaaGreatDoorBf
namespace Go.Proofs.YtloaefcgcniacaaGreatDoor
open Go.RowKit
set_option linter.unusedVariables false

/-- Every step of these kinds is the document's, and leaves the books whole. -/
def StepOK (lo hi : Int) : Prop := ∀ (base WB N : Nat) (k a b c d e0 : Int) (s : ByteArray) (w : World), lo ≤ k → k ≤ hi → N < 1000000 → Books w base WB N →
  Calls Tryz.prog 17 #[.pointer (some ⟨WB, 0, none⟩), .agg #[.int .i64 k, .int .i64 a, .int .i64 b, .int .i64 c, .int .i64 d, .int .i64 e0, .string s]] w fun e w' => e = .returned (.bool true) ∧ (∃ N', N' ≤ N + 1 ∧ Books w' base WB N') ∧ Below base w w' ∧ Keeps w w'

set_option maxRecDepth 100000 in
set_option maxHeartbeats 1000000 in
theorem step_stream : StepOK 1 1 := by
  intro base WB N k a b c d e0 s w h1 h2 hN hB
  have hk : k = 1 := by omega
  subst hk
  have hwb := hB.wb
  have hbx : Below w.heap.size w (w.alloc (Obj.cells #[.int .i64 1, .int .i64 a, .int .i64 b, .int .i64 c, .int .i64 d, .int .i64 e0, .string s] 56)) := (Below.refl _ _).alloc (Nat.le_refl _) _
  have hBx := hB.below hbx
  clear h1 h2
  go_enter Tryz.func17, Tryz.ntmps17
  go_wp2_with fail
  refine (frames_stream base WB N a b c d e0 s _ hN hBx).mono ?_
  rintro e w1 ⟨rfl, hB1, hb1, hk1⟩
  go_wp2
  go_ret
  exact ⟨rfl, ⟨N + 1, Nat.le_refl _, hB1⟩, (hbx.mono (by omega)).trans hb1, (Keeps.of_below hbx).trans hk1⟩

/-- The books of a new World. -/
theorem books_new (w : World) (base : Nat) (hb : base ≤ w.heap.size) : Books (w.alloc (Obj.cells #[.slice none 0 0, .slice none 0 0, .slice none 0 0] 53)) base w.heap.size 0 :=
  ⟨_, _, _, [], hb, heap_alloc_new w _, World.ownsRow_nil _ _ _ _, fun j hj => by omega⟩

theorem OpsAt.keep {w w' : World} {g off n : Nat} (h : OpsAt w g off n) (hk : Keeps w w') : OpsAt w' g off n := by
  obtain ⟨cur, fz, h1, h2⟩ := h
  exact ⟨cur, fz, hk g cur _ fz (by decide) (by decide) (by decide) h1, h2⟩
theorem OpsAt.cells {w : World} {g off n : Nat} (h : OpsAt w g off n) (i : Nat) (hi : i < n) : ∃ (k a b c d e : Int) (s : ByteArray),
    w.cell? ⟨g, off + i * 7, none⟩ = some (.int .i64 k) ∧ w.cell? ⟨g, off + i * 7 + 1, none⟩ = some (.int .i64 a) ∧ w.cell? ⟨g, off + i * 7 + 2, none⟩ = some (.int .i64 b) ∧ w.cell? ⟨g, off + i * 7 + 3, none⟩ = some (.int .i64 c) ∧
    w.cell? ⟨g, off + i * 7 + 4, none⟩ = some (.int .i64 d) ∧ w.cell? ⟨g, off + i * 7 + 5, none⟩ = some (.int .i64 e) ∧ w.cell? ⟨g, off + i * 7 + 6, none⟩ = some (.string s) := by
  obtain ⟨cur, fz, h1, h2⟩ := h
  obtain ⟨k, a, b, c, d, e, s, y0, y1, y2, y3, y4, y5, y6⟩ := h2 i hi
  refine ⟨k, a, b, c, d, e, s, ?_, ?_, ?_, ?_, ?_, ?_, ?_⟩ <;> simp only [World.cell?, h1] <;> simpa using by assumption
theorem OpsAt.lt {w : World} {g off n : Nat} (h : OpsAt w g off n) : g < w.heap.size := by
  obtain ⟨cur, fz, h1, _⟩ := h
  exact (Array.getElem?_eq_some_iff.1 h1).1

/-- A script that came in, by its cells. -/
def OpsC (w : World) (g off n : Nat) : Prop := ∀ i, i < n → ∃ (k a b c d e : Int) (s : ByteArray),
  w.cell? ⟨g, off + i * 7, none⟩ = some (.int .i64 k) ∧ w.cell? ⟨g, off + i * 7 + 1, none⟩ = some (.int .i64 a) ∧ w.cell? ⟨g, off + i * 7 + 2, none⟩ = some (.int .i64 b) ∧ w.cell? ⟨g, off + i * 7 + 3, none⟩ = some (.int .i64 c) ∧
  w.cell? ⟨g, off + i * 7 + 4, none⟩ = some (.int .i64 d) ∧ w.cell? ⟨g, off + i * 7 + 5, none⟩ = some (.int .i64 e) ∧ w.cell? ⟨g, off + i * 7 + 6, none⟩ = some (.string s)
theorem OpsC.below {w w' : World} {g off n B : Nat} (h : OpsC w g off n) (hb : Below B w w') (hg : g < B) : OpsC w' g off n := by
  intro i hi
  obtain ⟨k, a, b, c, d, e, s, h0, h1, h2, h3, h4, h5, h6⟩ := h i hi
  exact ⟨k, a, b, c, d, e, s, (hb.cell (p := ⟨g, off + i * 7, none⟩) hg).trans h0, (hb.cell (p := ⟨g, off + i * 7 + 1, none⟩) hg).trans h1, (hb.cell (p := ⟨g, off + i * 7 + 2, none⟩) hg).trans h2, (hb.cell (p := ⟨g, off + i * 7 + 3, none⟩) hg).trans h3, (hb.cell (p := ⟨g, off + i * 7 + 4, none⟩) hg).trans h4, (hb.cell (p := ⟨g, off + i * 7 + 5, none⟩) hg).trans h5, (hb.cell (p := ⟨g, off + i * 7 + 6, none⟩) hg).trans h6⟩

set_option maxRecDepth 100000 in
set_option maxHeartbeats 2000000 in
theorem plays_any (lo hi : Int) (hst : StepOK lo hi) (p : Option Addr) (n cap : Nat) (w : World) (hn : n ≤ 200000) (hs : n = 0 ∨ ∃ g off, p = some ⟨g, off, none⟩ ∧ g < w.heap.size ∧ OpsC w g off n) :
    Calls Tryz.prog 11 #[.slice p n cap, .int .i64 lo, .int .i64 hi] w fun e w' => e = .returned (.bool true) ∧ Below w.heap.size w w' := by
  go_enter Tryz.func11, Tryz.ntmps11
  go_wp2_with fail
  refine (opening_any _).mono ?_
  rintro e w1 ⟨go, rfl, hgo, hops, hb1⟩
  have hbk0 := (books_new w w.heap.size (Nat.le_refl _)).below hb1
  have hb01 : Below w.heap.size w w1 := ((Below.refl _ _).alloc (Nat.le_refl _) _).trans (hb1.mono (by simp))
  have hz1 := hb1.size
  simp only [World.size_alloc] at hz1 hgo
  have hgoz := hops.lt
  clear hb1
  go_wp2_with fail
  go_loopw [9] (fun i wr => ∃ k : Nat, k ≤ 14 ∧ i = .int .i64 k ∧ (∃ N, N ≤ k ∧ Books wr w.heap.size w.heap.size N) ∧ OpsAt wr go 0 14 ∧ Below w.heap.size w wr) (fun i _ => 14 - (intOf i).toNat)
  case atStart => exact ⟨0, by omega, rfl, ⟨0, Nat.le_refl _, hbk0⟩, hops, hb01⟩
  case round =>
    obtain ⟨k, hk, rfl, ⟨N, hN, hbk⟩, hop, hbel⟩ := hrel
    by_cases hlt : k < 14
    · obtain ⟨kk, a, b, c, d, e1, s, y0, y1, y2, y3, y4, y5, y6⟩ := hop.cells k hlt
      rw [Nat.zero_add] at y0 y1 y2 y3 y4 y5 y6
      have hlti : (k : Int) < 14 := by omega
      by_cases h1 : lo ≤ kk
      · by_cases h2 : kk ≤ hi
        · go_wp2_with fail
          refine (hst w.heap.size w.heap.size N kk a b c d e1 s _ h1 h2 (by omega) hbk).mono ?_
          rintro e w2 ⟨rfl, ⟨N', hN', hB'⟩, hb2, hk2⟩
          have hop2 := hop.keep hk2
          clear y0 y1 y2 y3 y4 y5 y6
          go_wp2
          go_roundw
          case rel => exact ⟨k + 1, by omega, by go_num, ⟨N', by omega, hB'⟩, hop2, hbel.trans hb2⟩
          case measure => simp [intOf]; omega
        · go_wp2
          go_roundw
          case rel => exact ⟨k + 1, by omega, by go_num, ⟨N, by omega, hbk⟩, hop, hbel⟩
          case measure => simp [intOf]; omega
      · go_wp2
        go_roundw
        case rel => exact ⟨k + 1, by omega, by go_num, ⟨N, by omega, hbk⟩, hop, hbel⟩
        case measure => simp [intOf]; omega
    · have hlti : ¬ (k : Int) < 14 := by omega
      clear hbk0 hops hop hbk
      have hbn := books_new wr wr.heap.size (Nat.le_refl _)
      have hba : Below wr.heap.size wr (wr.alloc (Obj.cells #[Value.slice none 0 0, Value.slice none 0 0, Value.slice none 0 0] 53)) := (Below.refl _ _).alloc (Nat.le_refl _) _
      have hzr := hbel.size
      generalize wr = V at *
      go_wp2_with fail
      go_loopw [12] (fun i wr => ∃ j : Nat, j ≤ n ∧ i = .int .i64 j ∧ (∃ N, N ≤ j ∧ Books wr V.heap.size V.heap.size N) ∧ Below V.heap.size V wr) (fun i _ => n - (intOf i).toNat)
      case atStart => exact ⟨0, Nat.zero_le _, rfl, ⟨0, Nat.le_refl _, hbn⟩, hba⟩
      case round =>
        obtain ⟨j, hj, rfl, ⟨N2, hN2, hbk⟩, hbv⟩ := hrel
        clear hbn hba
        by_cases hjn : j < n
        · rcases hs with h0 | ⟨g, off, rfl, hgl, hops⟩
          · omega
          · have hopj := (hops.below hbel hgl).below hbv (by omega)
            obtain ⟨kk, a, b, c, d, e1, s, y0, y1, y2, y3, y4, y5, y6⟩ := hopj j hjn
            clear hopj
            have hjni : (j : Int) < (n : Int) := by omega
            by_cases h1 : lo ≤ kk
            · by_cases h2 : kk ≤ hi
              · have h1n : ¬ kk < lo := by omega
                have h2n : ¬ hi < kk := by omega
                go_wp2_with fail
                refine (hst V.heap.size V.heap.size N2 kk a b c d e1 s _ h1 h2 (by omega) hbk).mono ?_
                rintro e w2 ⟨rfl, ⟨N', hN', hB'⟩, hb2, hk2⟩
                clear y0 y1 y2 y3 y4 y5 y6
                go_wp2_with fail
                refine (whole_any V.heap.size V.heap.size N' _ (by omega) hB').mono ?_
                rintro e w3 ⟨rfl, hb3⟩
                have hB3 := hB'.below hb3
                have hz2 := hb2.size
                have hzv := hbv.size
                go_wp2
                go_roundw
                case rel => exact ⟨j + 1, by omega, by go_num, ⟨N', by omega, hB3⟩, hbv.trans (hb2.trans (hb3.mono (by omega)))⟩
                case measure => simp [intOf]; omega
              · have h1n : ¬ kk < lo := by omega
                have h2n : hi < kk := by omega
                go_wp2
                go_roundw
                case rel => exact ⟨j + 1, by omega, by go_num, ⟨N2, by omega, hbk⟩, hbv⟩
                case measure => simp [intOf]; omega
            · have h1n : kk < lo := by omega
              go_wp2
              go_roundw
              case rel => exact ⟨j + 1, by omega, by go_num, ⟨N2, by omega, hbk⟩, hbv⟩
              case measure => simp [intOf]; omega
        · go_wp2
          go_ret
          exact ⟨rfl, hbel.trans (hbv.mono hzr)⟩

set_option maxHeartbeats 400000 in
theorem streams_walk (p : Option Addr) (n cap : Nat) (w : World) (hn : n ≤ 200000) (hs : n = 0 ∨ ∃ g off, p = some ⟨g, off, none⟩ ∧ g < w.heap.size ∧ OpsC w g off n) :
    Calls Tryz.prog 3 #[.slice p n cap] w fun e w' => e = .returned (.bool true) ∧ Below w.heap.size w w' := by
  go_enter Tryz.func3, Tryz.ntmps3
  go_wp2_with fail
  refine (plays_any 1 1 step_stream p n cap w hn hs).mono ?_
  rintro e w1 ⟨rfl, hb1⟩
  go_wp2
  go_ret
  exact ⟨rfl, hb1⟩
end Go.Proofs.YtloaefcgcniacaaGreatDoor
