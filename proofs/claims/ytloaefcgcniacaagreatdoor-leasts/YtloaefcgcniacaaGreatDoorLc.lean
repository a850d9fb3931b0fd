import Derived.Test.YtloaefcgcniacaaGreatDoorLb
namespace Go.Proofs.YtloaefcgcniacaaGreatDoor
open Go.RowKit
set_option linter.unusedVariables false

/-- Every step of these kinds is the document's, and makes nothing but new blocks. -/
def StepQ (lo hi : Int) : Prop := ∀ (WB : Nat) (k a b c d e0 : Int) (s : ByteArray) (w : World), lo ≤ k → k ≤ hi →
  Calls Tryz.prog 17 #[.pointer (some ⟨WB, 0, none⟩), .agg #[.int .i64 k, .int .i64 a, .int .i64 b, .int .i64 c, .int .i64 d, .int .i64 e0, .string s]] w fun e w' => e = .returned (.bool true) ∧ Below w.heap.size w w'

theorem stepq_least : StepQ 13 13 := by
  intro WB k a b c d e0 s w h1 h2
  obtain rfl : k = 13 := by omega
  exact step_least WB a b c d e0 s w

set_option maxRecDepth 100000 in
set_option maxHeartbeats 2000000 in
theorem plays_quiet (lo hi : Int) (hst : StepQ lo hi) (p : Option Addr) (n cap : Nat) (w : World) (hn : n < 4611686018427387904) (hs : n = 0 ∨ ∃ g off, p = some ⟨g, off, none⟩ ∧ g < w.heap.size ∧ OpsC w g off n) :
    Calls Tryz.prog 11 #[.slice p n cap, .int .i64 lo, .int .i64 hi] w fun e w' => e = .returned (.bool true) ∧ Below w.heap.size w w' := by
  go_enter Tryz.func11, Tryz.ntmps11
  go_wp2_with fail
  refine (opening_any _).mono ?_
  rintro e w1 ⟨go, rfl, hgo, hops, hb1⟩
  have hbk0 := (books_new w w.heap.size (Nat.le_refl _)).below hb1
  have hb01 : Below w.heap.size w w1 := ((Below.refl _ _).alloc (Nat.le_refl _) _).trans (hb1.mono (by simp))
  have hz1 := hb1.size
  simp only [World.size_alloc] at hz1 hgo
  have hgoz := hops.lt
  clear hb1
  go_wp2_with fail
  go_loopw [9] (fun i wr => ∃ k : Nat, k ≤ 14 ∧ i = .int .i64 k ∧ Books wr w.heap.size w.heap.size 0 ∧ OpsAt wr go 0 14 ∧ Below w.heap.size w wr) (fun i _ => 14 - (intOf i).toNat)
  case atStart => exact ⟨0, by omega, rfl, hbk0, hops, hb01⟩
  case round =>
    obtain ⟨k, hk, rfl, hbk, hop, hbel⟩ := hrel
    by_cases hlt : k < 14
    · obtain ⟨kk, a, b, c, d, e1, s, y0, y1, y2, y3, y4, y5, y6⟩ := hop.cells k hlt
      rw [Nat.zero_add] at y0 y1 y2 y3 y4 y5 y6
      have hlti : (k : Int) < 14 := by omega
      by_cases h1 : lo ≤ kk
      · by_cases h2 : kk ≤ hi
        · go_wp2_with fail
          refine (hst w.heap.size kk a b c d e1 s _ h1 h2).mono ?_
          rintro e w2 ⟨rfl, hb2⟩
          have hB' := hbk.below hb2
          have hop2 := hop.keep (Keeps.of_below hb2)
          have hzz := hbel.size
          clear y0 y1 y2 y3 y4 y5 y6
          go_wp2
          go_roundw
          case rel => exact ⟨k + 1, by omega, by go_num, hB', hop2, hbel.trans (hb2.mono (by omega))⟩
          case measure => simp [intOf]; omega
        · go_wp2
          go_roundw
          case rel => exact ⟨k + 1, by omega, by go_num, hbk, hop, hbel⟩
          case measure => simp [intOf]; omega
      · go_wp2
        go_roundw
        case rel => exact ⟨k + 1, by omega, by go_num, hbk, hop, hbel⟩
        case measure => simp [intOf]; omega
    · have hlti : ¬ (k : Int) < 14 := by omega
      clear hbk0 hops hop hbk
      have hbn := books_new wr wr.heap.size (Nat.le_refl _)
      have hba : Below wr.heap.size wr (wr.alloc (Obj.cells #[Value.slice none 0 0, Value.slice none 0 0, Value.slice none 0 0] 53)) := (Below.refl _ _).alloc (Nat.le_refl _) _
      have hzr := hbel.size
      generalize wr = V at *
      go_wp2_with fail
      go_loopw [12] (fun i wr => ∃ j : Nat, j ≤ n ∧ i = .int .i64 j ∧ Books wr V.heap.size V.heap.size 0 ∧ Below V.heap.size V wr) (fun i _ => n - (intOf i).toNat)
      case atStart => exact ⟨0, Nat.zero_le _, rfl, hbn, hba⟩
      case round =>
        obtain ⟨j, hj, rfl, hbk, hbv⟩ := hrel
        clear hbn hba
        by_cases hjn : j < n
        · rcases hs with h0 | ⟨g, off, rfl, hgl, hops⟩
          · omega
          · have hopj := (hops.below hbel hgl).below hbv (by omega)
            obtain ⟨kk, a, b, c, d, e1, s, y0, y1, y2, y3, y4, y5, y6⟩ := hopj j hjn
            clear hopj
            have hjni : (j : Int) < (n : Int) := by omega
            by_cases h1 : lo ≤ kk
            · by_cases h2 : kk ≤ hi
              · have h1n : ¬ kk < lo := by omega
                have h2n : ¬ hi < kk := by omega
                go_wp2_with fail
                refine (hst V.heap.size kk a b c d e1 s _ h1 h2).mono ?_
                rintro e w2 ⟨rfl, hb2⟩
                have hB' := hbk.below hb2
                clear y0 y1 y2 y3 y4 y5 y6
                go_wp2_with fail
                refine (whole_any V.heap.size V.heap.size 0 _ (by omega) hB').mono ?_
                rintro e w3 ⟨rfl, hb3⟩
                have hB3 := hB'.below hb3
                have hz2 := hb2.size
                have hzv := hbv.size
                go_wp2
                go_roundw
                case rel => exact ⟨j + 1, by omega, by go_num, hB3, hbv.trans ((hb2.mono (by omega)).trans (hb3.mono (by omega)))⟩
                case measure => simp [intOf]; omega
              · have h1n : ¬ kk < lo := by omega
                have h2n : hi < kk := by omega
                go_wp2
                go_roundw
                case rel => exact ⟨j + 1, by omega, by go_num, hbk, hbv⟩
                case measure => simp [intOf]; omega
            · have h1n : kk < lo := by omega
              go_wp2
              go_roundw
              case rel => exact ⟨j + 1, by omega, by go_num, hbk, hbv⟩
              case measure => simp [intOf]; omega
        · go_wp2
          go_ret
          exact ⟨rfl, hbel.trans (hbv.mono hzr)⟩

set_option maxHeartbeats 400000 in
theorem leasts_walk (p : Option Addr) (n cap : Nat) (w : World) (hn : n < 4611686018427387904) (hs : n = 0 ∨ ∃ g off, p = some ⟨g, off, none⟩ ∧ g < w.heap.size ∧ OpsC w g off n) :
    Calls Tryz.prog 7 #[.slice p n cap] w fun e w' => e = .returned (.bool true) ∧ Below w.heap.size w w' := by
  go_enter Tryz.func7, Tryz.ntmps7
  go_wp2_with fail
  refine (plays_quiet 13 13 stepq_least p n cap w hn hs).mono ?_
  rintro e w1 ⟨rfl, hb1⟩
  go_wp2
  go_ret
  exact ⟨rfl, hb1⟩
end Go.Proofs.YtloaefcgcniacaaGreatDoor
