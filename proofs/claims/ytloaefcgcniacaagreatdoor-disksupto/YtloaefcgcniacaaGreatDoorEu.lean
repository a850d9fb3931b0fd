import Derived.Test.YtloaefcgcniacaaGreatDoorEt
import Derived.Test.YtloaefcgcniacaaGreatDoorBg
namespace Go.Proofs.YtloaefcgcniacaaGreatDoor
open Go.RowKit
set_option linter.unusedVariables false

theorem wd_new (w : World) (base base2 : Nat) (h1 : base ≤ base2) (h2 : base2 ≤ w.heap.size) : Wd (w.alloc (Obj.cells #[.slice none 0 0, .slice none 0 0, .slice none 0 0] 53)) base base2 w.heap.size 0 0 [] (fun _ _ => False) (.slice none 0 0) (.slice none 0 0) :=
  ⟨⟨.slice none 0 0, [], by omega, heap_alloc_new w _, World.ownsRow_nil _ _ _ _, fun j hj => by omega⟩, World.ownsRow_nil _ _ _ _, (fun i q hi => by cases hi), fun _ _ _ _ _ _ h => h.elim, fun _ _ _ h => h.elim, h1, by simp; omega, Nat.le_refl _⟩
theorem Wd.raise {w : World} {base base2 base3 WB N n : Nat} {F : Nat → Nat → Prop} {s : Value} (h : Wd w base base2 WB N n [] F (.slice none 0 0) s) (h1 : base ≤ base3) (h2 : base3 ≤ w.heap.size) : Wd w base base3 WB N n [] F (.slice none 0 0) s :=
  ⟨h.bk, World.ownsRow_nil _ _ _ _, (fun i q hi => by cases hi), h.dis, h.rw_, h1, h2, h.cnt⟩

/-- A script's steps, seven cells each, no string of them longer than may be played. -/
def OpsAt3 (w : World) (g off n : Nat) : Prop := ∃ (cur : Array Value) (fz : Nat × Nat), w.heap[g]? = some (Obj.cells cur 56 fz) ∧ ∀ i, i < n → ∃ (k a b c d e : Int) (s : ByteArray),
  cur[off + i * 7]? = some (.int .i64 k) ∧ cur[off + i * 7 + 1]? = some (.int .i64 a) ∧ cur[off + i * 7 + 2]? = some (.int .i64 b) ∧ cur[off + i * 7 + 3]? = some (.int .i64 c) ∧
  cur[off + i * 7 + 4]? = some (.int .i64 d) ∧ cur[off + i * 7 + 5]? = some (.int .i64 e) ∧ cur[off + i * 7 + 6]? = some (.string s) ∧ s.size ≤ 2000000 ∧ fits a ∧ fits c ∧ fits d

set_option maxRecDepth 100000 in
set_option maxHeartbeats 1000000 in
theorem opening_any3 (w : World) : Calls Tryz.prog 16 #[] w fun e w' => ∃ g, e = .returned (.slice (some ⟨g, 0, none⟩) 14 14) ∧ w.heap.size ≤ g ∧ OpsAt3 w' g 0 14 ∧ Below w.heap.size w w' := by
  have kc := fun (w : World) (C : Array Value) (n c : Nat) => Lib.run_convert_bytes_const (P := Tryz.prog) w 66 5 C n c Tryz.underlying66 Tryz.underlying5
  go_enter Tryz.func16, Tryz.ntmps16
  go_wp2_with fail
  refine (seven_seal w).mono ?_
  rintro e w1 ⟨g1, c1, rfl, hg1, hO1, hb1⟩
  have hs := run_str w1 g1 0 58 c1 _ (by rw [Lbx.sealB_length]; rfl) hO1.rd
  have hFl : (Lbx.sealB 7 1 3 1 0 digits40).length = 58 := by rw [Lbx.sealB_length]; rfl
  generalize Lbx.sealB 7 1 3 1 0 digits40 = F at *
  have hz := hb1.size
  go_wp2
  go_ret
  refine ⟨w1.heap.size, rfl, hz, ⟨_, _, heap_alloc_new w1 _, ?_⟩, hb1.alloc hz _⟩
  have hsz : (bstr F).size ≤ 2000000 := by rw [bstr_size]; omega
  intro i hi
  match i, hi with
  | 0, _ => exact ⟨_, _, _, _, _, _, _, rfl, rfl, rfl, rfl, rfl, rfl, rfl, (by first | exact hsz | decide), (by unfold fits; omega), (by unfold fits; omega), (by unfold fits; omega)⟩
  | 1, _ => exact ⟨_, _, _, _, _, _, _, rfl, rfl, rfl, rfl, rfl, rfl, rfl, (by first | exact hsz | decide), (by unfold fits; omega), (by unfold fits; omega), (by unfold fits; omega)⟩
  | 2, _ => exact ⟨_, _, _, _, _, _, _, rfl, rfl, rfl, rfl, rfl, rfl, rfl, (by first | exact hsz | decide), (by unfold fits; omega), (by unfold fits; omega), (by unfold fits; omega)⟩
  | 3, _ => exact ⟨_, _, _, _, _, _, _, rfl, rfl, rfl, rfl, rfl, rfl, rfl, (by first | exact hsz | decide), (by unfold fits; omega), (by unfold fits; omega), (by unfold fits; omega)⟩
  | 4, _ => exact ⟨_, _, _, _, _, _, _, rfl, rfl, rfl, rfl, rfl, rfl, rfl, (by first | exact hsz | decide), (by unfold fits; omega), (by unfold fits; omega), (by unfold fits; omega)⟩
  | 5, _ => exact ⟨_, _, _, _, _, _, _, rfl, rfl, rfl, rfl, rfl, rfl, rfl, (by first | exact hsz | decide), (by unfold fits; omega), (by unfold fits; omega), (by unfold fits; omega)⟩
  | 6, _ => exact ⟨_, _, _, _, _, _, _, rfl, rfl, rfl, rfl, rfl, rfl, rfl, (by first | exact hsz | decide), (by unfold fits; omega), (by unfold fits; omega), (by unfold fits; omega)⟩
  | 7, _ => exact ⟨_, _, _, _, _, _, _, rfl, rfl, rfl, rfl, rfl, rfl, rfl, (by first | exact hsz | decide), (by unfold fits; omega), (by unfold fits; omega), (by unfold fits; omega)⟩
  | 8, _ => exact ⟨_, _, _, _, _, _, _, rfl, rfl, rfl, rfl, rfl, rfl, rfl, (by first | exact hsz | decide), (by unfold fits; omega), (by unfold fits; omega), (by unfold fits; omega)⟩
  | 9, _ => exact ⟨_, _, _, _, _, _, _, rfl, rfl, rfl, rfl, rfl, rfl, rfl, (by first | exact hsz | decide), (by unfold fits; omega), (by unfold fits; omega), (by unfold fits; omega)⟩
  | 10, _ => exact ⟨_, _, _, _, _, _, _, rfl, rfl, rfl, rfl, rfl, rfl, rfl, (by first | exact hsz | decide), (by unfold fits; omega), (by unfold fits; omega), (by unfold fits; omega)⟩
  | 11, _ => exact ⟨_, _, _, _, _, _, _, rfl, rfl, rfl, rfl, rfl, rfl, rfl, (by first | exact hsz | decide), (by unfold fits; omega), (by unfold fits; omega), (by unfold fits; omega)⟩
  | 12, _ => exact ⟨_, _, _, _, _, _, _, rfl, rfl, rfl, rfl, rfl, rfl, rfl, (by first | exact hsz | decide), (by unfold fits; omega), (by unfold fits; omega), (by unfold fits; omega)⟩
  | 13, _ => exact ⟨_, _, _, _, _, _, _, rfl, rfl, rfl, rfl, rfl, rfl, rfl, (by first | exact hsz | decide), (by unfold fits; omega), (by unfold fits; omega), (by unfold fits; omega)⟩
theorem OpsAt3.keepB {w w' : World} {g off n B : Nat} (h : OpsAt3 w g off n) (hg : g < B) (hk : ∀ k, k < B → OkT w k → w'.heap[k]? = w.heap[k]?) : OpsAt3 w' g off n := by
  obtain ⟨cur, fz, h1, h2⟩ := h
  exact ⟨cur, fz, (hk g hg ⟨_, _, _, h1, by decide, by decide⟩).trans h1, h2⟩
theorem OpsAt3.cells {w : World} {g off n : Nat} (h : OpsAt3 w g off n) (i : Nat) (hi : i < n) : ∃ (k a b c d e : Int) (s : ByteArray),
    w.cell? ⟨g, off + i * 7, none⟩ = some (.int .i64 k) ∧ w.cell? ⟨g, off + i * 7 + 1, none⟩ = some (.int .i64 a) ∧ w.cell? ⟨g, off + i * 7 + 2, none⟩ = some (.int .i64 b) ∧ w.cell? ⟨g, off + i * 7 + 3, none⟩ = some (.int .i64 c) ∧
    w.cell? ⟨g, off + i * 7 + 4, none⟩ = some (.int .i64 d) ∧ w.cell? ⟨g, off + i * 7 + 5, none⟩ = some (.int .i64 e) ∧ w.cell? ⟨g, off + i * 7 + 6, none⟩ = some (.string s) ∧ s.size ≤ 2000000 ∧ fits a ∧ fits c ∧ fits d := by
  obtain ⟨cur, fz, h1, h2⟩ := h
  obtain ⟨k, a, b, c, d, e, s, y0, y1, y2, y3, y4, y5, y6, y7⟩ := h2 i hi
  refine ⟨k, a, b, c, d, e, s, ?_, ?_, ?_, ?_, ?_, ?_, ?_, y7⟩ <;> simp only [World.cell?, h1] <;> simpa using by assumption
theorem OpsAt3.lt {w : World} {g off n : Nat} (h : OpsAt3 w g off n) : g < w.heap.size := by
  obtain ⟨cur, fz, h1, _⟩ := h
  exact (Array.getElem?_eq_some_iff.1 h1).1

/-- A script that came in, by its cells. -/
def OpsC3 (w : World) (g off n : Nat) : Prop := ∀ i, i < n → ∃ (k a b c d e : Int) (s : ByteArray),
  w.cell? ⟨g, off + i * 7, none⟩ = some (.int .i64 k) ∧ w.cell? ⟨g, off + i * 7 + 1, none⟩ = some (.int .i64 a) ∧ w.cell? ⟨g, off + i * 7 + 2, none⟩ = some (.int .i64 b) ∧ w.cell? ⟨g, off + i * 7 + 3, none⟩ = some (.int .i64 c) ∧
  w.cell? ⟨g, off + i * 7 + 4, none⟩ = some (.int .i64 d) ∧ w.cell? ⟨g, off + i * 7 + 5, none⟩ = some (.int .i64 e) ∧ w.cell? ⟨g, off + i * 7 + 6, none⟩ = some (.string s) ∧ s.size ≤ 2000000 ∧ fits a ∧ fits c ∧ fits d
theorem OpsC3.below {w w' : World} {g off n B : Nat} (h : OpsC3 w g off n) (hb : Below B w w') (hg : g < B) : OpsC3 w' g off n := by
  intro i hi
  obtain ⟨k, a, b, c, d, e, s, h0, h1, h2, h3, h4, h5, h6, h7⟩ := h i hi
  exact ⟨k, a, b, c, d, e, s, (hb.cell (p := ⟨g, off + i * 7, none⟩) hg).trans h0, (hb.cell (p := ⟨g, off + i * 7 + 1, none⟩) hg).trans h1, (hb.cell (p := ⟨g, off + i * 7 + 2, none⟩) hg).trans h2, (hb.cell (p := ⟨g, off + i * 7 + 3, none⟩) hg).trans h3, (hb.cell (p := ⟨g, off + i * 7 + 4, none⟩) hg).trans h4, (hb.cell (p := ⟨g, off + i * 7 + 5, none⟩) hg).trans h5, (hb.cell (p := ⟨g, off + i * 7 + 6, none⟩) hg).trans h6, h7⟩

set_option maxRecDepth 100000 in
set_option maxHeartbeats 2000000 in
theorem plays_disk (p : Option Addr) (n cap : Nat) (w : World) (hn : n ≤ 200000) (hs : n = 0 ∨ ∃ g off, p = some ⟨g, off, none⟩ ∧ g < w.heap.size ∧ OpsC3 w g off n) :
    Calls Tryz.prog 11 #[.slice p n cap, .int .i64 4, .int .i64 12] w fun e w' => e = .returned (.bool true) ∧ Below w.heap.size w w' := by
  go_enter Tryz.func11, Tryz.ntmps11
  go_wp2_with fail
  refine (opening_any3 _).mono ?_
  rintro e w1 ⟨go, rfl, hgo, hops, hb1⟩
  have hbk0 := (wd_new w w.heap.size w.heap.size (Nat.le_refl _) (Nat.le_refl _)).down hb1
  have hb01 : Below w.heap.size w w1 := ((Below.refl _ _).alloc (Nat.le_refl _) _).trans (hb1.mono (by simp))
  have hz1 := hb1.size
  simp only [World.size_alloc] at hz1 hgo
  have hgoz := hops.lt
  have hbk1 : Wd w1 w.heap.size w1.heap.size w.heap.size 0 0 [] (fun _ _ => False) (.slice none 0 0) (.slice none 0 0) := hbk0.raise (by omega) (Nat.le_refl _)
  clear hbk0
  clear hb1
  go_wp2_with fail
  go_loopw [9] (fun i wr => ∃ k : Nat, k ≤ 14 ∧ i = .int .i64 k ∧ (∃ N qs F d s, N ≤ k ∧ Wd wr w.heap.size w1.heap.size w.heap.size N k qs F d s) ∧ OpsAt3 wr go 0 14 ∧ Below w.heap.size w wr) (fun i _ => 14 - (intOf i).toNat)
  case atStart => exact ⟨0, by omega, rfl, ⟨0, _, _, _, _, Nat.le_refl _, hbk1⟩, hops, hb01⟩
  case round =>
    obtain ⟨k, hk, rfl, ⟨N, qs, F, dV, sV, hN, hbk⟩, hop, hbel⟩ := hrel
    by_cases hlt : k < 14
    · obtain ⟨kk, a, b, c, d, e1, s, y0, y1, y2, y3, y4, y5, y6, y7⟩ := hop.cells k hlt
      have Y7 := (show Hid _ from y7)
      clear y7
      rw [Nat.zero_add] at y0 y1 y2 y3 y4 y5 y6
      have hlti : (k : Int) < 14 := by omega
      by_cases h1 : 4 ≤ kk
      · by_cases h2 : kk ≤ 12
        · go_wp2_with fail
          refine (step_disk w.heap.size w1.heap.size w.heap.size N k qs F dV sV kk a b c d e1 s _ h1 h2 hbk (by omega) (by omega) Y7.out.1 Y7.out.2.1 Y7.out.2.2.1 Y7.out.2.2.2).mono ?_
          rintro e w2 ⟨rfl, N', qs', F', d', s', hN', hB', hb2, hk2⟩
          have hop2 := hop.keepB hgoz hk2
          clear y0 y1 y2 y3 y4 y5 y6
          go_wp2
          go_roundw
          case rel => exact ⟨k + 1, by omega, by go_num, ⟨N', _, _, _, _, by omega, hB'⟩, hop2, hbel.trans hb2⟩
          case measure => simp [intOf]; omega
        · go_wp2
          go_roundw
          case rel => exact ⟨k + 1, by omega, by go_num, ⟨N, _, _, _, _, by omega, hbk.mono (by omega)⟩, hop, hbel⟩
          case measure => simp [intOf]; omega
      · go_wp2
        go_roundw
        case rel => exact ⟨k + 1, by omega, by go_num, ⟨N, _, _, _, _, by omega, hbk.mono (by omega)⟩, hop, hbel⟩
        case measure => simp [intOf]; omega
    · have hlti : ¬ (k : Int) < 14 := by omega
      clear hbk1 hops hop hbk
      have hbn := wd_new wr wr.heap.size wr.heap.size (Nat.le_refl _) (Nat.le_refl _)
      have hba : Below wr.heap.size wr (wr.alloc (Obj.cells #[Value.slice none 0 0, Value.slice none 0 0, Value.slice none 0 0] 53)) := (Below.refl _ _).alloc (Nat.le_refl _) _
      have hzr := hbel.size
      generalize wr = V at *
      go_wp2_with fail
      go_loopw [12] (fun i wr => ∃ j : Nat, j ≤ n ∧ i = .int .i64 j ∧ (∃ N qs F d s, N ≤ j ∧ Wd wr V.heap.size V.heap.size V.heap.size N j qs F d s) ∧ Below V.heap.size V wr) (fun i _ => n - (intOf i).toNat)
      case atStart => exact ⟨0, Nat.zero_le _, rfl, ⟨0, _, _, _, _, Nat.le_refl _, hbn⟩, hba⟩
      case round =>
        obtain ⟨j, hj, rfl, ⟨N2, qs, F, dV, sV, hN2, hbk⟩, hbv⟩ := hrel
        clear hbn hba
        by_cases hjn : j < n
        · rcases hs with h0 | ⟨g, off, rfl, hgl, hops⟩
          · omega
          · have hopj := (hops.below hbel hgl).below hbv (by omega)
            obtain ⟨kk, a, b, c, d, e1, s, y0, y1, y2, y3, y4, y5, y6, y7⟩ := hopj j hjn
            have Y7 := (show Hid _ from y7)
            clear y7
            clear hopj
            have hjni : (j : Int) < (n : Int) := by omega
            by_cases h1 : 4 ≤ kk
            · by_cases h2 : kk ≤ 12
              · have h1n : ¬ kk < 4 := by omega
                have h2n : ¬ 12 < kk := by omega
                go_wp2_with fail
                refine (step_disk V.heap.size V.heap.size V.heap.size N2 j qs F dV sV kk a b c d e1 s _ h1 h2 hbk (by omega) (by omega) Y7.out.1 Y7.out.2.1 Y7.out.2.2.1 Y7.out.2.2.2).mono ?_
                rintro e w2 ⟨rfl, N', qs', F', d', s', hN', hB', hb2, hk2⟩
                clear y0 y1 y2 y3 y4 y5 y6
                go_wp2_with fail
                refine (whole_any V.heap.size V.heap.size N' _ (by omega) hB'.bk.books).mono ?_
                rintro e w3 ⟨rfl, hb3⟩
                have hB3 := hB'.down hb3
                have hz2 := hb2.size
                have hzv := hbv.size
                go_wp2
                go_roundw
                case rel => exact ⟨j + 1, by omega, by go_num, ⟨N', _, _, _, _, by omega, hB3⟩, hbv.trans (hb2.trans (hb3.mono (by omega)))⟩
                case measure => simp [intOf]; omega
              · have h1n : ¬ kk < 4 := by omega
                have h2n : 12 < kk := by omega
                go_wp2
                go_roundw
                case rel => exact ⟨j + 1, by omega, by go_num, ⟨N2, _, _, _, _, by omega, hbk.mono (by omega)⟩, hbv⟩
                case measure => simp [intOf]; omega
            · have h1n : kk < 4 := by omega
              go_wp2
              go_roundw
              case rel => exact ⟨j + 1, by omega, by go_num, ⟨N2, _, _, _, _, by omega, hbk.mono (by omega)⟩, hbv⟩
              case measure => simp [intOf]; omega
        · go_wp2
          go_ret
          exact ⟨rfl, hbel.trans (hbv.mono hzr)⟩

set_option maxHeartbeats 400000 in
theorem disks_walk (p : Option Addr) (n cap : Nat) (w : World) (hn : n ≤ 200000) (hs : n = 0 ∨ ∃ g off, p = some ⟨g, off, none⟩ ∧ g < w.heap.size ∧ OpsC3 w g off n) :
    Calls Tryz.prog 6 #[.slice p n cap] w fun e w' => e = .returned (.bool true) ∧ Below w.heap.size w w' := by
  go_enter Tryz.func6, Tryz.ntmps6
  go_wp2_with fail
  refine (streams_walk none 0 0 w (by omega) (.inl rfl)).mono ?_
  rintro e w1 ⟨rfl, hb1⟩
  have hs1 : n = 0 ∨ ∃ g off, p = some ⟨g, off, none⟩ ∧ g < w1.heap.size ∧ OpsC3 w1 g off n := by
    rcases hs with h | ⟨g, off, h1, h2, h3⟩
    · exact .inl h
    · exact .inr ⟨g, off, h1, Nat.lt_of_lt_of_le h2 hb1.size, h3.below hb1 h2⟩
  clear hs
  go_wp2_with fail
  refine (plays_disk p n cap w1 hn hs1).mono ?_
  rintro e w2 ⟨rfl, hb2⟩
  go_wp2
  go_ret
  exact ⟨rfl, hb1.trans (hb2.mono hb1.size)⟩
end Go.Proofs.YtloaefcgcniacaaGreatDoor
