import Derived.Test.YtloaefcgcniacaaGreatDoorOe
import Derived.Test.YtloaefcgcniacaaGreatDoorOc
import Derived.Test.YtloaefcgcniacaaGreatDoorFf
namespace Go.Proofs.YtloaefcgcniacaaGreatDoor
open Go.RowKit
set_option linter.unusedVariables false

theorem sopen_as_none (key : Int) (s : ByteArray) (hs : s.size ≤ 2000000) (hno : ¬ (0 ≤ key ∧ key ≤ 4294967295 ∧ opensB key.toNat (sbytes s))) : OpenAs 88 key s 0 0 0 0 (noCode key) 0 [] := by
  intro g cap W hc hr hg
  refine (sopen_none key g 0 s.size cap (sbytes s) W (sbytes_length s) hc (by omega) (sbytes_lt s) hr hg hno).mono ?_
  rintro e W' ⟨rfl, hb⟩
  exact ⟨none, rfl, .inl ⟨rfl, rfl, rfl⟩, (by intro a ha; cases ha), hb⟩
theorem ropen_as_none (key : Int) (s : ByteArray) (hs : s.size ≤ 2000000) (hno : ¬ (0 ≤ key ∧ key ≤ 4294967295 ∧ opensB key.toNat (sbytes s))) : OpenAs 89 key s 0 0 0 0 (noCode key) 0 [] := by
  intro g cap W hc hr hg
  refine (ropen_none ropen58 key g 0 s.size cap (sbytes s) W (sbytes_length s) hc (by omega) (sbytes_lt s) hr hg hno).mono ?_
  rintro e W' ⟨rfl, hb⟩
  exact ⟨none, rfl, .inl ⟨rfl, rfl, rfl⟩, (by intro a ha; cases ha), hb⟩

theorem opened_length (K : Nat) (l : List Nat) (h : opensB K l) : (Lbx.veil K (val4 l 2) (val4 l 6) ((l.drop 10).take 40)).length = 40 := by
  rw [Lbx.veil_length, List.length_take, List.length_drop, h.1]
  rfl
theorem opened_lt (K : Nat) (l : List Nat) (hl : ∀ x ∈ l, x < 256) : ∀ x ∈ Lbx.veil K (val4 l 2) (val4 l 6) ((l.drop 10).take 40), x < 256 :=
  Lbx.veil_lt _ _ _ _ (fun x hx => hl x (List.mem_of_mem_drop (List.mem_of_mem_take hx)))

theorem sopen_as (key : Int) (s : ByteArray) (h1 : 0 ≤ key) (h2 : key ≤ 4294967295) (hy : opensB key.toNat (sbytes s)) :
    OpenAs 88 key s (((sbytes s)[0]?.getD 0 : Nat) : Int) (((sbytes s)[1]?.getD 0 : Nat) : Int) ((val4 (sbytes s) 2 : Nat) : Int) ((val4 (sbytes s) 6 : Nat) : Int) 0 40 (Lbx.veil key.toNat (val4 (sbytes s) 2) (val4 (sbytes s) 6) (((sbytes s).drop 10).take 40)) := by
  intro g cap W hc hr hg
  have hsz : s.size = 58 := by rw [← sbytes_length s]; exact hy.1
  rw [hsz] at hc ⊢
  refine (sopen_ok key g 0 cap (sbytes s) W h1 h2 hc (sbytes_lt s) hr hg hy).mono ?_
  rintro e W' ⟨g', rfl, hg', hB, hb⟩
  exact ⟨_, rfl, .inr ⟨g', rfl, (opened_length _ _ hy).symm, hB⟩, (by intro a ha; cases ha; exact hg'), hb⟩
theorem ropen_as (key : Int) (s : ByteArray) (h1 : 0 ≤ key) (h2 : key ≤ 4294967295) (hy : opensB key.toNat (sbytes s)) :
    OpenAs 89 key s (((sbytes s)[0]?.getD 0 : Nat) : Int) (((sbytes s)[1]?.getD 0 : Nat) : Int) ((val4 (sbytes s) 2 : Nat) : Int) ((val4 (sbytes s) 6 : Nat) : Int) 0 40 (Lbx.veil key.toNat (val4 (sbytes s) 2) (val4 (sbytes s) 6) (((sbytes s).drop 10).take 40)) := by
  intro g cap W hc hr hg
  have hsz : s.size = 58 := by rw [← sbytes_length s]; exact hy.1
  rw [hsz] at hc ⊢
  refine (ropen_yes ropen58 key g 0 cap (sbytes s) W h1 h2 hc (sbytes_lt s) hr hg hy).mono ?_
  rintro e W' ⟨g', rfl, hg', hB, hb⟩
  exact ⟨_, rfl, .inr ⟨g', rfl, (opened_length _ _ hy).symm, hB⟩, (by intro a ha; cases ha; exact hg'), hb⟩

theorem frames_open (base WB N : Nat) (key b c d e0 : Int) (s : ByteArray) (w : World) (hN : N < 1000000) (hB : Books w base WB N) (hs : s.size ≤ 2000000) :
    Calls Tryz.prog 38 #[.pointer (some ⟨WB, 0, none⟩), .agg #[.int .i64 3, .int .i64 key, .int .i64 b, .int .i64 c, .int .i64 d, .int .i64 e0, .string s]] w fun e w' => e = .returned (.bool true) ∧ Books w' base WB (N + 1) ∧ Below base w w' ∧ Keeps w w' := by
  by_cases h : 0 ≤ key ∧ key ≤ 4294967295 ∧ opensB key.toNat (sbytes s)
  · exact frames_open_gen base WB N key b c d e0 s w hN hB hs _ _ _ _ _ 40 _ (by omega) (opened_lt _ _ (sbytes_lt s)) (sopen_as key s h.1 h.2.1 h.2.2) (ropen_as key s h.1 h.2.1 h.2.2)
  · exact frames_open_gen base WB N key b c d e0 s w hN hB hs _ _ _ _ _ 0 [] (by omega) (by simp) (sopen_as_none key s hs h) (ropen_as_none key s hs h)


set_option maxRecDepth 100000 in
set_option maxHeartbeats 1000000 in
theorem step_open : StepOK2 3 3 := by
  intro base WB N k a b c d e0 s w h1 h2 hN hsz hB
  have hk : k = 3 := by omega
  subst hk
  have hwb := hB.wb
  have hbx : Below w.heap.size w (w.alloc (Obj.cells #[.int .i64 3, .int .i64 a, .int .i64 b, .int .i64 c, .int .i64 d, .int .i64 e0, .string s] 56)) := (Below.refl _ _).alloc (Nat.le_refl _) _
  have hBx := hB.below hbx
  clear h1 h2
  go_enter Tryz.func17, Tryz.ntmps17
  go_wp2_with fail
  refine (frames_open base WB N a b c d e0 s _ hN hBx hsz).mono ?_
  rintro e w1 ⟨rfl, hB1, hb1, hk1⟩
  go_wp2
  go_ret
  exact ⟨rfl, ⟨N + 1, Nat.le_refl _, hB1⟩, (hbx.mono (by omega)).trans hb1, (Keeps.of_below hbx).trans hk1⟩


set_option maxHeartbeats 400000 in
theorem opens_walk (p : Option Addr) (n cap : Nat) (w : World) (hn : n ≤ 200000) (hs : n = 0 ∨ ∃ g off, p = some ⟨g, off, none⟩ ∧ g < w.heap.size ∧ OpsC2 w g off n) :
    Calls Tryz.prog 5 #[.slice p n cap] w fun e w' => e = .returned (.bool true) ∧ Below w.heap.size w w' := by
  go_enter Tryz.func5, Tryz.ntmps5
  go_wp2_with fail
  refine (plays_any2 3 3 step_open p n cap w hn hs).mono ?_
  rintro e w1 ⟨rfl, hb1⟩
  go_wp2
  go_ret
  exact ⟨rfl, hb1⟩
end Go.Proofs.YtloaefcgcniacaaGreatDoor
