import Derived.Test.YtloaefcgcniacaaGreatDoorKi
namespace Go.Proofs.YtloaefcgcniacaaGreatDoor
open Go.RowKit
set_option linter.unusedVariables false

set_option maxHeartbeats 400000 in
theorem isKind_yes (k : Int) (w : World) (h1 : 1 ≤ k) (h2 : k ≤ 3) : Calls Tryz.prog 188 #[.int .i64 k] w fun e w' => e = .returned (.bool true) ∧ w' = w := by
  go_enter Tryz.func188, Tryz.ntmps188
  go_wp2
  go_ret
  exact ⟨rfl, rfl⟩
set_option maxHeartbeats 400000 in
theorem isKind_no (k : Int) (w : World) (h : k < 1 ∨ 3 < k) : Calls Tryz.prog 188 #[.int .i64 k] w fun e w' => e = .returned (.bool false) ∧ w' = w := by
  by_cases h1 : 1 ≤ k
  · have h2 : ¬ k ≤ 3 := by omega
    go_enter Tryz.func188, Tryz.ntmps188
    go_wp2
    go_ret
    exact ⟨rfl, rfl⟩
  · go_enter Tryz.func188, Tryz.ntmps188
    go_wp2
    go_ret
    exact ⟨rfl, rfl⟩
set_option maxHeartbeats 400000 in
theorem isNumber_yes (k : Int) (w : World) (h1 : 0 ≤ k) (h2 : k ≤ 4294967295) : Calls Tryz.prog 68 #[.int .i64 k] w fun e w' => e = .returned (.bool true) ∧ w' = w := by
  go_enter Tryz.func68, Tryz.ntmps68
  go_wp2
  go_ret
  exact ⟨rfl, rfl⟩
set_option maxHeartbeats 400000 in
theorem isNumber_no (k : Int) (w : World) (h : k < 0 ∨ 4294967295 < k) : Calls Tryz.prog 68 #[.int .i64 k] w fun e w' => e = .returned (.bool false) ∧ w' = w := by
  by_cases h1 : 0 ≤ k
  · have h2 : ¬ k ≤ 4294967295 := by omega
    go_enter Tryz.func68, Tryz.ntmps68
    go_wp2
    go_ret
    exact ⟨rfl, rfl⟩
  · go_enter Tryz.func68, Tryz.ntmps68
    go_wp2
    go_ret
    exact ⟨rfl, rfl⟩

/-- An api.Frame of nothing. -/
abbrev noFrame : Value := .agg #[.int .i64 0, .int .i64 0, .int .i64 0, .int .i64 0, .slice none 0 0]

set_option maxHeartbeats 1000000 in
theorem fopen_short (key : Int) (a : Option Addr) (n cap : Nat) (w : World) (hn : n ≠ 58) (hm : n ≤ 9223372036854775807) :
    Calls Tryz.prog 141 #[.int .u32 key, .slice a n cap] w fun e w' => e = .returned (.tuple #[noFrame, .bool false]) ∧ Below w.heap.size w w' := by
  have hne : ((n : Int) != 58) = true := by rw [bne_iff_ne]; omega
  go_enter Tryz.func141, Tryz.ntmps141
  go_wp2
  exact bodyPost_ret (v := .tuple #[noFrame, .bool false]) (by simp [results, Tryz.results141, go_sem]) rfl ⟨rfl, (Below.refl _ _).alloc (Nat.le_refl _) _⟩

/-- Behind a contract that leaves all below alone: the cells and the marks read as before. -/
theorem bcell {W w1 : World} (hb : Below W.heap.size W w1) : (∀ b o, b < W.heap.size → w1.cell? ⟨b, o, none⟩ = W.cell? ⟨b, o, none⟩) ∧ (∀ b o, b < W.heap.size → w1.frozen? ⟨b, o, none⟩ = W.frozen? ⟨b, o, none⟩) :=
  ⟨fun b o h => hb.cell (p := ⟨b, o, none⟩) h, fun b o h => hb.frozen (p := ⟨b, o, none⟩) h⟩

set_option maxHeartbeats 1000000 in
theorem fopen_kind (key : Int) (g off cap k : Nat) (w : World) (hk : k < 256) (hkk : k < 1 ∨ 3 < k) (hc : w.cell? ⟨g, off, none⟩ = some (.int .u8 (k : Int))) :
    Calls Tryz.prog 141 #[.int .u32 key, .slice (some ⟨g, off, none⟩) 58 cap] w fun e w' => e = .returned (.tuple #[noFrame, .bool false]) ∧ Below w.heap.size w w' := by
  have hg : g < w.heap.size := World.block_lt_of_cell? w _ hc
  go_enter Tryz.func141, Tryz.ntmps141
  go_wp2_with (go_at_call 188; refine (isKind_no _ _ (by omega)).mono ?_; rintro e w' ⟨rfl, rfl⟩)
  exact bodyPost_ret (v := .tuple #[noFrame, .bool false]) (by simp [results, Tryz.results141, go_sem]) rfl ⟨rfl, (Below.refl _ _).alloc (Nat.le_refl _) _⟩

set_option maxHeartbeats 1000000 in
theorem fopen_tag (key : Int) (g off cap : Nat) (l : List Nat) (w : World) (hk0 : 0 ≤ key) (hk : key < 4294967296) (hn : l.length = 58) (hcap : 58 ≤ cap) (hl : ∀ x ∈ l, x < 256) (hr : Rd w g off l)
    (h1 : 1 ≤ l[0]?.getD 0) (h3 : l[0]?.getD 0 ≤ 3) (hf : sameB (retag key.toNat (l.take 50)) l = false) :
    Calls Tryz.prog 141 #[.int .u32 key, .slice (some ⟨g, off, none⟩) 58 cap] w fun e w' => e = .returned (.tuple #[noFrame, .bool false]) ∧ Below w.heap.size w w' := by
  have HN : Hid (l.length = 58) := hn
  clear hn
  have hg : g < w.heap.size := hr.lt (by rw [HN.out]; omega)
  have hc0 := hr 0 (by rw [HN.out]; omega)
  rw [Nat.add_zero] at hc0
  go_enter Tryz.func141, Tryz.ntmps141
  go_wp2_with (go_at_call 188; refine (isKind_yes _ _ (by omega) (by omega)).mono ?_; rintro e w' ⟨rfl, rfl⟩)
  refine (tagFits_any key g off cap l _ hk0 hk HN.out hcap hl ?hr1 ?hg1).mono ?_
  case hr1 => exact hr.below ((Below.refl _ _).alloc (Nat.le_refl _) _) hg
  case hg1 => simp; omega
  rintro e w1 ⟨rfl, hb⟩
  rw [hf]
  obtain ⟨hcc, hff⟩ := bcell hb
  have hb0 : Below w.heap.size w w1 := ((Below.refl _ _).alloc (Nat.le_refl _) _).trans (hb.mono (by simp))
  have hz : w.heap.size < w1.heap.size := by have := hb.size; simp at this; omega
  go_wp2
  refine bodyPost_ret (v := .tuple #[noFrame, .bool false]) (by simp [results, Tryz.results141, go_sem, hcc]) rfl ⟨rfl, ?_⟩
  exact ((((hb0.setCell (by simp) _).setCell (by simp) _).setCell (by simp) _).setCell (by simp) _).setCell (by simp) _
end Go.Proofs.YtloaefcgcniacaaGreatDoor
