import Derived.Test.YtloaefcgcniacaaGreatDoorKl
namespace Go.Proofs.YtloaefcgcniacaaGreatDoor
open Go.RowKit
set_option linter.unusedVariables false

/-- Is it a frame's bytes under this key? -/
def opensB (K : Nat) (l : List Nat) : Prop := l.length = 58 ∧ 1 ≤ l[0]?.getD 0 ∧ l[0]?.getD 0 ≤ 3 ∧ retag K (l.take 50) = l

/-- frame.Open of what is none. -/
theorem fopen_no (key : Int) (g off n cap : Nat) (l : List Nat) (w : World) (hk0 : 0 ≤ key) (hk : key < 4294967296) (hn : l.length = n) (hcap : n ≤ cap) (hm : n ≤ 9223372036854775807) (hl : ∀ x ∈ l, x < 256) (hr : Rd w g off l)
    (hno : ¬ opensB key.toNat l) :
    Calls Tryz.prog 141 #[.int .u32 key, .slice (some ⟨g, off, none⟩) n cap] w fun e w' => e = .returned (.tuple #[noFrame, .bool false]) ∧ Below w.heap.size w w' := by
  by_cases h58 : n = 58
  · subst h58
    by_cases hkk : l[0]?.getD 0 < 1 ∨ 3 < l[0]?.getD 0
    · have hc := hr 0 (by omega)
      rw [Nat.add_zero] at hc
      exact fopen_kind key g off cap _ w (Lbx.get_lt l 256 (by decide) hl 0) hkk hc
    · refine fopen_tag key g off cap l w hk0 hk hn hcap hl hr (by omega) (by omega) ?_
      unfold sameB
      rw [decide_eq_false_iff_not]
      intro e
      exact hno ⟨hn, by omega, by omega, e⟩
  · exact fopen_short key _ n cap w h58 hm

set_option maxHeartbeats 1000000 in
theorem sopen_no (key : Int) (g off n cap : Nat) (l : List Nat) (w : World) (hk0 : 0 ≤ key) (hk : key ≤ 4294967295) (hn : l.length = n) (hcap : n ≤ cap) (hm : n ≤ 9223372036854775807) (hl : ∀ x ∈ l, x < 256) (hr : Rd w g off l) (hg : g < w.heap.size)
    (hno : ¬ opensB key.toNat l) :
    Calls Tryz.prog 88 #[.int .i64 key, .slice (some ⟨g, off, none⟩) n cap] w fun e w' => e = .returned (.tuple #[noFrame, .int .i64 3]) ∧ Below w.heap.size w w' := by
  have HN : Hid (l.length = n) := hn
  clear hn
  have HO := (show Hid _ from hno)
  clear hno
  go_enter Tryz.func88, Tryz.ntmps88
  go_wp2_with (first | (go_at_call 68; refine (isNumber_yes _ _ (by omega) (by omega)).mono ?_; rintro e w' ⟨rfl, rfl⟩))
  refine (fopen_no key g off n cap l _ hk0 (by omega) HN.out hcap hm hl ?hr1 HO.out).mono ?_
  case hr1 => exact hr.below ((Below.refl _ _).alloc (Nat.le_refl _) _) hg
  rintro e w1 ⟨rfl, hb1⟩
  obtain ⟨hcc, hff⟩ := bcell hb1
  have hb0 : Below w.heap.size w w1 := ((Below.refl _ _).alloc (Nat.le_refl _) _).trans (hb1.mono (by simp))
  have hz : w.heap.size < w1.heap.size := by have := hb1.size; simp at this; omega
  have q0 : w1.cell? ⟨w.heap.size, 0, none⟩ = some (.int .i64 0) := by rw [hcc _ _ (by simp)]; simp
  have q1 : w1.cell? ⟨w.heap.size, 1, none⟩ = some (.int .i64 0) := by rw [hcc _ _ (by simp)]; simp
  have q2 : w1.cell? ⟨w.heap.size, 2, none⟩ = some (.int .i64 0) := by rw [hcc _ _ (by simp)]; simp
  have q3 : w1.cell? ⟨w.heap.size, 3, none⟩ = some (.int .i64 0) := by rw [hcc _ _ (by simp)]; simp
  have q4 : w1.cell? ⟨w.heap.size, 4, none⟩ = some (.slice none 0 0) := by rw [hcc _ _ (by simp)]; simp
  have qf : ∀ i, w1.frozen? ⟨w.heap.size, i, none⟩ = false := by intro i; rw [hff _ _ (by simp)]; simp
  clear hcc hff hb1
  go_wp2
  refine bodyPost_ret (v := .tuple #[noFrame, .int .i64 3]) (by simp [results, Tryz.results88, go_sem, q0, q1, q2, q3, q4, hz]) rfl ⟨rfl, ?_⟩
  exact (((((hb0.setCell (by simp) _).setCell (by simp) _).setCell (by simp) _).setCell (by simp) _).setCell (by simp) _).alloc (by simp; omega) _

set_option maxHeartbeats 1000000 in
theorem sopen_ok (key : Int) (g off cap : Nat) (l : List Nat) (w : World) (hk0 : 0 ≤ key) (hk : key ≤ 4294967295) (hcap : 58 ≤ cap) (hl : ∀ x ∈ l, x < 256) (hr : Rd w g off l) (hg : g < w.heap.size)
    (hyes : opensB key.toNat l) :
    Calls Tryz.prog 88 #[.int .i64 key, .slice (some ⟨g, off, none⟩) 58 cap] w fun e w' =>
      ∃ g', e = .returned (.tuple #[.agg #[.int .i64 ((l[0]?.getD 0 : Nat) : Int), .int .i64 ((l[1]?.getD 0 : Nat) : Int), .int .i64 ((val4 l 2 : Nat) : Int), .int .i64 ((val4 l 6 : Nat) : Int), .slice (some ⟨g', 0, none⟩) 40 40], .int .i64 0]) ∧
        w.heap.size ≤ g' ∧ Blk w' g' (Lbx.veil key.toNat (val4 l 2) (val4 l 6) ((l.drop 10).take 40)) ∧ Below w.heap.size w w' := by
  obtain ⟨hn, h1, h3, hf⟩ := hyes
  have HN : Hid (l.length = 58) := hn
  have HF : Hid (sameB (retag key.toNat (l.take 50)) l = true) := decide_eq_true hf
  clear hn hf
  go_enter Tryz.func88, Tryz.ntmps88
  go_wp2_with (first | (go_at_call 68; refine (isNumber_yes _ _ (by omega) (by omega)).mono ?_; rintro e w' ⟨rfl, rfl⟩))
  refine (fopen_yes key g off cap l _ hk0 (by omega) HN.out hcap hl ?hr1 h1 h3 HF.out).mono ?_
  case hr1 => exact hr.below ((Below.refl _ _).alloc (Nat.le_refl _) _) hg
  rintro e w1 ⟨g1, rfl, hg1, hB1, hb1⟩
  obtain ⟨hcc, hff⟩ := bcell hb1
  have hb0 : Below w.heap.size w w1 := ((Below.refl _ _).alloc (Nat.le_refl _) _).trans (hb1.mono (by simp))
  have hz : w.heap.size < w1.heap.size := by have := hb1.size; simp at this; omega
  have hg1' : w.heap.size < g1 := by simp at hg1; omega
  have hg1z : g1 < w1.heap.size := hB1.lt
  have q0 : w1.cell? ⟨w.heap.size, 0, none⟩ = some (.int .i64 0) := by rw [hcc _ _ (by simp)]; simp
  have q1 : w1.cell? ⟨w.heap.size, 1, none⟩ = some (.int .i64 0) := by rw [hcc _ _ (by simp)]; simp
  have q2 : w1.cell? ⟨w.heap.size, 2, none⟩ = some (.int .i64 0) := by rw [hcc _ _ (by simp)]; simp
  have q3 : w1.cell? ⟨w.heap.size, 3, none⟩ = some (.int .i64 0) := by rw [hcc _ _ (by simp)]; simp
  have q4 : w1.cell? ⟨w.heap.size, 4, none⟩ = some (.slice none 0 0) := by rw [hcc _ _ (by simp)]; simp
  have qf : ∀ i, w1.frozen? ⟨w.heap.size, i, none⟩ = false := by intro i; rw [hff _ _ (by simp)]; simp
  clear hcc hff hb1
  go_wp2
  refine bodyPost_ret (v := .tuple #[.agg #[.int .i64 ((l[0]?.getD 0 : Nat) : Int), .int .i64 ((l[1]?.getD 0 : Nat) : Int), .int .i64 ((val4 l 2 : Nat) : Int), .int .i64 ((val4 l 6 : Nat) : Int), .slice (some ⟨g1, 0, none⟩) 40 40], .int .i64 0]) (by simp [results, Tryz.results88, go_sem, q0, q1, q2, q3, q4, hz]) rfl ⟨g1, rfl, by omega, ?_, ?_⟩
  · have hne : g1 ≠ w.heap.size := by omega
    exact (((((hB1.other _ _ hne).other _ _ hne).other _ _ hne).other _ _ hne).other _ _ hne).alloc _
  · exact (((((hb0.setCell (by simp) _).setCell (by simp) _).setCell (by simp) _).setCell (by simp) _).setCell (by simp) _).alloc (by simp; omega) _
end Go.Proofs.YtloaefcgcniacaaGreatDoor
