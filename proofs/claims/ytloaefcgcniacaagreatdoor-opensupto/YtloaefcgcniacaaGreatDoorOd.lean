import Derived.Test.YtloaefcgcniacaaGreatDoorOb
namespace Go.Proofs.YtloaefcgcniacaaGreatDoor
open Go.RowKit
set_option linter.unusedVariables false

set_option maxHeartbeats 1000000 in
theorem sopen_arg (key : Int) (a : Option Addr) (n cap : Nat) (w : World) (h : key < 0 ∨ 4294967295 < key) :
    Calls Tryz.prog 88 #[.int .i64 key, .slice a n cap] w fun e w' => e = .returned (.tuple #[noFrame, .int .i64 1]) ∧ Below w.heap.size w w' := by
  have HO := (show Hid _ from h)
  clear h
  go_enter Tryz.func88, Tryz.ntmps88
  go_wp2_with (go_at_call 68; refine (isNumber_no _ _ HO.out).mono ?_; rintro e w' ⟨rfl, rfl⟩)
  refine bodyPost_ret (v := .tuple #[noFrame, .int .i64 1]) (by simp [results, Tryz.results88, go_sem]) rfl ⟨rfl, ?_⟩
  exact (Below.refl _ _).alloc (Nat.le_refl _) _

/-- What Open answers where there is nothing to be opened. -/
def noCode (key : Int) : Int := if 0 ≤ key ∧ key ≤ 4294967295 then 3 else 1

theorem sopen_none (key : Int) (g off n cap : Nat) (l : List Nat) (w : World) (hn : l.length = n) (hcap : n ≤ cap) (hm : n ≤ 9223372036854775807) (hl : ∀ x ∈ l, x < 256) (hr : Rd w g off l) (hg : g < w.heap.size)
    (hno : ¬ (0 ≤ key ∧ key ≤ 4294967295 ∧ opensB key.toNat l)) :
    Calls Tryz.prog 88 #[.int .i64 key, .slice (some ⟨g, off, none⟩) n cap] w fun e w' => e = .returned (.tuple #[noFrame, .int .i64 (noCode key)]) ∧ Below w.heap.size w w' := by
  by_cases hk : 0 ≤ key ∧ key ≤ 4294967295
  · have e : noCode key = 3 := if_pos hk
    rw [e]
    exact sopen_no key g off n cap l w hk.1 hk.2 hn hcap hm hl hr hg (fun h => hno ⟨hk.1, hk.2, h⟩)
  · have e : noCode key = 1 := if_neg hk
    rw [e]
    exact sopen_arg key _ n cap w (by omega)

/-- The reference's Open of 58 bytes. -/
def ROpen58 : Prop := ∀ (key : Int) (g off cap : Nat) (l : List Nat) (w : World), 0 ≤ key → key ≤ 4294967295 → l.length = 58 → 58 ≤ cap → (∀ x ∈ l, x < 256) → Rd w g off l → g < w.heap.size →
  Calls Tryz.prog 89 #[.int .i64 key, .slice (some ⟨g, off, none⟩) 58 cap] w fun e w' => ((¬ opensB key.toNat l ∧ e = .returned (.tuple #[noFrame, .int .i64 3])) ∨ (opensB key.toNat l ∧ ∃ g', e = .returned (.tuple #[.agg #[.int .i64 ((l[0]?.getD 0 : Nat) : Int), .int .i64 ((l[1]?.getD 0 : Nat) : Int), .int .i64 ((val4 l 2 : Nat) : Int), .int .i64 ((val4 l 6 : Nat) : Int), .slice (some ⟨g', 0, none⟩) 40 40], .int .i64 0]) ∧ w.heap.size ≤ g' ∧ Blk w' g' (Lbx.veil key.toNat (val4 l 2) (val4 l 6) ((l.drop 10).take 40)))) ∧ Below w.heap.size w w'

theorem ropen_none (H58 : ROpen58) (key : Int) (g off n cap : Nat) (l : List Nat) (w : World) (hn : l.length = n) (hcap : n ≤ cap) (hm : n ≤ 9223372036854775807) (hl : ∀ x ∈ l, x < 256) (hr : Rd w g off l) (hg : g < w.heap.size)
    (hno : ¬ (0 ≤ key ∧ key ≤ 4294967295 ∧ opensB key.toNat l)) :
    Calls Tryz.prog 89 #[.int .i64 key, .slice (some ⟨g, off, none⟩) n cap] w fun e w' => e = .returned (.tuple #[noFrame, .int .i64 (noCode key)]) ∧ Below w.heap.size w w' := by
  by_cases hk : 0 ≤ key ∧ key ≤ 4294967295
  · have e : noCode key = 3 := if_pos hk
    rw [e]
    by_cases h58 : n = 58
    · subst h58
      refine (H58 key g off cap l w hk.1 hk.2 hn hcap hl hr hg).mono ?_
      rintro e w' ⟨h1 | h1, h2⟩
      · exact ⟨h1.2, h2⟩
      · exact absurd ⟨hk.1, hk.2, h1.1⟩ hno
    · exact ropen_short key _ n cap w hk.1 hk.2 h58 hm
  · have e : noCode key = 1 := if_neg hk
    rw [e]
    exact ropen_arg key _ n cap w (by omega)

theorem ropen_yes (H58 : ROpen58) (key : Int) (g off cap : Nat) (l : List Nat) (w : World) (h1 : 0 ≤ key) (h2 : key ≤ 4294967295) (hcap : 58 ≤ cap) (hl : ∀ x ∈ l, x < 256) (hr : Rd w g off l) (hg : g < w.heap.size)
    (hyes : opensB key.toNat l) :
    Calls Tryz.prog 89 #[.int .i64 key, .slice (some ⟨g, off, none⟩) 58 cap] w fun e w' => ∃ g', e = .returned (.tuple #[.agg #[.int .i64 ((l[0]?.getD 0 : Nat) : Int), .int .i64 ((l[1]?.getD 0 : Nat) : Int), .int .i64 ((val4 l 2 : Nat) : Int), .int .i64 ((val4 l 6 : Nat) : Int), .slice (some ⟨g', 0, none⟩) 40 40], .int .i64 0]) ∧
        w.heap.size ≤ g' ∧ Blk w' g' (Lbx.veil key.toNat (val4 l 2) (val4 l 6) ((l.drop 10).take 40)) ∧ Below w.heap.size w w' := by
  refine (H58 key g off cap l w h1 h2 hyes.1 hcap hl hr hg).mono ?_
  rintro e w' ⟨h | ⟨_, g', h3, h4, h5⟩, h6⟩
  · exact absurd hyes h.1
  · exact ⟨g', h3, h4, h5, h6⟩
end Go.Proofs.YtloaefcgcniacaaGreatDoor
