import Derived.Test.YtloaefcgcniacaaGreatDoorOa
namespace Go.Proofs.YtloaefcgcniacaaGreatDoor
open Go.RowKit
set_option linter.unusedVariables false

theorem four_val4 (l : List Nat) (hl : ∀ x ∈ l, x < 256) (k : Nat) : Lbx.four (val4 l k) = [l[k]?.getD 0, l[k + 1]?.getD 0, l[k + 2]?.getD 0, l[k + 3]?.getD 0] := by
  have h0 := Lbx.get_lt l 256 (by decide) hl k
  have h1 := Lbx.get_lt l 256 (by decide) hl (k + 1)
  have h2 := Lbx.get_lt l 256 (by decide) hl (k + 2)
  have h3 := Lbx.get_lt l 256 (by decide) hl (k + 3)
  unfold Lbx.four val4
  generalize l[k]?.getD 0 = a at *
  generalize l[k + 1]?.getD 0 = b at *
  generalize l[k + 2]?.getD 0 = c at *
  generalize l[k + 3]?.getD 0 = d at *
  have e0 : (a * 16777216 + b * 65536 + c * 256 + d) / 16777216 % 256 = a := by omega
  have e1 : (a * 16777216 + b * 65536 + c * 256 + d) / 65536 % 256 = b := by omega
  have e2 : (a * 16777216 + b * 65536 + c * 256 + d) / 256 % 256 = c := by omega
  have e3 : (a * 16777216 + b * 65536 + c * 256 + d) % 256 = d := by omega
  rw [e0, e1, e2, e3]

theorem split10 (l : List Nat) (h : 10 ≤ l.length) : l.take 50 = [l[0]?.getD 0, l[1]?.getD 0] ++ [l[2]?.getD 0, l[2 + 1]?.getD 0, l[2 + 2]?.getD 0, l[2 + 3]?.getD 0] ++ [l[6]?.getD 0, l[6 + 1]?.getD 0, l[6 + 2]?.getD 0, l[6 + 3]?.getD 0] ++ (l.drop 10).take 40 := by
  match l, h with
  | x0 :: x1 :: x2 :: x3 :: x4 :: x5 :: x6 :: x7 :: x8 :: x9 :: r, _ => simp

/-- Sealed again, what was opened is the head with its own tag. -/
theorem seal_again (K : Nat) (l : List Nat) (hn : l.length = 58) (hl : ∀ x ∈ l, x < 256) :
    Lbx.sealB K (l[0]?.getD 0) (l[1]?.getD 0) (val4 l 2) (val4 l 6) (Lbx.veil K (val4 l 2) (val4 l 6) ((l.drop 10).take 40)) = retag K (l.take 50) := by
  have h : Lbx.headB K (l[0]?.getD 0) (l[1]?.getD 0) (val4 l 2) (val4 l 6) (Lbx.veil K (val4 l 2) (val4 l 6) ((l.drop 10).take 40)) = l.take 50 := by
    unfold Lbx.headB
    rw [veil_veil, four_val4 l hl, four_val4 l hl, split10 l (by omega)]
  unfold Lbx.sealB retag
  rw [h]

theorem ropen_arg (key : Int) (a : Option Addr) (n cap : Nat) (w : World) (h : key < 0 ∨ 4294967295 < key) :
    Calls Tryz.prog 89 #[.int .i64 key, .slice a n cap] w fun e w' => e = .returned (.tuple #[noFrame, .int .i64 1]) ∧ Below w.heap.size w w' := by
  have H := (show Hid _ from h)
  clear h
  go_enter Tryz.func89, Tryz.ntmps89
  go_wp2_with fail
  refine (rnumber_no _ _ H.out).mono ?_
  rintro e w' ⟨rfl, hw'⟩
  have hw2 := hw'.symm
  clear hw'
  subst hw2
  go_wp2
  exact bodyPost_ret (v := .tuple #[noFrame, .int .i64 1]) (by simp [results, Tryz.results89, go_sem]) rfl ⟨rfl, (Below.refl _ _).alloc (Nat.le_refl _) _⟩

theorem ropen_short (key : Int) (a : Option Addr) (n cap : Nat) (w : World) (h1 : 0 ≤ key) (h2 : key ≤ 4294967295) (hn : n ≠ 58) (hm : n ≤ 9223372036854775807) :
    Calls Tryz.prog 89 #[.int .i64 key, .slice a n cap] w fun e w' => e = .returned (.tuple #[noFrame, .int .i64 3]) ∧ Below w.heap.size w w' := by
  have hne : ((n : Int) != 58) = true := by rw [bne_iff_ne]; omega
  have H1 := (show Hid _ from h1)
  have H2 := (show Hid _ from h2)
  clear h1 h2 hn
  go_enter Tryz.func89, Tryz.ntmps89
  go_wp2_with fail
  refine (rnumber_yes _ _ H1.out H2.out).mono ?_
  rintro e w' ⟨rfl, hw'⟩
  have hw2 := hw'.symm
  clear hw'
  subst hw2
  go_wp2
  exact bodyPost_ret (v := .tuple #[noFrame, .int .i64 3]) (by simp [results, Tryz.results89, go_sem]) rfl ⟨rfl, (Below.refl _ _).alloc (Nat.le_refl _) _⟩

/-- A frame in a block of its own. -/
def FrB (w : World) (g : Nat) (k i e s : Int) (b : Value) : Prop := w.heap[g]? = some (Obj.cells #[.int .i64 k, .int .i64 i, .int .i64 e, .int .i64 s, b] 75 (0, 0))
theorem FrB.cells {w : World} {g : Nat} {k i e s : Int} {b : Value} (h : FrB w g k i e s b) :
    w.cell? ⟨g, 0, none⟩ = some (.int .i64 k) ∧ w.cell? ⟨g, 1, none⟩ = some (.int .i64 i) ∧ w.cell? ⟨g, 2, none⟩ = some (.int .i64 e) ∧ w.cell? ⟨g, 3, none⟩ = some (.int .i64 s) ∧ w.cell? ⟨g, 4, none⟩ = some b ∧ (∀ j, w.frozen? ⟨g, j, none⟩ = false) := by
  unfold FrB at h
  refine ⟨?_, ?_, ?_, ?_, ?_, ?_⟩
  · simp [World.cell?, h]
  · simp [World.cell?, h]
  · simp [World.cell?, h]
  · simp [World.cell?, h]
  · simp [World.cell?, h]
  · intro j; simp [World.frozen?, h]

theorem FrB.set2 {w : World} {g : Nat} {k i e s : Int} {b : Value} (h : FrB w g k i e s b) (x : Int) : FrB (w.setCell ⟨g, 2, none⟩ (.int .i64 x)) g k i x s b := by
  unfold FrB at *
  simp only [World.setCell, Array.getElem?_modify, h]
  simp
theorem FrB.set3 {w : World} {g : Nat} {k i e s : Int} {b : Value} (h : FrB w g k i e s b) (x : Int) : FrB (w.setCell ⟨g, 3, none⟩ (.int .i64 x)) g k i e x b := by
  unfold FrB at *
  simp only [World.setCell, Array.getElem?_modify, h]
  simp
theorem FrB.set4 {w : World} {g : Nat} {k i e s : Int} {b : Value} (h : FrB w g k i e s b) (x : Value) : FrB (w.setCell ⟨g, 4, none⟩ x) g k i e s x := by
  unfold FrB at *
  simp only [World.setCell, Array.getElem?_modify, h]
  simp
theorem FrB.keep {w w' : World} {g : Nat} {k i e s : Int} {b : Value} (h : FrB w g k i e s b) (hk : Keeps w w') : FrB w' g k i e s b := hk g _ _ _ (by decide) (by decide) (by decide) h
end Go.Proofs.YtloaefcgcniacaaGreatDoor
