import Derived.Test.YtloaefcgcniacaaGreatDoorFc
import Derived.Test.YtloaefcgcniacaaGreatDoorBx
import Derived.Test.YtloaefcgcniacaaGreatDoorBg
namespace Go.Proofs.YtloaefcgcniacaaGreatDoor
open Go.RowKit
set_option linter.unusedVariables false

/-- A step's own copy. -/
def Box (w : World) (g : Nat) (k a b c d e : Int) (s : ByteArray) : Prop := w.heap[g]? = some (Obj.cells #[.int .i64 k, .int .i64 a, .int .i64 b, .int .i64 c, .int .i64 d, .int .i64 e, .string s] 56 (0, 0))
theorem Box.cells {w : World} {g : Nat} {k a b c d e : Int} {s : ByteArray} (h : Box w g k a b c d e s) :
    w.cell? ⟨g, 0, none⟩ = some (.int .i64 k) ∧ w.cell? ⟨g, 1, none⟩ = some (.int .i64 a) ∧ w.cell? ⟨g, 2, none⟩ = some (.int .i64 b) ∧ w.cell? ⟨g, 3, none⟩ = some (.int .i64 c) ∧ w.cell? ⟨g, 4, none⟩ = some (.int .i64 d) ∧ w.cell? ⟨g, 5, none⟩ = some (.int .i64 e) ∧ w.cell? ⟨g, 6, none⟩ = some (.string s) := by
  unfold Box at h
  refine ⟨?_, ?_, ?_, ?_, ?_, ?_, ?_⟩ <;> simp [World.cell?, h]
theorem Box.below {w w' : World} {g B : Nat} {k a b c d e : Int} {s : ByteArray} (h : Box w g k a b c d e s) (hb : Below B w w') (hg : g < B) : Box w' g k a b c d e s := (hb.block g hg).trans h
theorem Box.keep {w w' : World} {g : Nat} {k a b c d e : Int} {s : ByteArray} (h : Box w g k a b c d e s) (hk : Keeps w w') : Box w' g k a b c d e s := hk g _ _ _ (by decide) (by decide) (by decide) h
theorem box_new (w : World) (k a b c d e : Int) (s : ByteArray) : Box (w.alloc (Obj.cells #[.int .i64 k, .int .i64 a, .int .i64 b, .int .i64 c, .int .i64 d, .int .i64 e, .string s] 56)) w.heap.size k a b c d e s := heap_alloc_new w _

set_option maxRecDepth 100000 in
set_option maxHeartbeats 2000000 in
theorem frames_seal_ok (base WB N D I E S : Nat) (key : Int) (s : ByteArray) (w : World) (hN : N < 1000000) (hB : Books w base WB N) (hs : s.size = 40) (hk : 0 ≤ key ∧ key ≤ 4294967295) (hF : 1 ≤ D ∧ D ≤ 3 ∧ I ≤ 255 ∧ E ≤ 4294967295 ∧ S ≤ 4294967295) :
    Calls Tryz.prog 38 #[.pointer (some ⟨WB, 0, none⟩), .agg #[.int .i64 2, .int .i64 key, .int .i64 (D : Int), .int .i64 (I : Int), .int .i64 (E : Int), .int .i64 (S : Int), .string s]] w fun e w' => e = .returned (.bool true) ∧ Books w' base WB (N + 1) ∧ Below base w w' ∧ Keeps w w' := by
  have hwb := hB.wb
  have HK := (show Hid _ from hk)
  have HF := (show Hid _ from hF)
  clear hk hF
  have hbox := box_new w 2 key D I E S s
  have hbx : Below w.heap.size w (w.alloc (Obj.cells #[.int .i64 2, .int .i64 key, .int .i64 (D : Int), .int .i64 (I : Int), .int .i64 (E : Int), .int .i64 (S : Int), .string s] 56)) := (Below.refl _ _).alloc (Nat.le_refl _) _
  go_enter Tryz.func38, Tryz.ntmps38
  go_wp2_with fail
  refine (lent_any s _ (by omega)).mono ?_
  rintro e w1 ⟨rfl, hL1, hb1⟩
  simp only [World.size_alloc] at hL1 hb1 ⊢
  have hz1 := hb1.size
  simp only [World.size_alloc] at hz1
  have hbox1 := hbox.below hb1 (by omega)
  have hb01 : Below w.heap.size w w1 := hbx.trans (hb1.mono (by omega))
  obtain ⟨c0, c1, c2, c3, c4, c5, c6⟩ := hbox1.cells
  have hlt1 := hL1.lt
  rw [hs]
  go_wp2_with fail
  have hsl : (sbytes s).length = 40 := by rw [sbytes_length]; exact hs
  have hsb := sbytes_lt s
  have hRd1 : Rd w1 (w.heap.size + 1) 0 (sbytes s) := by
    have h1 := hL1.rd.take 40
    have e : (lentL s).take 40 = sbytes s := by
      unfold lentL
      rw [List.take_append_of_le_length (by omega), List.take_of_length_le (by omega)]
    rw [e] at h1
    exact h1
  refine (sseal_ok key D I E S (w.heap.size + 1) 0 44 (sbytes s) w1 HK.out.1 HK.out.2 (by have := HF.out; omega) (by have := HF.out; omega) (by omega) (by have := HF.out; omega) (by omega) (by have := HF.out; omega) (by omega) (by have := HF.out; omega) hsl hsb hRd1).mono ?_
  rintro e w2 ⟨g1, rfl, hg1, hB1, hb2⟩
  simp only [Int.toNat_natCast] at hB1
  have hz2 := hb2.size
  have hg1z := hB1.lt
  have hbox2 := hbox1.below hb2 (by omega)
  have hL2 := hL1.below hb2 hlt1
  obtain ⟨d0, d1, d2, d3, d4, d5, d6⟩ := hbox2.cells
  clear c0 c1 c2 c3 c4 c5 c6 hRd1
  have hby := run_bytes s w2
  have hRd3 := bytes_rd s w2
  have hb3 := bytes_below s w2
  rw [hs] at hby
  generalize Lib.bytesWorld w2 5 s = W3 at *
  generalize grownCap w2 40 0 5 = cp3 at *
  have hz3 := hb3.size
  go_wp2_with fail
  clear d0 d1 d2 d3 d4 d5 d6
  refine (rseal_ok key D I E S w2.heap.size 0 cp3 (sbytes s) W3 HK.out.1 HK.out.2 HF.out.1 HF.out.2.1 HF.out.2.2.1 HF.out.2.2.2.1 HF.out.2.2.2.2 hsl hsb hRd3).mono ?_
  rintro e w4 ⟨g4, cp4, rfl, hg4, hO4, hb4⟩
  have hz4 := hb4.size
  have hb24 : Below w2.heap.size w2 w4 := hb3.trans (hb4.mono hz3)
  have hB14 := hB1.below hb24 hg1z
  have hL4 := hL2.below hb24 (by omega)
  have hbox4 := hbox2.below hb24 (by omega)
  have hslen : (Lbx.sealB key.toNat D I E S (sbytes s)).length = 58 := by rw [Lbx.sealB_length, hsl]
  have hs1 := run_str w4 g1 0 58 58 _ hslen hB14.rd
  have hs2 := run_str w4 g4 0 58 cp4 _ hslen hO4.rd
  have hnil := fun w : World => Lib.run_eql_slice_nil (P := Tryz.prog) w 66 5 (some ⟨g1, 0, none⟩) 58 58 0 0 Tryz.underlying66
  have hb04 : Below w.heap.size w w4 := hb01.trans ((hb2.mono (by omega)).trans (hb24.mono (by omega)))
  have hFl : FullB w4 (some ⟨g1, 0, none⟩) 58 (Lbx.sealB key.toNat D I E S (sbytes s)) := .inr ⟨g1, rfl, hslen.symm, hB14⟩
  have HFl := (show Hid _ from hFl)
  have hslt := Lbx.sealB_lt key.toNat D I E S (sbytes s) (by have := HF.out; omega) (by have := HF.out; omega) hsb
  have HLt := (show Hid _ from hslt)
  clear hFl hslen hB14 hO4 hB1 hL1 hL2 hbox hbox1 hbox2 hb3 hb4 hb2 hb24 hRd3 hby hslt hbx hb1
  generalize Lbx.sealB key.toNat D I E S (sbytes s) = L at *
  go_wp2_with (go_at_call 42; refine (num_any _ _).mono ?_; rintro e w' ⟨rfl, hw'⟩; have hw2 := hw'.symm; clear hw'; subst hw2)
  refine (keep_any2 base WB N 58 _ L w w4 hN (by omega) hB hb04 HFl.out HLt.out (by intro a ha; cases ha; show w.heap.size ≤ g1; omega) (w.heap.size + 1) (by omega) (by omega) (by intro a ha; cases ha; show g1 ≠ w.heap.size + 1; omega) ⟨_, _, hL4⟩).mono ?_
  rintro e w5 ⟨rfl, hB5, hb5, hk5, hx5⟩
  have hL5 : Blk w5 (w.heap.size + 1) (lentL s) := hx5.trans hL4
  have hbox5 := hbox4.keep hk5
  obtain ⟨f0, f1, f2, f3, f4, f5, f6⟩ := hbox5.cells
  go_wp2_with fail
  clear f0 f1 f2 f3 f4 f5 f6
  have hbk := back_any (w.heap.size + 1) s w5 (by omega) hL5
  rw [hs] at hbk
  refine hbk.mono ?_
  rintro e w6 ⟨rfl, hg6, hz6, l6, hL6⟩
  have hB6 : Books w6 base WB (N + 1) := hB5 w6 (fun k hk => by
    by_cases hkz : k < w5.heap.size
    · exact hg6.block k hkz (fun e => hk (by cases e; rfl))
    · rw [Array.getElem?_eq_none (by omega), Array.getElem?_eq_none (by omega)])
  go_wp2
  go_ret
  refine ⟨ret_bool (by simp), hB6, (hb04.mono (by omega)).trans (hb5.trans ((Below.refl _ _).grown hg6 (by have := hb5.size; omega) (fun k e => by cases e; omega))), ((Keeps.of_below hb04).trans hk5).trans ?_⟩
  intro k cur t fz t5 t68 t47 h1
  have hkz : k < w5.heap.size := (Array.getElem?_eq_some_iff.1 h1).1
  rw [hg6.block k hkz ?_, h1]
  intro e
  cases e
  unfold Blk at hL5
  rw [h1] at hL5
  cases hL5
  exact t5 rfl
end Go.Proofs.YtloaefcgcniacaaGreatDoor
