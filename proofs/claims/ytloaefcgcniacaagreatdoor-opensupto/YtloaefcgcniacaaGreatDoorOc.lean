import Derived.Test.YtloaefcgcniacaaGreatDoorOd
import Derived.Deep.RegionHeld3
import Derived.Deep.RegionLaw
namespace Go.Proofs.YtloaefcgcniacaaGreatDoor
open Go.RowKit
set_option linter.unusedVariables false

set_option maxRecDepth 100000 in
set_option maxHeartbeats 1000000 in
theorem ropen_58 (key : Int) (g off cap : Nat) (l : List Nat) (w : World) (hk1 : 0 ≤ key) (hk2 : key ≤ 4294967295) (hn : l.length = 58) (hcap : 58 ≤ cap) (hl : ∀ x ∈ l, x < 256) (hr : Rd w g off l) (hg : g < w.heap.size) :
    Calls Tryz.prog 89 #[.int .i64 key, .slice (some ⟨g, off, none⟩) 58 cap] w fun e w' => ((¬ opensB key.toNat l ∧ e = .returned (.tuple #[noFrame, .int .i64 3])) ∨ (opensB key.toNat l ∧ ∃ g', e = .returned (.tuple #[.agg #[.int .i64 ((l[0]?.getD 0 : Nat) : Int), .int .i64 ((l[1]?.getD 0 : Nat) : Int), .int .i64 ((val4 l 2 : Nat) : Int), .int .i64 ((val4 l 6 : Nat) : Int), .slice (some ⟨g', 0, none⟩) 40 40], .int .i64 0]) ∧ w.heap.size ≤ g' ∧ Blk w' g' (Lbx.veil key.toNat (val4 l 2) (val4 l 6) ((l.drop 10).take 40)))) ∧ Below w.heap.size w w' := by
  have H1 := (show Hid _ from hk1)
  have H2 := (show Hid _ from hk2)
  have HN := (show Hid _ from hn)
  have hc0 := hr 0 (by omega)
  have hc1 := hr 1 (by omega)
  have hb0 := Lbx.get_lt l 256 (by decide) hl 0
  have hb1 := Lbx.get_lt l 256 (by decide) hl 1
  have hv2 := val4_lt l hl 2
  have hv6 := val4_lt l hl 6
  have HV2 := (show Hid _ from hv2)
  have HV6 := (show Hid _ from hv6)
  have hci : (50 : Int) ≤ (cap : Int) := by omega
  rw [Nat.add_zero] at hc0
  clear hk1 hk2 hn hv2 hv6
  go_enter Tryz.func89, Tryz.ntmps89
  go_wp2_with fail
  refine (rnumber_yes _ _ H1.out H2.out).mono ?_
  rintro e w' ⟨rfl, hw'⟩
  have hw2 := hw'.symm
  clear hw'
  subst hw2
  go_wp2_with fail
  have hgn : g ≠ w.heap.size := by omega
  have hgn1 : g ≠ w.heap.size + 1 := by omega
  have hbx : Below w.heap.size w (w.alloc (Obj.cells #[Value.int IntKind.i64 0, Value.int IntKind.i64 0, Value.int IntKind.i64 0, Value.int IntKind.i64 0, Value.slice none 0 0] 75)) := (Below.refl _ _).alloc (Nat.le_refl _) _
  have c0 := (hbx.cell (p := ⟨g, off, none⟩) hg).trans hc0
  have c1 := (hbx.cell (p := ⟨g, off + 1, none⟩) hg).trans hc1
  have hz0 : (w.alloc (Obj.cells #[Value.int IntKind.i64 0, Value.int IntKind.i64 0, Value.int IntKind.i64 0, Value.int IntKind.i64 0, Value.slice none 0 0] 75)).heap.size = w.heap.size + 1 := by simp
  have hr1 := hr.below hbx hg
  have hq1 : FrB (w.alloc (Obj.cells #[Value.int IntKind.i64 0, Value.int IntKind.i64 0, Value.int IntKind.i64 0, Value.int IntKind.i64 0, Value.slice none 0 0] 75)) w.heap.size 0 0 0 0 (.slice none 0 0) := heap_alloc_new w _
  clear hc0 hc1 hr
  generalize hW : w.alloc (Obj.cells #[Value.int IntKind.i64 0, Value.int IntKind.i64 0, Value.int IntKind.i64 0, Value.int IntKind.i64 0, Value.slice none 0 0] 75) = w1 at *
  clear hW
  have HQ1 := (show Hid _ from hq1)
  clear hq1
  have n0 := World.new_ne w1 _ c0
  have HZ0 := (show Hid _ from hz0)
  clear hz0 hgn hgn1
  go_region_held3 (fun w' => w'.cell? ⟨g, off, none⟩ = some (.int .u8 ((l[0]?.getD 0 : Nat) : Int)) ∧ w'.cell? ⟨g, off + 1, none⟩ = some (.int .u8 ((l[1]?.getD 0 : Nat) : Int))) (go_keep)
    (fail)
  go_wp2_with fail
  clear c0 c1 n0
  have hb2 : Below w1.heap.size w1 (w1.alloc (Obj.cells #[Value.int .i64 ((l[0]?.getD 0 : Nat) : Int), Value.int .i64 ((l[1]?.getD 0 : Nat) : Int), Value.int .i64 0, Value.int .i64 0, Value.slice none 0 0] 75)).drew := ((Below.refl _ _).alloc (Nat.le_refl _) _).drew
  have hf2 : FrB (w1.alloc (Obj.cells #[Value.int .i64 ((l[0]?.getD 0 : Nat) : Int), Value.int .i64 ((l[1]?.getD 0 : Nat) : Int), Value.int .i64 0, Value.int .i64 0, Value.slice none 0 0] 75)).drew w1.heap.size (l[0]?.getD 0 : Nat) (l[1]?.getD 0 : Nat) 0 0 (.slice none 0 0) := heap_alloc_new w1 _
  generalize (w1.alloc (Obj.cells #[Value.int .i64 ((l[0]?.getD 0 : Nat) : Int), Value.int .i64 ((l[1]?.getD 0 : Nat) : Int), Value.int .i64 0, Value.int .i64 0, Value.slice none 0 0] 75)).drew = w2 at *
  have hg1 : g < w1.heap.size := by have := HZ0.out; omega
  have hr2 := hr1.below hb2 hg1
  refine (rvalue_any g off 58 cap 2 l w2 HN.out (by omega) (by omega) hl hr2).mono ?_
  rintro e w3 ⟨rfl, q, hq⟩
  have hf3 : FrB w3 w1.heap.size (l[0]?.getD 0 : Nat) (l[1]?.getD 0 : Nat) 0 0 (.slice none 0 0) := by rw [hq]; exact hf2
  have hb3 : Below w1.heap.size w1 w3 := by rw [hq]; exact ⟨hb2.os, hb2.tape, hb2.output, hb2.size, hb2.block⟩
  clear hq hf2 hr2 hb2
  obtain ⟨y0, y1, y2, y3, y4, yf⟩ := hf3.cells
  go_wp2_with fail
  have hf4 := hf3.set2 (val4 l 2 : Nat)
  have hb4 : Below w1.heap.size w1 (w3.setCell ⟨w1.heap.size, 2, none⟩ (.int .i64 ((val4 l 2 : Nat) : Int))) := hb3.setCell (Nat.le_refl _) _
  generalize w3.setCell ⟨w1.heap.size, 2, none⟩ (.int .i64 ((val4 l 2 : Nat) : Int)) = w4 at *
  clear y0 y1 y2 y3 y4 yf hf3 hb3
  have hr4 := hr1.below hb4 hg1
  refine (rvalue_any g off 58 cap 6 l w4 HN.out (by omega) (by omega) hl hr4).mono ?_
  rintro e w5 ⟨rfl, q5, hq5⟩
  have hf5 : FrB w5 w1.heap.size (l[0]?.getD 0 : Nat) (l[1]?.getD 0 : Nat) (val4 l 2 : Nat) 0 (.slice none 0 0) := by rw [hq5]; exact hf4
  have hb5 : Below w1.heap.size w1 w5 := by rw [hq5]; exact ⟨hb4.os, hb4.tape, hb4.output, hb4.size, hb4.block⟩
  clear hq5 hf4 hr4 hb4
  obtain ⟨y0, y1, y2, y3, y4, yf⟩ := hf5.cells
  go_wp2_with fail
  have hf6 := hf5.set3 (val4 l 6 : Nat)
  have hb6 : Below w1.heap.size w1 (w5.setCell ⟨w1.heap.size, 3, none⟩ (.int .i64 ((val4 l 6 : Nat) : Int))) := hb5.setCell (Nat.le_refl _) _
  generalize w5.setCell ⟨w1.heap.size, 3, none⟩ (.int .i64 ((val4 l 6 : Nat) : Int)) = w6 at *
  clear y0 y1 y2 y3 y4 yf hf5 hb5
  have hl5 : ((l.drop 10).take 40).length = 40 := by rw [List.length_take, List.length_drop, HN.out]; rfl
  have HL : Hid (((l.drop 10).take 40).length = 40) := hl5
  have hlt : ∀ x ∈ (l.drop 10).take 40, x < 256 := fun x hx => hl x (List.mem_of_mem_drop (List.mem_of_mem_take hx))
  clear hl5
  have hz6 := hb6.size
  have hrm : Rd w6.drew g (off + 10) ((l.drop 10).take 40) := (((hr1.below hb6 hg1).drop 10).take 40).below ((Below.refl w6.heap.size w6).drew) (by omega)
  have hF6 : ∀ w7, Below w6.drew.heap.size w6.drew w7 → FrB w7 w1.heap.size (l[0]?.getD 0 : Nat) (l[1]?.getD 0 : Nat) (val4 l 2 : Nat) (val4 l 6 : Nat) (.slice none 0 0) := fun w7 h7 => (h7.block _ (Array.getElem?_eq_some_iff.1 hf6).1).trans hf6
  have HF6 := (show Hid _ from hF6)
  clear hF6
  obtain ⟨y0, y1, y2, y3, y4, yf⟩ := hf6.cells
  have HR1 := (show Hid _ from hr1)
  have HB6 := (show Hid _ from hb6)
  have HBX := (show Hid _ from hbx)
  clear y0 y1 hr1 hb6 hbx
  have hc10 : ¬ cap = 10 := by omega
  go_region_held3 (fun w' => w'.cell? ⟨w1.heap.size, 2, none⟩ = some (.int .i64 ((val4 l 2 : Nat) : Int)) ∧ w'.cell? ⟨w1.heap.size, 3, none⟩ = some (.int .i64 ((val4 l 6 : Nat) : Int))) (first | (simp [y2, y3]; done) | (simp [z2, z3]; done) | (simp [z2, z3, World.cell?_setCell_other]; done))
    (first
      | (go_at_call 80; refine (rveiled_any key _ _ g (off + 10) _ ((l.drop 10).take 40) _ H1.out H2.out (by have := HV2.out; omega) (by have := HV2.out; omega) (by have := HV6.out; omega) (by have := HV6.out; omega) HL.out hlt hrm).mono ?_; rintro e w7 ⟨g7, rfl, hg7, hB7, hw7⟩; obtain ⟨z0, z1, z2, z3, z4, zf⟩ := (HF6.out w7 hw7).cells))
  have hf8 := (HF6.out w7 hw7).set4 (.slice (some ⟨g7, 0, none⟩) 40 40)
  have hyn : g7 ≠ w1.heap.size := by have e1 : w6.drew.heap.size = w6.heap.size := rfl; have e2 := (Array.getElem?_eq_some_iff.1 hf6).1; omega
  have hB8 := hB7.other ⟨w1.heap.size, 4, none⟩ (.slice (some ⟨g7, 0, none⟩) 40 40) hyn
  have hb17 : Below w1.heap.size w1 w7 := HB6.out.trans (((Below.refl w6.heap.size w6).drew.trans hw7).mono hz6)
  have hb8 : Below w1.heap.size w1 (w7.setCell ⟨w1.heap.size, 4, none⟩ (.slice (some ⟨g7, 0, none⟩) 40 40)) := hb17.setCell (Nat.le_refl _) _
  have hg7' : w1.heap.size ≤ g7 := by have e1 : w6.drew.heap.size = w6.heap.size := rfl; omega
  simp only [Int.toNat_natCast] at hB8
  clear z0 z1 z2 z3 z4 zf hB7 hw7 hb17 y2 y3 y4 yf hf6 hrm hlt HF6 hg7 HB6
  generalize w7.setCell ⟨w1.heap.size, 4, none⟩ (.slice (some ⟨g7, 0, none⟩) 40 40) = w8 at *
  have hr8 := HR1.out
  have hr8 := (show Rd w1 g off l from hr8).below hb8 hg1
  have hg7z := hB8.lt
  have hz8 := hb8.size
  have hfz := (Array.getElem?_eq_some_iff.1 hf8).1
  have hb08 : Below w.heap.size w w8 := HBX.out.trans (hb8.mono (by have := HZ0.out; omega))
  obtain ⟨y0, y1, y2, y3, y4, yf⟩ := hf8.cells
  by_cases hkk : 1 ≤ l[0]?.getD 0 ∧ l[0]?.getD 0 ≤ 3
  · have HK := (show Hid _ from hkk)
    clear hkk
    go_wp2_with fail
    clear y0 y1 y2 y3 y4 yf
    have hvl : (Lbx.veil key.toNat (val4 l 2) (val4 l 6) ((l.drop 10).take 40)).length = 40 := by rw [Lbx.veil_length]; exact HL.out
    have hvt : ∀ x ∈ Lbx.veil key.toNat (val4 l 2) (val4 l 6) ((l.drop 10).take 40), x < 256 := Lbx.veil_lt _ _ _ _ (fun x hx => hl x (List.mem_of_mem_drop (List.mem_of_mem_take hx)))
    refine (rseal_ok key (l[0]?.getD 0) (l[1]?.getD 0) (val4 l 2) (val4 l 6) g7 0 40 (Lbx.veil key.toNat (val4 l 2) (val4 l 6) ((l.drop 10).take 40)) w8 H1.out H2.out HK.out.1 HK.out.2 (by omega) (by have := HV2.out; omega) (by have := HV6.out; omega) hvl hvt hB8.rd).mono ?_
    rintro e w9 ⟨g9, c9, rfl, hg9, hO9, hb9⟩
    rw [seal_again _ l HN.out hl] at hO9
    have hf9 : FrB w9 w1.heap.size (l[0]?.getD 0 : Nat) (l[1]?.getD 0 : Nat) (val4 l 2 : Nat) (val4 l 6 : Nat) (.slice (some ⟨g7, 0, none⟩) 40 40) := (hb9.block _ hfz).trans hf8
    have hB9 := hB8.below hb9 hg7z
    have hr9 := hr8.below hb9 (by omega)
    have hb09 : Below w.heap.size w w9 := hb08.trans (hb9.mono (by have := hb08.size; omega))
    have hrl : (retag key.toNat (l.take 50)).length = 58 := by unfold retag; simp [Lbx.four_length, HN.out]
    have hs1 := run_str w9 g9 0 58 c9 _ hrl hO9.rd
    have hs2 := run_str w9 g off 58 cap l HN.out hr9
    have hbq := bstr_beq (retag key.toNat (l.take 50)) l (retag_lt _ _ (fun x hx => hl x (List.mem_of_mem_take hx))) hl
    obtain ⟨y0, y1, y2, y3, y4, yf⟩ := hf9.cells
    have hq9 : FrB w9 w.heap.size 0 0 0 0 (.slice none 0 0) := (((hb8.trans (hb9.mono hz8)).block _ (by have := HZ0.out; omega)).trans HQ1.out)
    obtain ⟨x0, x1, x2, x3, x4, xf⟩ := hq9.cells
    clear hO9 hr9 hr8 hB8 hf8 hb9
    generalize hA : retag key.toNat (l.take 50) = A at *
    by_cases hAl : A = l
    · have hsm : sameB A l = true := decide_eq_true hAl
      rw [hsm] at hbq
      have HA := (show Hid _ from hAl)
      clear hAl
      go_wp2
      have hne : g7 ≠ w.heap.size := by have := HZ0.out; omega
      refine bodyPost_ret (v := .tuple #[.agg #[.int .i64 ((l[0]?.getD 0 : Nat) : Int), .int .i64 ((l[1]?.getD 0 : Nat) : Int), .int .i64 ((val4 l 2 : Nat) : Int), .int .i64 ((val4 l 6 : Nat) : Int), .slice (some ⟨g7, 0, none⟩) 40 40], .int .i64 0]) (by simp [results, Tryz.results89, go_sem, x0, x1, x2, x3, x4]) rfl ⟨.inr ⟨⟨HN.out, HK.out.1, HK.out.2, hA.trans HA.out⟩, g7, rfl, ?_, ?_⟩, ?_⟩
      · have := HZ0.out; omega
      · exact ((((hB9.other _ _ hne).other _ _ hne).other _ _ hne).other _ _ hne).other _ _ hne
      · exact ((((hb09.setCell (by simp) _).setCell (by simp) _).setCell (by simp) _).setCell (by simp) _).setCell (by simp) _
    · have hsm : sameB A l = false := decide_eq_false hAl
      rw [hsm] at hbq
      have HA := (show Hid _ from hAl)
      clear hAl
      go_wp2
      refine bodyPost_ret (v := .tuple #[noFrame, .int .i64 3]) (by simp [results, Tryz.results89, go_sem, x0, x1, x2, x3, x4]) rfl ⟨.inl ⟨fun h => HA.out (hA.symm.trans h.2.2.2), rfl⟩, ?_⟩
      exact ((((hb09.setCell (by simp) _).setCell (by simp) _).setCell (by simp) _).setCell (by simp) _).setCell (by simp) _
  · have HK := (show Hid _ from hkk)
    clear hkk
    go_wp2_with fail
    clear y0 y1 y2 y3 y4 yf
    refine (rseal_no key _ _ _ _ _ 40 40 w8 (by omega) (fun h => HK.out (by have := h.2.2; unfold FrameOK at this; omega))).mono ?_
    rintro e w9 ⟨rfl, hb9⟩
    have hb09 : Below w.heap.size w w9 := hb08.trans (hb9.mono (by have := hb08.size; omega))
    have hq9 : FrB w9 w.heap.size 0 0 0 0 (.slice none 0 0) := (((hb8.trans (hb9.mono hz8)).block _ (by have := HZ0.out; omega)).trans HQ1.out)
    obtain ⟨x0, x1, x2, x3, x4, xf⟩ := hq9.cells
    clear hr8 hB8 hf8 hb9
    go_wp2
    refine bodyPost_ret (v := .tuple #[noFrame, .int .i64 3]) (by simp [results, Tryz.results89, go_sem, x0, x1, x2, x3, x4]) rfl ⟨.inl ⟨fun h => HK.out ⟨h.2.1, h.2.2.1⟩, rfl⟩, ?_⟩
    exact ((((hb09.setCell (by simp) _).setCell (by simp) _).setCell (by simp) _).setCell (by simp) _).setCell (by simp) _

theorem ropen58 : ROpen58 := fun key g off cap l w h1 h2 hn hcap hl hr hg => ropen_58 key g off cap l w h1 h2 hn hcap hl hr hg
end Go.Proofs.YtloaefcgcniacaaGreatDoor
