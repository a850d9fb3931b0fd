import Derived.Test.YtloaefcgcniacaaGreatDoorRd
namespace Go.Proofs.YtloaefcgcniacaaGreatDoor
open Go.RowKit
set_option linter.unusedVariables false

set_option maxHeartbeats 1000000 in
theorem rframe_yes (kd ix ep sq : Int) (a : Option Addr) (cap : Nat) (w : World) (hd0 : 1 ≤ kd) (hd : kd ≤ 3) (hi0 : 0 ≤ ix) (hi : ix ≤ 255) (he0 : 0 ≤ ep) (he : ep ≤ 4294967295) (hs0 : 0 ≤ sq) (hs : sq ≤ 4294967295) :
    Calls Tryz.prog 78 #[.agg #[.int .i64 kd, .int .i64 ix, .int .i64 ep, .int .i64 sq, .slice a 40 cap]] w fun e w' => e = .returned (.bool true) ∧ Below w.heap.size w w' := by
  go_enter Tryz.func78, Tryz.ntmps78
  go_wp2_with (first | (go_at_call 77; refine (rnumber_yes _ _ (by omega) (by omega)).mono ?_; rintro e w' ⟨rfl, rfl⟩))
  go_ret
  exact ⟨rfl, (Below.refl _ _).alloc (Nat.le_refl _) _⟩

theorem Blk.grown {w w' : World} {g r : Nat} {l : List Nat} (h : Blk w g l) (hb : w.grownBy w' (some r)) (hne : g ≠ r) : Blk w' g l := by
  have hlt := h.lt
  unfold Blk at h ⊢
  rw [hb.block g hlt (fun e => hne (by cases e; rfl)), h]
theorem Went.ne {w w1 : World} {g cap n g1 cap1 x : Nat} (h : Went w w1 g cap n g1 cap1) (hx : x < w.heap.size) (hne : x ≠ g) : x ≠ g1 := by
  rcases h.2 with ⟨_, rfl, _⟩ | ⟨_, h2⟩
  · exact hne
  · omega

theorem own_two (w : World) (D I : Nat) : OwnB (w.alloc (.cells #[.int .u8 (D : Int), .int .u8 (I : Int)] 5)) w.heap.size 2 [D, I] :=
  (blk_new w [D, I]).own (by unfold maxLen; simp)

set_option maxHeartbeats 2000000 in
theorem rseal_ok (key : Int) (D I E S g off cap : Nat) (body : List Nat) (w : World) (hk0 : 0 ≤ key) (hk : key ≤ 4294967295) (h1 : 1 ≤ D) (h3 : D ≤ 3) (hI : I ≤ 255) (hE : E ≤ 4294967295) (hS : S ≤ 4294967295)
    (hn : body.length = 40) (hl : ∀ x ∈ body, x < 256) (hr : Rd w g off body) :
    Calls Tryz.prog 37 #[.int .i64 key, .agg #[.int .i64 (D : Int), .int .i64 (I : Int), .int .i64 (E : Int), .int .i64 (S : Int), .slice (some ⟨g, off, none⟩) 40 cap]] w fun e w' =>
      ∃ g' cap', e = .returned (.tuple #[.slice (some ⟨g', 0, none⟩) 58 cap', .int .i64 0]) ∧ w.heap.size ≤ g' ∧ OwnB w' g' cap' (Lbx.sealB key.toNat D I E S body) ∧ Below w.heap.size w w' := by
  obtain ⟨K, rfl⟩ := Int.eq_ofNat_of_zero_le hk0
  simp only [Int.toNat_natCast]
  have HN : Hid (body.length = 40) := hn
  clear hn
  have hg : g < w.heap.size := hr.lt (by rw [HN.out]; omega)
  go_enter Tryz.func37, Tryz.ntmps37
  go_wp2_with (first | (go_at_call 77; refine (rnumber_yes _ _ (by omega) (by omega)).mono ?_; rintro e w' ⟨rfl, hw'⟩; have hw2 := hw'.symm; clear hw'; subst hw2))
  refine (rframe_yes _ _ _ _ _ _ _ (by omega) (by omega) (by omega) (by omega) (by omega) (by omega) (by omega) (by omega)).mono ?_
  rintro e w1 ⟨rfl, hb1⟩
  have hF := (fr_new w D I E S (.slice (some ⟨g, off, none⟩) 40 cap)).below hb1 (by simp)
  have hb01 : Below w.heap.size w w1 := ((Below.refl _ _).alloc (Nat.le_refl _) _).trans (hb1.mono (by simp))
  have hz1 : w.heap.size < w1.heap.size := by have := hb1.size; simp at this; omega
  have HF := hF
  obtain ⟨f0, f1, f2, f3, f4⟩ := HF
  have hr1 := hr.below hb01 hg
  clear hb1 hr
  go_wp2_with fail
  have hbo := own_two w1 D I
  have hba : Below w1.heap.size w1 (w1.alloc (Obj.cells #[Value.int IntKind.u8 ↑D, Value.int IntKind.u8 ↑I] 5)) := (Below.refl _ _).alloc (Nat.le_refl _) _
  have hza : (w1.alloc (Obj.cells #[Value.int IntKind.u8 ↑D, Value.int IntKind.u8 ↑I] 5)).heap.size = w1.heap.size + 1 := by simp
  generalize (w1.alloc (Obj.cells #[Value.int IntKind.u8 ↑D, Value.int IntKind.u8 ↑I] 5)) = W1 at *
  clear f0 f1 f2 f3 f4
  refine (rfour_any _ _ (by omega) (by omega)).mono ?_
  rintro e w2 ⟨rfl, hBe, hb2⟩
  rw [hza] at hBe ⊢
  have hz2 := hb2.size
  have hb12 : Below w1.heap.size w1 w2 := hba.trans (hb2.mono (by omega))
  have hF2 := hF.below hb12 (by omega)
  obtain ⟨f0, f1, f2, f3, f4⟩ := hF2
  go_wp2_with fail
  clear f0 f1 f2 f3 f4
  refine (rfour_any _ _ (by omega) (by omega)).mono ?_
  rintro e w3 ⟨rfl, hBs, hb3⟩
  have hz3 := hb3.size
  have hb13 : Below w1.heap.size w1 w3 := hb12.trans (hb3.mono (by omega))
  have hF3 := hF.below hb13 (by omega)
  obtain ⟨f0, f1, f2, f3, f4⟩ := hF3
  have hgz : g < w1.heap.size := by omega
  have hr3 := hr1.below hb13 hgz
  go_wp2_with fail
  clear f0 f1 f2 f3 f4
  refine (rveiled_any _ _ _ _ _ _ body _ (by omega) (by omega) (by omega) (by omega) (by omega) (by omega) HN.out hl hr3).mono ?_
  rintro e w4 ⟨gv, rfl, hgv, hBv, hb4⟩
  have hz4 := hb4.size
  have hsz3 := hBs.lt
  simp only [Int.toNat_natCast] at hBe hBs hBv
  have own4 : OwnB w4 w1.heap.size 2 [D, I] := ((hbo.below hb2 (by omega)).below hb3 (by omega)).below hb4 (by omega)
  have hBe4 := (hBe.below hb3 hBe.lt).below hb4 (by have := hBe.lt; omega)
  have hBs4 := hBs.below hb4 hBs.lt
  have hgvz := hBv.lt
  have hb04 : Below w.heap.size w w4 := hb01.trans ((hb13.trans (hb4.mono (by omega))).mono (by omega))
  clear hbo hba hb2 hb3 hb4 hb12 hb13 hF hr1 hr3 hBe hBs hb01
  go_wp2_with (at_builtin; go_loud (refine wpList_append_bytes rfl (.tmp 45) (.tmp 46) rfl w1.heap.size 2 2 [D, I] own4 rfl ⟨w1.heap.size + 1, 0, none⟩ 4 4 (Lbx.four E) rfl rfl rfl (fun j hj => by rw [Addr.add_lit, Nat.zero_add]; exact hBe4.cell j (by rw [Lbx.four_length]; exact hj)) (by omega) ?_))
  intro g5 c5 w5 hO5 hw5
  have hs5 : w2.heap.size ≠ g5 := hw5.ne (by omega) (by omega)
  have hv5 : gv ≠ g5 := hw5.ne (by omega) (by omega)
  have hBs5 := hBs4.grown hw5.1 (by omega)
  have hBv5 := hBv.grown hw5.1 (by omega)
  have hz5 := hw5.1.size
  go_wp2_with (at_builtin; go_loud (refine wpList_append_bytes rfl (.tmp 48) (.tmp 49) rfl g5 c5 6 _ hO5 rfl ⟨w2.heap.size, 0, none⟩ 4 4 (Lbx.four S) rfl rfl rfl (fun j hj => by rw [Addr.add_lit, Nat.zero_add]; exact hBs5.cell j (by rw [Lbx.four_length]; exact hj)) (by omega) ?_))
  intro g6 c6 w6 hO6 hw6
  have hv6 : gv ≠ g6 := hw6.ne (by omega) hv5
  have hBv6 := hBv5.grown hw6.1 hv5
  have hz6 := hw6.1.size
  go_wp2_with (at_builtin; go_loud (refine wpList_append_bytes rfl (.tmp 51) (.tmp 52) rfl g6 c6 10 _ hO6 rfl ⟨gv, 0, none⟩ 40 40 (Lbx.veil K E S body) (by rw [Lbx.veil_length]; exact HN.out) rfl rfl (fun j hj => by rw [Addr.add_lit, Nat.zero_add]; exact hBv6.cell j (by rw [Lbx.veil_length, HN.out]; exact hj)) (by omega) ?_))
  intro g7 c7 w7 hO7 hw7
  have hO7' : OwnB w7 g7 c7 (Lbx.headB K D I E S body) := by simpa [Lbx.headB] using hO7
  have h47 := (hw5.trans hw6 (by omega)).trans hw7 (by omega)
  have hg7 : w.heap.size ≤ g7 := h47.at (by omega) (by omega)
  have hb07 : Below w.heap.size w w7 := hb04.trans (h47.below (by omega) (by omega))
  have hlen : (Lbx.headB K D I E S body).length = 50 := by rw [Lbx.headB_length, HN.out]
  have hlt := Lbx.headB_lt K D I E S body (by omega) (by omega) hl
  have hz7 := hb07.size
  have hg7z := hO7'.lt
  clear hO5 hO6 hO7 hw5 hw6 hw7 h47 hBs5 hBv5 hBv6 hBs4 hBe4 hBv own4 hb04
  obtain ⟨Hd, hHd⟩ : ∃ Hd, Hd = Lbx.headB K D I E S body := ⟨_, rfl⟩
  rw [← hHd] at hO7' hlen hlt
  have HHD := (show Hid _ from hHd)
  clear hHd
  go_wp2_with fail
  refine (rtag_any _ 2 _ _ 50 _ Hd _ (by omega) (by omega) (by omega) (by omega) hlen (by omega) hlt hO7'.rd hg7z).mono ?_
  rintro e w8 ⟨g8, rfl, hg8, hB8, hb8⟩
  have hz8 := hb8.size
  have hO8 := hO7'.below hb8 hg7z
  go_wp2_with fail
  refine (rtag_any _ 3 _ _ 50 _ Hd _ (by omega) (by omega) (by omega) (by omega) hlen (by omega) hlt hO8.rd (by omega)).mono ?_
  rintro e w9 ⟨g9, rfl, hg9, hB9, hb9⟩
  have hz9 := hb9.size
  have hg8z := hB8.lt
  have hg9z := hB9.lt
  have hO9 := hO8.below hb9 (by omega)
  have hB89 := hB8.below hb9 hg8z
  have hb09 : Below w.heap.size w w9 := hb07.trans ((hb8.mono (by omega)).trans (hb9.mono (by omega)))
  have HLN := (show Hid _ from hlen)
  clear hO8 hO7' hB8 hb8 hb9 hb07 hlen
  go_wp2_with (at_builtin; go_loud (refine wpList_append_bytes rfl (.tmp 60) (.tmp 61) rfl g7 c7 50 Hd hO9 HLN.out ⟨g8, 0, none⟩ 4 4 _ rfl rfl rfl (fun j hj => by rw [Addr.add_lit, Nat.zero_add]; exact hB89.cell j (by rw [Lbx.four_length]; exact hj)) (by omega) ?_))
  intro g10 c10 w10 hO10 hw10
  have hn9 : g9 ≠ g10 := hw10.ne (by omega) (by omega)
  have hB10 := hB9.grown hw10.1 (by omega)
  go_wp2_with (at_builtin; go_loud (refine wpList_append_bytes rfl (.tmp 63) (.tmp 64) rfl g10 c10 54 _ hO10 (by rw [List.length_append, Lbx.four_length, HLN.out]) ⟨g9, 0, none⟩ 4 4 _ rfl rfl rfl (fun j hj => by rw [Addr.add_lit, Nat.zero_add]; exact hB10.cell j (by rw [Lbx.four_length]; exact hj)) (by omega) ?_))
  intro g11 c11 w11 hO11 hw11
  have h911 := hw10.trans hw11 (by omega)
  go_wp2
  go_ret2
  refine ⟨g11, c11, rfl, h911.at (by omega) (by omega), ?_, hb09.trans (h911.below (by omega) (by omega))⟩
  unfold Lbx.sealB
  rw [← HHD.out, List.append_assoc]
  exact hO11
end Go.Proofs.YtloaefcgcniacaaGreatDoor
