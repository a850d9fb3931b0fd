import Derived.Test.YtloaefcgcniacaaGreatDoorEA4
namespace Go.Proofs.YtloaefcgcniacaaGreatDoor
open Go.RowKit
set_option linter.unusedVariables false

set_option maxRecDepth 20000 in
set_option maxHeartbeats 1000000 in
theorem disks_advance (base base2 WB N n : Nat) (qs : List Pl) (F : Nat → Nat → Prop) (dV sV : Value) (a b c d e0 : Int) (s : ByteArray) (w : World) (h : Wd w base base2 WB N n qs F dV sV) (hn : n < 800000) (hN : N < 1000000) (hs : s.size ≤ 2000000) (ha : fits a) :
    Calls Tryz.prog 39 #[.pointer (some ⟨WB, 0, none⟩), .agg #[.int .i64 11, .int .i64 a, .int .i64 b, .int .i64 c, .int .i64 d, .int .i64 e0, .string s]] w fun e w' => e = .returned (.bool true) ∧ Stepped w w' base base2 WB N n := by
  have HW := (show Hid _ from h)
  clear h
  have hb0 : Below w.heap.size w (w.alloc (Obj.cells (opC 11 a b c d e0 s) 56)) := (Below.refl _ _).alloc (Nat.le_refl _) _
  have hp0 : Cel (w.alloc (Obj.cells (opC 11 a b c d e0 s) 56)) w.heap.size 56 (opC 11 a b c d e0 s) := Cel.new _ _ _
  have hz0 : (w.alloc (Obj.cells (opC 11 a b c d e0 s) 56)).heap.size = w.heap.size + 1 := by simp
  have hW0 := HW.out.down hb0
  obtain ⟨k0, kf⟩ := hW0.cells
  rcases hW0.none_or with ⟨rfl, pp, cp, rfl⟩ | ⟨gd, cap, rfl, hpos, hcells⟩
  · clear hp0
    have hfin : Stepped w (w.alloc (Obj.cells (opC 11 a b c d e0 s) 56)) base base2 WB N n := ⟨N, [], F, _, _, by omega, hW0.mono (by omega), hb0.mono (by have := hW0.b1; have := HW.out.b2; omega), fun k hk _ => hb0.block k (by have := HW.out.b2; omega)⟩
    simp only [opC] at *
    go_enter Tryz.func39, Tryz.ntmps39
    go_wp2
    go_ret
    exact ⟨rfl, hfin⟩
  · have hpn : ((qs.length : Int) == 0) = false := by rw [beq_eq_false_iff_ne]; omega
    have hcnt := HW.out.cnt
    have hi : qs[pickN a qs.length]? = some (qs[pickN a qs.length]'(pickN_lt a _ hpos)) := List.getElem?_eq_getElem _
    have hil := pickN_lt a qs.length hpos
    have hili : ((pickN a qs.length : Nat) : Int) < (qs.length : Int) := by omega
    obtain ⟨x0, x1, x2⟩ := hcells _ _ hi
    have HCELL := (show Hid _ from hcells)
    have HA := (show Hid _ from ha)
    have HI := (show Hid _ from hi)
    have HW0 := (show Hid _ from hW0)
    obtain ⟨o0, o1, o2, o3, o4, o5, o6⟩ := hp0.op
    have HP0 := (show Hid _ from hp0)
    clear hcells ha hW0 hp0
    generalize (qs[pickN a qs.length]'(pickN_lt a _ hpos)) = q at *
    have HPK : Hid (∀ w, Calls Tryz.prog 91 #[.int .i64 a, .int .i64 (qs.length : Int)] w fun e w' => e = .returned (.int .i64 (pickN a qs.length : Nat)) ∧ w' = w) := fun w => pick_any a qs.length w hpos HA.out (by omega)
    have HX : Hid (pickN a qs.length < qs.length) := hil
    generalize pickN a qs.length = i at *
    simp only [opC] at *
    go_enter Tryz.func39, Tryz.ntmps39
    go_wp2_with fail
    generalize (w.alloc (Obj.cells #[.int .i64 11, .int .i64 a, .int .i64 b, .int .i64 c, .int .i64 d, .int .i64 e0, .string s] 56)) = W0 at *
    have hn1 := World.new_ne W0 ⟨WB, 0, none⟩ k0
    have hn2 := World.new_ne W0 ⟨w.heap.size, 1, none⟩ o1
    have hn3 := World.new_ne W0 ⟨gd, i * 3, none⟩ x0
    simp only at hn1 hn2 hn3
    go_region_held3 (fun w' => w'.cell? ⟨WB, 0, none⟩ = some (.slice (some ⟨gd, 0, none⟩) qs.length cap) ∧ w'.cell? ⟨w.heap.size, 1, none⟩ = some (.int .i64 a) ∧ w'.cell? ⟨gd, i * 3, none⟩ = some (.pointer (some ⟨q.x, 0, none⟩)) ∧ w'.cell? ⟨gd, i * 3 + 1, none⟩ = some (.pointer (some ⟨q.h, 0, none⟩)) ∧ w'.cell? ⟨gd, i * 3 + 2, none⟩ = some (.pointer (some ⟨q.r, 0, none⟩))) (go_keep) (first | (go_at_call 91; refine (HPK.out _).mono ?_; rintro e w' ⟨rfl, hw'⟩; have hw2 := hw'.symm; clear hw'; subst hw2))
    all_goals
      have hAA : Below W0.heap.size W0 (W0.alloc (Obj.cells #[.pointer (some ⟨q.x, 0, none⟩), .pointer (some ⟨q.h, 0, none⟩), .pointer (some ⟨q.r, 0, none⟩)] 159)).drew := ((Below.refl _ _).alloc (Nat.le_refl _) _).drew
      have hPV : Cel (W0.alloc (Obj.cells #[.pointer (some ⟨q.x, 0, none⟩), .pointer (some ⟨q.h, 0, none⟩), .pointer (some ⟨q.r, 0, none⟩)] 159)).drew (w.heap.size + 1) 159 (plC q) := by
        have := Cel.new W0 159 (plC q)
        rw [hz0] at this
        exact this
      have hOV : Cel (W0.alloc (Obj.cells #[.pointer (some ⟨q.x, 0, none⟩), .pointer (some ⟨q.h, 0, none⟩), .pointer (some ⟨q.r, 0, none⟩)] 159)).drew w.heap.size 56 (opC 11 a b c d e0 s) := Cel.below HP0.out hAA (Cel.lt HP0.out)
      have hbV : Below w.heap.size w (W0.alloc (Obj.cells #[.pointer (some ⟨q.x, 0, none⟩), .pointer (some ⟨q.h, 0, none⟩), .pointer (some ⟨q.r, 0, none⟩)] 159)).drew := hb0.trans (hAA.mono (by omega))
      clear hAA o0 o1 o2 o3 o4 o5 o6 x0 x1 x2 k0 kf
      generalize (W0.alloc (Obj.cells #[.pointer (some ⟨q.x, 0, none⟩), .pointer (some ⟨q.h, 0, none⟩), .pointer (some ⟨q.r, 0, none⟩)] 159)).drew = V at *
      have hWV := HW.out.down hbV
      have hpq := HW.out.pl i q HI.out
      have hlow : ∀ k, F i k → base2 ≤ k ∧ k < w.heap.size := fun k hk => ⟨(hpq.1.ok k hk).1, (hpq.1.ok k hk).2.lt⟩
      have hpV := hpq.1.below hbV
      obtain ⟨p0, p1, p2⟩ := hPV.pl
      obtain ⟨o0, o1, o2, o3, o4, o5, o6⟩ := hOV.op
      have HPV := (show Hid _ from hPV)
      have HOV := (show Hid _ from hOV)
      have hz := hbV.size
      clear hPV hOV
      have hb2 := HW.out.b2
      have hb1 := HW.out.b1
      go_wp2_with fail
      clear p0 p1 p2 o0 o1 o2 o3 o4 o5 o6
      refine (takes_advance q n base2 (F i) a b c d e0 s _ hpV hpq.2 (by omega) hs (by omega)).mono ?_
      rintro e w1 ⟨rfl, F', hpl, hsub, hc⟩
      have ht := told_takes hWV.bk hpl hsub hc (fun k hk => (hlow k hk).1) hb1 (by omega)
      have hP1 : Cel w1 (w.heap.size + 1) 159 (plC q) := told_cel ht HPV.out (fun k hk => (hlow k hk).2) (by omega) (by decide) (by decide)
      obtain ⟨p0, p1, p2⟩ := hP1.pl
      clear hpl hsub hc hP1
      go_wp2_with fail
      clear p0 p1 p2
      refine (same_told ht hpq.2 (by omega) hs).mono ?_
      rintro e w2 ⟨rfl, hb9⟩
      have hfin := stepped_of hbV HW.out i q HI.out _ hs ht hb9
      go_wp2
      go_ret
      exact ⟨rfl, hfin⟩

set_option maxRecDepth 20000 in
set_option maxHeartbeats 1000000 in
theorem disks_read (base base2 WB N n : Nat) (qs : List Pl) (F : Nat → Nat → Prop) (dV sV : Value) (a b c d e0 : Int) (s : ByteArray) (w : World) (h : Wd w base base2 WB N n qs F dV sV) (hn : n < 800000) (hN : N < 1000000) (hs : s.size ≤ 2000000) (ha : fits a) :
    Calls Tryz.prog 39 #[.pointer (some ⟨WB, 0, none⟩), .agg #[.int .i64 6, .int .i64 a, .int .i64 b, .int .i64 c, .int .i64 d, .int .i64 e0, .string s]] w fun e w' => e = .returned (.bool true) ∧ Stepped w w' base base2 WB N n := by
  have HW := (show Hid _ from h)
  clear h
  have hb0 : Below w.heap.size w (w.alloc (Obj.cells (opC 6 a b c d e0 s) 56)) := (Below.refl _ _).alloc (Nat.le_refl _) _
  have hp0 : Cel (w.alloc (Obj.cells (opC 6 a b c d e0 s) 56)) w.heap.size 56 (opC 6 a b c d e0 s) := Cel.new _ _ _
  have hz0 : (w.alloc (Obj.cells (opC 6 a b c d e0 s) 56)).heap.size = w.heap.size + 1 := by simp
  have hW0 := HW.out.down hb0
  obtain ⟨k0, kf⟩ := hW0.cells
  rcases hW0.none_or with ⟨rfl, pp, cp, rfl⟩ | ⟨gd, cap, rfl, hpos, hcells⟩
  · clear hp0
    have hfin : Stepped w (w.alloc (Obj.cells (opC 6 a b c d e0 s) 56)) base base2 WB N n := ⟨N, [], F, _, _, by omega, hW0.mono (by omega), hb0.mono (by have := hW0.b1; have := HW.out.b2; omega), fun k hk _ => hb0.block k (by have := HW.out.b2; omega)⟩
    simp only [opC] at *
    go_enter Tryz.func39, Tryz.ntmps39
    go_wp2
    go_ret
    exact ⟨rfl, hfin⟩
  · have hpn : ((qs.length : Int) == 0) = false := by rw [beq_eq_false_iff_ne]; omega
    have hcnt := HW.out.cnt
    have hi : qs[pickN a qs.length]? = some (qs[pickN a qs.length]'(pickN_lt a _ hpos)) := List.getElem?_eq_getElem _
    have hil := pickN_lt a qs.length hpos
    have hili : ((pickN a qs.length : Nat) : Int) < (qs.length : Int) := by omega
    obtain ⟨x0, x1, x2⟩ := hcells _ _ hi
    have HCELL := (show Hid _ from hcells)
    have HA := (show Hid _ from ha)
    have HI := (show Hid _ from hi)
    have HW0 := (show Hid _ from hW0)
    obtain ⟨o0, o1, o2, o3, o4, o5, o6⟩ := hp0.op
    have HP0 := (show Hid _ from hp0)
    clear hcells ha hW0 hp0
    generalize (qs[pickN a qs.length]'(pickN_lt a _ hpos)) = q at *
    have HPK : Hid (∀ w, Calls Tryz.prog 91 #[.int .i64 a, .int .i64 (qs.length : Int)] w fun e w' => e = .returned (.int .i64 (pickN a qs.length : Nat)) ∧ w' = w) := fun w => pick_any a qs.length w hpos HA.out (by omega)
    have HX : Hid (pickN a qs.length < qs.length) := hil
    generalize pickN a qs.length = i at *
    simp only [opC] at *
    go_enter Tryz.func39, Tryz.ntmps39
    go_wp2_with fail
    generalize (w.alloc (Obj.cells #[.int .i64 6, .int .i64 a, .int .i64 b, .int .i64 c, .int .i64 d, .int .i64 e0, .string s] 56)) = W0 at *
    have hn1 := World.new_ne W0 ⟨WB, 0, none⟩ k0
    have hn2 := World.new_ne W0 ⟨w.heap.size, 1, none⟩ o1
    have hn3 := World.new_ne W0 ⟨gd, i * 3, none⟩ x0
    simp only at hn1 hn2 hn3
    go_region_held3 (fun w' => w'.cell? ⟨WB, 0, none⟩ = some (.slice (some ⟨gd, 0, none⟩) qs.length cap) ∧ w'.cell? ⟨w.heap.size, 1, none⟩ = some (.int .i64 a) ∧ w'.cell? ⟨gd, i * 3, none⟩ = some (.pointer (some ⟨q.x, 0, none⟩)) ∧ w'.cell? ⟨gd, i * 3 + 1, none⟩ = some (.pointer (some ⟨q.h, 0, none⟩)) ∧ w'.cell? ⟨gd, i * 3 + 2, none⟩ = some (.pointer (some ⟨q.r, 0, none⟩))) (go_keep) (first | (go_at_call 91; refine (HPK.out _).mono ?_; rintro e w' ⟨rfl, hw'⟩; have hw2 := hw'.symm; clear hw'; subst hw2))
    all_goals
      have hAA : Below W0.heap.size W0 (W0.alloc (Obj.cells #[.pointer (some ⟨q.x, 0, none⟩), .pointer (some ⟨q.h, 0, none⟩), .pointer (some ⟨q.r, 0, none⟩)] 159)).drew := ((Below.refl _ _).alloc (Nat.le_refl _) _).drew
      have hPV : Cel (W0.alloc (Obj.cells #[.pointer (some ⟨q.x, 0, none⟩), .pointer (some ⟨q.h, 0, none⟩), .pointer (some ⟨q.r, 0, none⟩)] 159)).drew (w.heap.size + 1) 159 (plC q) := by
        have := Cel.new W0 159 (plC q)
        rw [hz0] at this
        exact this
      have hOV : Cel (W0.alloc (Obj.cells #[.pointer (some ⟨q.x, 0, none⟩), .pointer (some ⟨q.h, 0, none⟩), .pointer (some ⟨q.r, 0, none⟩)] 159)).drew w.heap.size 56 (opC 6 a b c d e0 s) := Cel.below HP0.out hAA (Cel.lt HP0.out)
      have hbV : Below w.heap.size w (W0.alloc (Obj.cells #[.pointer (some ⟨q.x, 0, none⟩), .pointer (some ⟨q.h, 0, none⟩), .pointer (some ⟨q.r, 0, none⟩)] 159)).drew := hb0.trans (hAA.mono (by omega))
      clear hAA o0 o1 o2 o3 o4 o5 o6 x0 x1 x2 k0 kf
      generalize (W0.alloc (Obj.cells #[.pointer (some ⟨q.x, 0, none⟩), .pointer (some ⟨q.h, 0, none⟩), .pointer (some ⟨q.r, 0, none⟩)] 159)).drew = V at *
      have hWV := HW.out.down hbV
      have hpq := HW.out.pl i q HI.out
      have hlow : ∀ k, F i k → base2 ≤ k ∧ k < w.heap.size := fun k hk => ⟨(hpq.1.ok k hk).1, (hpq.1.ok k hk).2.lt⟩
      have hpV := hpq.1.below hbV
      obtain ⟨p0, p1, p2⟩ := hPV.pl
      obtain ⟨o0, o1, o2, o3, o4, o5, o6⟩ := hOV.op
      have HPV := (show Hid _ from hPV)
      have HOV := (show Hid _ from hOV)
      have hz := hbV.size
      clear hPV hOV
      have hb2 := HW.out.b2
      have hb1 := HW.out.b1
      go_wp2_with fail
      clear p0 p1 p2 o0 o1 o2 o3 o4 o5 o6
      refine (tells_read q n base base2 WB N (F i) a b c d e0 s _ sV _ hpV hWV.bk hpq.2 (by omega) hb1 (by omega) hN).mono ?_
      rintro e w1 ⟨rfl, ht⟩
      have hP1 : Cel w1 (w.heap.size + 1) 159 (plC q) := told_cel ht HPV.out (fun k hk => (hlow k hk).2) (by omega) (by decide) (by decide)
      obtain ⟨p0, p1, p2⟩ := hP1.pl
      clear hP1
      go_wp2_with fail
      clear p0 p1 p2
      refine (same_told ht hpq.2 (by omega) empty_small).mono ?_
      rintro e w2 ⟨rfl, hb9⟩
      have hfin := stepped_of hbV HW.out i q HI.out _ empty_small ht hb9
      go_wp2
      go_ret
      exact ⟨rfl, hfin⟩

set_option maxRecDepth 20000 in
set_option maxHeartbeats 1000000 in
theorem disks_size (base base2 WB N n : Nat) (qs : List Pl) (F : Nat → Nat → Prop) (dV sV : Value) (a b c d e0 : Int) (s : ByteArray) (w : World) (h : Wd w base base2 WB N n qs F dV sV) (hn : n < 800000) (hN : N < 1000000) (hs : s.size ≤ 2000000) (ha : fits a) :
    Calls Tryz.prog 39 #[.pointer (some ⟨WB, 0, none⟩), .agg #[.int .i64 7, .int .i64 a, .int .i64 b, .int .i64 c, .int .i64 d, .int .i64 e0, .string s]] w fun e w' => e = .returned (.bool true) ∧ Stepped w w' base base2 WB N n := by
  have HW := (show Hid _ from h)
  clear h
  have hb0 : Below w.heap.size w (w.alloc (Obj.cells (opC 7 a b c d e0 s) 56)) := (Below.refl _ _).alloc (Nat.le_refl _) _
  have hp0 : Cel (w.alloc (Obj.cells (opC 7 a b c d e0 s) 56)) w.heap.size 56 (opC 7 a b c d e0 s) := Cel.new _ _ _
  have hz0 : (w.alloc (Obj.cells (opC 7 a b c d e0 s) 56)).heap.size = w.heap.size + 1 := by simp
  have hW0 := HW.out.down hb0
  obtain ⟨k0, kf⟩ := hW0.cells
  rcases hW0.none_or with ⟨rfl, pp, cp, rfl⟩ | ⟨gd, cap, rfl, hpos, hcells⟩
  · clear hp0
    have hfin : Stepped w (w.alloc (Obj.cells (opC 7 a b c d e0 s) 56)) base base2 WB N n := ⟨N, [], F, _, _, by omega, hW0.mono (by omega), hb0.mono (by have := hW0.b1; have := HW.out.b2; omega), fun k hk _ => hb0.block k (by have := HW.out.b2; omega)⟩
    simp only [opC] at *
    go_enter Tryz.func39, Tryz.ntmps39
    go_wp2
    go_ret
    exact ⟨rfl, hfin⟩
  · have hpn : ((qs.length : Int) == 0) = false := by rw [beq_eq_false_iff_ne]; omega
    have hcnt := HW.out.cnt
    have hi : qs[pickN a qs.length]? = some (qs[pickN a qs.length]'(pickN_lt a _ hpos)) := List.getElem?_eq_getElem _
    have hil := pickN_lt a qs.length hpos
    have hili : ((pickN a qs.length : Nat) : Int) < (qs.length : Int) := by omega
    obtain ⟨x0, x1, x2⟩ := hcells _ _ hi
    have HCELL := (show Hid _ from hcells)
    have HA := (show Hid _ from ha)
    have HI := (show Hid _ from hi)
    have HW0 := (show Hid _ from hW0)
    obtain ⟨o0, o1, o2, o3, o4, o5, o6⟩ := hp0.op
    have HP0 := (show Hid _ from hp0)
    clear hcells ha hW0 hp0
    generalize (qs[pickN a qs.length]'(pickN_lt a _ hpos)) = q at *
    have HPK : Hid (∀ w, Calls Tryz.prog 91 #[.int .i64 a, .int .i64 (qs.length : Int)] w fun e w' => e = .returned (.int .i64 (pickN a qs.length : Nat)) ∧ w' = w) := fun w => pick_any a qs.length w hpos HA.out (by omega)
    have HX : Hid (pickN a qs.length < qs.length) := hil
    generalize pickN a qs.length = i at *
    simp only [opC] at *
    go_enter Tryz.func39, Tryz.ntmps39
    go_wp2_with fail
    generalize (w.alloc (Obj.cells #[.int .i64 7, .int .i64 a, .int .i64 b, .int .i64 c, .int .i64 d, .int .i64 e0, .string s] 56)) = W0 at *
    have hn1 := World.new_ne W0 ⟨WB, 0, none⟩ k0
    have hn2 := World.new_ne W0 ⟨w.heap.size, 1, none⟩ o1
    have hn3 := World.new_ne W0 ⟨gd, i * 3, none⟩ x0
    simp only at hn1 hn2 hn3
    go_region_held3 (fun w' => w'.cell? ⟨WB, 0, none⟩ = some (.slice (some ⟨gd, 0, none⟩) qs.length cap) ∧ w'.cell? ⟨w.heap.size, 1, none⟩ = some (.int .i64 a) ∧ w'.cell? ⟨gd, i * 3, none⟩ = some (.pointer (some ⟨q.x, 0, none⟩)) ∧ w'.cell? ⟨gd, i * 3 + 1, none⟩ = some (.pointer (some ⟨q.h, 0, none⟩)) ∧ w'.cell? ⟨gd, i * 3 + 2, none⟩ = some (.pointer (some ⟨q.r, 0, none⟩))) (go_keep) (first | (go_at_call 91; refine (HPK.out _).mono ?_; rintro e w' ⟨rfl, hw'⟩; have hw2 := hw'.symm; clear hw'; subst hw2))
    all_goals
      have hAA : Below W0.heap.size W0 (W0.alloc (Obj.cells #[.pointer (some ⟨q.x, 0, none⟩), .pointer (some ⟨q.h, 0, none⟩), .pointer (some ⟨q.r, 0, none⟩)] 159)).drew := ((Below.refl _ _).alloc (Nat.le_refl _) _).drew
      have hPV : Cel (W0.alloc (Obj.cells #[.pointer (some ⟨q.x, 0, none⟩), .pointer (some ⟨q.h, 0, none⟩), .pointer (some ⟨q.r, 0, none⟩)] 159)).drew (w.heap.size + 1) 159 (plC q) := by
        have := Cel.new W0 159 (plC q)
        rw [hz0] at this
        exact this
      have hOV : Cel (W0.alloc (Obj.cells #[.pointer (some ⟨q.x, 0, none⟩), .pointer (some ⟨q.h, 0, none⟩), .pointer (some ⟨q.r, 0, none⟩)] 159)).drew w.heap.size 56 (opC 7 a b c d e0 s) := Cel.below HP0.out hAA (Cel.lt HP0.out)
      have hbV : Below w.heap.size w (W0.alloc (Obj.cells #[.pointer (some ⟨q.x, 0, none⟩), .pointer (some ⟨q.h, 0, none⟩), .pointer (some ⟨q.r, 0, none⟩)] 159)).drew := hb0.trans (hAA.mono (by omega))
      clear hAA o0 o1 o2 o3 o4 o5 o6 x0 x1 x2 k0 kf
      generalize (W0.alloc (Obj.cells #[.pointer (some ⟨q.x, 0, none⟩), .pointer (some ⟨q.h, 0, none⟩), .pointer (some ⟨q.r, 0, none⟩)] 159)).drew = V at *
      have hWV := HW.out.down hbV
      have hpq := HW.out.pl i q HI.out
      have hlow : ∀ k, F i k → base2 ≤ k ∧ k < w.heap.size := fun k hk => ⟨(hpq.1.ok k hk).1, (hpq.1.ok k hk).2.lt⟩
      have hpV := hpq.1.below hbV
      obtain ⟨p0, p1, p2⟩ := hPV.pl
      obtain ⟨o0, o1, o2, o3, o4, o5, o6⟩ := hOV.op
      have HPV := (show Hid _ from hPV)
      have HOV := (show Hid _ from hOV)
      have hz := hbV.size
      clear hPV hOV
      have hb2 := HW.out.b2
      have hb1 := HW.out.b1
      go_wp2_with fail
      clear p0 p1 p2 o0 o1 o2 o3 o4 o5 o6
      refine (tells_size q n base base2 WB N (F i) a b c d e0 s _ sV _ hpV hWV.bk hpq.2 (by omega) hb1 (by omega)).mono ?_
      rintro e w1 ⟨rfl, ht⟩
      have hP1 : Cel w1 (w.heap.size + 1) 159 (plC q) := told_cel ht HPV.out (fun k hk => (hlow k hk).2) (by omega) (by decide) (by decide)
      obtain ⟨p0, p1, p2⟩ := hP1.pl
      clear hP1
      go_wp2_with fail
      clear p0 p1 p2
      refine (same_told ht hpq.2 (by omega) empty_small).mono ?_
      rintro e w2 ⟨rfl, hb9⟩
      have hfin := stepped_of hbV HW.out i q HI.out _ empty_small ht hb9
      go_wp2
      go_ret
      exact ⟨rfl, hfin⟩

set_option maxRecDepth 20000 in
set_option maxHeartbeats 1000000 in
theorem disks_anchored (base base2 WB N n : Nat) (qs : List Pl) (F : Nat → Nat → Prop) (dV sV : Value) (a b c d e0 : Int) (s : ByteArray) (w : World) (h : Wd w base base2 WB N n qs F dV sV) (hn : n < 800000) (hN : N < 1000000) (hs : s.size ≤ 2000000) (ha : fits a) :
    Calls Tryz.prog 39 #[.pointer (some ⟨WB, 0, none⟩), .agg #[.int .i64 10, .int .i64 a, .int .i64 b, .int .i64 c, .int .i64 d, .int .i64 e0, .string s]] w fun e w' => e = .returned (.bool true) ∧ Stepped w w' base base2 WB N n := by
  have HW := (show Hid _ from h)
  clear h
  have hb0 : Below w.heap.size w (w.alloc (Obj.cells (opC 10 a b c d e0 s) 56)) := (Below.refl _ _).alloc (Nat.le_refl _) _
  have hp0 : Cel (w.alloc (Obj.cells (opC 10 a b c d e0 s) 56)) w.heap.size 56 (opC 10 a b c d e0 s) := Cel.new _ _ _
  have hz0 : (w.alloc (Obj.cells (opC 10 a b c d e0 s) 56)).heap.size = w.heap.size + 1 := by simp
  have hW0 := HW.out.down hb0
  obtain ⟨k0, kf⟩ := hW0.cells
  rcases hW0.none_or with ⟨rfl, pp, cp, rfl⟩ | ⟨gd, cap, rfl, hpos, hcells⟩
  · clear hp0
    have hfin : Stepped w (w.alloc (Obj.cells (opC 10 a b c d e0 s) 56)) base base2 WB N n := ⟨N, [], F, _, _, by omega, hW0.mono (by omega), hb0.mono (by have := hW0.b1; have := HW.out.b2; omega), fun k hk _ => hb0.block k (by have := HW.out.b2; omega)⟩
    simp only [opC] at *
    go_enter Tryz.func39, Tryz.ntmps39
    go_wp2
    go_ret
    exact ⟨rfl, hfin⟩
  · have hpn : ((qs.length : Int) == 0) = false := by rw [beq_eq_false_iff_ne]; omega
    have hcnt := HW.out.cnt
    have hi : qs[pickN a qs.length]? = some (qs[pickN a qs.length]'(pickN_lt a _ hpos)) := List.getElem?_eq_getElem _
    have hil := pickN_lt a qs.length hpos
    have hili : ((pickN a qs.length : Nat) : Int) < (qs.length : Int) := by omega
    obtain ⟨x0, x1, x2⟩ := hcells _ _ hi
    have HCELL := (show Hid _ from hcells)
    have HA := (show Hid _ from ha)
    have HI := (show Hid _ from hi)
    have HW0 := (show Hid _ from hW0)
    obtain ⟨o0, o1, o2, o3, o4, o5, o6⟩ := hp0.op
    have HP0 := (show Hid _ from hp0)
    clear hcells ha hW0 hp0
    generalize (qs[pickN a qs.length]'(pickN_lt a _ hpos)) = q at *
    have HPK : Hid (∀ w, Calls Tryz.prog 91 #[.int .i64 a, .int .i64 (qs.length : Int)] w fun e w' => e = .returned (.int .i64 (pickN a qs.length : Nat)) ∧ w' = w) := fun w => pick_any a qs.length w hpos HA.out (by omega)
    have HX : Hid (pickN a qs.length < qs.length) := hil
    generalize pickN a qs.length = i at *
    simp only [opC] at *
    go_enter Tryz.func39, Tryz.ntmps39
    go_wp2_with fail
    generalize (w.alloc (Obj.cells #[.int .i64 10, .int .i64 a, .int .i64 b, .int .i64 c, .int .i64 d, .int .i64 e0, .string s] 56)) = W0 at *
    have hn1 := World.new_ne W0 ⟨WB, 0, none⟩ k0
    have hn2 := World.new_ne W0 ⟨w.heap.size, 1, none⟩ o1
    have hn3 := World.new_ne W0 ⟨gd, i * 3, none⟩ x0
    simp only at hn1 hn2 hn3
    go_region_held3 (fun w' => w'.cell? ⟨WB, 0, none⟩ = some (.slice (some ⟨gd, 0, none⟩) qs.length cap) ∧ w'.cell? ⟨w.heap.size, 1, none⟩ = some (.int .i64 a) ∧ w'.cell? ⟨gd, i * 3, none⟩ = some (.pointer (some ⟨q.x, 0, none⟩)) ∧ w'.cell? ⟨gd, i * 3 + 1, none⟩ = some (.pointer (some ⟨q.h, 0, none⟩)) ∧ w'.cell? ⟨gd, i * 3 + 2, none⟩ = some (.pointer (some ⟨q.r, 0, none⟩))) (go_keep) (first | (go_at_call 91; refine (HPK.out _).mono ?_; rintro e w' ⟨rfl, hw'⟩; have hw2 := hw'.symm; clear hw'; subst hw2))
    all_goals
      have hAA : Below W0.heap.size W0 (W0.alloc (Obj.cells #[.pointer (some ⟨q.x, 0, none⟩), .pointer (some ⟨q.h, 0, none⟩), .pointer (some ⟨q.r, 0, none⟩)] 159)).drew := ((Below.refl _ _).alloc (Nat.le_refl _) _).drew
      have hPV : Cel (W0.alloc (Obj.cells #[.pointer (some ⟨q.x, 0, none⟩), .pointer (some ⟨q.h, 0, none⟩), .pointer (some ⟨q.r, 0, none⟩)] 159)).drew (w.heap.size + 1) 159 (plC q) := by
        have := Cel.new W0 159 (plC q)
        rw [hz0] at this
        exact this
      have hOV : Cel (W0.alloc (Obj.cells #[.pointer (some ⟨q.x, 0, none⟩), .pointer (some ⟨q.h, 0, none⟩), .pointer (some ⟨q.r, 0, none⟩)] 159)).drew w.heap.size 56 (opC 10 a b c d e0 s) := Cel.below HP0.out hAA (Cel.lt HP0.out)
      have hbV : Below w.heap.size w (W0.alloc (Obj.cells #[.pointer (some ⟨q.x, 0, none⟩), .pointer (some ⟨q.h, 0, none⟩), .pointer (some ⟨q.r, 0, none⟩)] 159)).drew := hb0.trans (hAA.mono (by omega))
      clear hAA o0 o1 o2 o3 o4 o5 o6 x0 x1 x2 k0 kf
      generalize (W0.alloc (Obj.cells #[.pointer (some ⟨q.x, 0, none⟩), .pointer (some ⟨q.h, 0, none⟩), .pointer (some ⟨q.r, 0, none⟩)] 159)).drew = V at *
      have hWV := HW.out.down hbV
      have hpq := HW.out.pl i q HI.out
      have hlow : ∀ k, F i k → base2 ≤ k ∧ k < w.heap.size := fun k hk => ⟨(hpq.1.ok k hk).1, (hpq.1.ok k hk).2.lt⟩
      have hpV := hpq.1.below hbV
      obtain ⟨p0, p1, p2⟩ := hPV.pl
      obtain ⟨o0, o1, o2, o3, o4, o5, o6⟩ := hOV.op
      have HPV := (show Hid _ from hPV)
      have HOV := (show Hid _ from hOV)
      have hz := hbV.size
      clear hPV hOV
      have hb2 := HW.out.b2
      have hb1 := HW.out.b1
      go_wp2_with fail
      clear p0 p1 p2 o0 o1 o2 o3 o4 o5 o6
      refine (tells_anchored q n base base2 WB N (F i) a b c d e0 s _ sV _ hpV hWV.bk hpq.2 (by omega) hb1 (by omega) hN).mono ?_
      rintro e w1 ⟨rfl, ht⟩
      have hP1 : Cel w1 (w.heap.size + 1) 159 (plC q) := told_cel ht HPV.out (fun k hk => (hlow k hk).2) (by omega) (by decide) (by decide)
      obtain ⟨p0, p1, p2⟩ := hP1.pl
      clear hP1
      go_wp2_with fail
      clear p0 p1 p2
      refine (same_told ht hpq.2 (by omega) empty_small).mono ?_
      rintro e w2 ⟨rfl, hb9⟩
      have hfin := stepped_of hbV HW.out i q HI.out _ empty_small ht hb9
      go_wp2
      go_ret
      exact ⟨rfl, hfin⟩

end Go.Proofs.YtloaefcgcniacaaGreatDoor

namespace Go.Proofs.YtloaefcgcniacaaGreatDoor
open Go.RowKit
set_option linter.unusedVariables false

set_option maxRecDepth 20000 in
set_option maxHeartbeats 1000000 in
theorem disks_reset (base base2 WB N n : Nat) (qs : List Pl) (F : Nat → Nat → Prop) (dV sV : Value) (a b c d e0 : Int) (s : ByteArray) (w : World) (h : Wd w base base2 WB N n qs F dV sV) (hn : n < 800000) (hN : N < 1000000) (hs : s.size ≤ 2000000) (ha : fits a) :
    Calls Tryz.prog 39 #[.pointer (some ⟨WB, 0, none⟩), .agg #[.int .i64 8, .int .i64 a, .int .i64 b, .int .i64 c, .int .i64 d, .int .i64 e0, .string s]] w fun e w' => e = .returned (.bool true) ∧ Stepped w w' base base2 WB N n := by
  have HW := (show Hid _ from h)
  clear h
  have hb0 : Below w.heap.size w (w.alloc (Obj.cells (opC 8 a b c d e0 s) 56)) := (Below.refl _ _).alloc (Nat.le_refl _) _
  have hp0 : Cel (w.alloc (Obj.cells (opC 8 a b c d e0 s) 56)) w.heap.size 56 (opC 8 a b c d e0 s) := Cel.new _ _ _
  have hz0 : (w.alloc (Obj.cells (opC 8 a b c d e0 s) 56)).heap.size = w.heap.size + 1 := by simp
  have hW0 := HW.out.down hb0
  obtain ⟨k0, kf⟩ := hW0.cells
  rcases hW0.none_or with ⟨rfl, pp, cp, rfl⟩ | ⟨gd, cap, rfl, hpos, hcells⟩
  · clear hp0
    have hfin : Stepped w (w.alloc (Obj.cells (opC 8 a b c d e0 s) 56)) base base2 WB N n := ⟨N, [], F, _, _, by omega, hW0.mono (by omega), hb0.mono (by have := hW0.b1; have := HW.out.b2; omega), fun k hk _ => hb0.block k (by have := HW.out.b2; omega)⟩
    simp only [opC] at *
    go_enter Tryz.func39, Tryz.ntmps39
    go_wp2
    go_ret
    exact ⟨rfl, hfin⟩
  · have hpn : ((qs.length : Int) == 0) = false := by rw [beq_eq_false_iff_ne]; omega
    have hcnt := HW.out.cnt
    have hi : qs[pickN a qs.length]? = some (qs[pickN a qs.length]'(pickN_lt a _ hpos)) := List.getElem?_eq_getElem _
    have hil := pickN_lt a qs.length hpos
    have hili : ((pickN a qs.length : Nat) : Int) < (qs.length : Int) := by omega
    obtain ⟨x0, x1, x2⟩ := hcells _ _ hi
    have HCELL := (show Hid _ from hcells)
    have HA := (show Hid _ from ha)
    have HI := (show Hid _ from hi)
    have HW0 := (show Hid _ from hW0)
    obtain ⟨o0, o1, o2, o3, o4, o5, o6⟩ := hp0.op
    have HP0 := (show Hid _ from hp0)
    clear hcells ha hW0 hp0
    generalize (qs[pickN a qs.length]'(pickN_lt a _ hpos)) = q at *
    have HPK : Hid (∀ w, Calls Tryz.prog 91 #[.int .i64 a, .int .i64 (qs.length : Int)] w fun e w' => e = .returned (.int .i64 (pickN a qs.length : Nat)) ∧ w' = w) := fun w => pick_any a qs.length w hpos HA.out (by omega)
    have HX : Hid (pickN a qs.length < qs.length) := hil
    generalize pickN a qs.length = i at *
    simp only [opC] at *
    go_enter Tryz.func39, Tryz.ntmps39
    go_wp2_with fail
    generalize (w.alloc (Obj.cells #[.int .i64 8, .int .i64 a, .int .i64 b, .int .i64 c, .int .i64 d, .int .i64 e0, .string s] 56)) = W0 at *
    have hn1 := World.new_ne W0 ⟨WB, 0, none⟩ k0
    have hn2 := World.new_ne W0 ⟨w.heap.size, 1, none⟩ o1
    have hn3 := World.new_ne W0 ⟨gd, i * 3, none⟩ x0
    simp only at hn1 hn2 hn3
    go_region_held3 (fun w' => w'.cell? ⟨WB, 0, none⟩ = some (.slice (some ⟨gd, 0, none⟩) qs.length cap) ∧ w'.cell? ⟨w.heap.size, 1, none⟩ = some (.int .i64 a) ∧ w'.cell? ⟨gd, i * 3, none⟩ = some (.pointer (some ⟨q.x, 0, none⟩)) ∧ w'.cell? ⟨gd, i * 3 + 1, none⟩ = some (.pointer (some ⟨q.h, 0, none⟩)) ∧ w'.cell? ⟨gd, i * 3 + 2, none⟩ = some (.pointer (some ⟨q.r, 0, none⟩))) (go_keep) (first | (go_at_call 91; refine (HPK.out _).mono ?_; rintro e w' ⟨rfl, hw'⟩; have hw2 := hw'.symm; clear hw'; subst hw2))
    all_goals
      have hAA : Below W0.heap.size W0 (W0.alloc (Obj.cells #[.pointer (some ⟨q.x, 0, none⟩), .pointer (some ⟨q.h, 0, none⟩), .pointer (some ⟨q.r, 0, none⟩)] 159)).drew := ((Below.refl _ _).alloc (Nat.le_refl _) _).drew
      have hPV : Cel (W0.alloc (Obj.cells #[.pointer (some ⟨q.x, 0, none⟩), .pointer (some ⟨q.h, 0, none⟩), .pointer (some ⟨q.r, 0, none⟩)] 159)).drew (w.heap.size + 1) 159 (plC q) := by
        have := Cel.new W0 159 (plC q)
        rw [hz0] at this
        exact this
      have hOV : Cel (W0.alloc (Obj.cells #[.pointer (some ⟨q.x, 0, none⟩), .pointer (some ⟨q.h, 0, none⟩), .pointer (some ⟨q.r, 0, none⟩)] 159)).drew w.heap.size 56 (opC 8 a b c d e0 s) := Cel.below HP0.out hAA (Cel.lt HP0.out)
      have hbV : Below w.heap.size w (W0.alloc (Obj.cells #[.pointer (some ⟨q.x, 0, none⟩), .pointer (some ⟨q.h, 0, none⟩), .pointer (some ⟨q.r, 0, none⟩)] 159)).drew := hb0.trans (hAA.mono (by omega))
      clear hAA o0 o1 o2 o3 o4 o5 o6 x0 x1 x2 k0 kf
      generalize (W0.alloc (Obj.cells #[.pointer (some ⟨q.x, 0, none⟩), .pointer (some ⟨q.h, 0, none⟩), .pointer (some ⟨q.r, 0, none⟩)] 159)).drew = V at *
      have hWV := HW.out.down hbV
      have hpq := HW.out.pl i q HI.out
      have hlow : ∀ k, F i k → base2 ≤ k ∧ k < w.heap.size := fun k hk => ⟨(hpq.1.ok k hk).1, (hpq.1.ok k hk).2.lt⟩
      have hpV := hpq.1.below hbV
      obtain ⟨p0, p1, p2⟩ := hPV.pl
      obtain ⟨o0, o1, o2, o3, o4, o5, o6⟩ := hOV.op
      have HPV := (show Hid _ from hPV)
      have HOV := (show Hid _ from hOV)
      have hz := hbV.size
      clear hPV hOV
      have hb2 := HW.out.b2
      have hb1 := HW.out.b1
      go_wp2_with fail
      clear p0 p1 p2 o0 o1 o2 o3 o4 o5 o6
      obtain ⟨dv, bd, lg, zs, d', r'⟩ := hpV
      refine (act_reset d' (hpq.2.good (by omega)) b ⟨4, b, 0, ByteArray.empty⟩ rfl).mono ?_
      rintro e wm ⟨rfl, zs', hP⟩
      have hp1 : Cel wm (w.heap.size + 1) 159 (plC q) := (mid1 hP (fun k hk => (hlow k hk).2) (by omega) (Cel.lt HPV.out)).trans HPV.out
      have ho1 : Cel wm w.heap.size 56 (opC 8 a b c d e0 s) := (mid1 hP (fun k hk => (hlow k hk).2) (Nat.le_refl _) (Cel.lt HOV.out)).trans HOV.out
      obtain ⟨p0, p1, p2⟩ := hp1.pl
      obtain ⟨o0, o1, o2, o3, o4, o5, o6⟩ := ho1.op
      have hz1 := hP.chg.size
      have HP := (show Hid _ from hP)
      have HR := (show Hid _ from r')
      clear hP hp1 ho1 d' r'
      go_wp2_with fail
      clear p0 p1 p2 o0 o1 o2 o3 o4 o5 o6
      refine (act_do ⟨4, b, 0, ByteArray.empty⟩ HP.out HR.out hpq.2 (by omega) empty_small (by omega)).mono ?_
      rintro e w1 ⟨rfl, hc2, hpl⟩
      have ht := told_plain (Below.refl _ _) HP.out hc2 hpl (Below.refl _ _) hWV.bk (fun k hk => (hlow k hk).1) hb1 (by omega)
      clear hc2 hpl
      have hP1 : Cel w1 (w.heap.size + 1) 159 (plC q) := told_cel ht HPV.out (fun k hk => (hlow k hk).2) (by omega) (by decide) (by decide)
      obtain ⟨p0, p1, p2⟩ := hP1.pl
      clear hP1
      go_wp2_with fail
      clear p0 p1 p2
      refine (same_told ht hpq.2 (by omega) empty_small).mono ?_
      rintro e w2 ⟨rfl, hb9⟩
      have hfin := stepped_of hbV HW.out i q HI.out _ empty_small ht hb9
      go_wp2
      go_ret
      exact ⟨rfl, hfin⟩

set_option maxRecDepth 20000 in
set_option maxHeartbeats 1000000 in
theorem disks_flush (base base2 WB N n : Nat) (qs : List Pl) (F : Nat → Nat → Prop) (dV sV : Value) (a b c d e0 : Int) (s : ByteArray) (w : World) (h : Wd w base base2 WB N n qs F dV sV) (hn : n < 800000) (hN : N < 1000000) (hs : s.size ≤ 2000000) (ha : fits a) :
    Calls Tryz.prog 39 #[.pointer (some ⟨WB, 0, none⟩), .agg #[.int .i64 9, .int .i64 a, .int .i64 b, .int .i64 c, .int .i64 d, .int .i64 e0, .string s]] w fun e w' => e = .returned (.bool true) ∧ Stepped w w' base base2 WB N n := by
  have HW := (show Hid _ from h)
  clear h
  have hb0 : Below w.heap.size w (w.alloc (Obj.cells (opC 9 a b c d e0 s) 56)) := (Below.refl _ _).alloc (Nat.le_refl _) _
  have hp0 : Cel (w.alloc (Obj.cells (opC 9 a b c d e0 s) 56)) w.heap.size 56 (opC 9 a b c d e0 s) := Cel.new _ _ _
  have hz0 : (w.alloc (Obj.cells (opC 9 a b c d e0 s) 56)).heap.size = w.heap.size + 1 := by simp
  have hW0 := HW.out.down hb0
  obtain ⟨k0, kf⟩ := hW0.cells
  rcases hW0.none_or with ⟨rfl, pp, cp, rfl⟩ | ⟨gd, cap, rfl, hpos, hcells⟩
  · clear hp0
    have hfin : Stepped w (w.alloc (Obj.cells (opC 9 a b c d e0 s) 56)) base base2 WB N n := ⟨N, [], F, _, _, by omega, hW0.mono (by omega), hb0.mono (by have := hW0.b1; have := HW.out.b2; omega), fun k hk _ => hb0.block k (by have := HW.out.b2; omega)⟩
    simp only [opC] at *
    go_enter Tryz.func39, Tryz.ntmps39
    go_wp2
    go_ret
    exact ⟨rfl, hfin⟩
  · have hpn : ((qs.length : Int) == 0) = false := by rw [beq_eq_false_iff_ne]; omega
    have hcnt := HW.out.cnt
    have hi : qs[pickN a qs.length]? = some (qs[pickN a qs.length]'(pickN_lt a _ hpos)) := List.getElem?_eq_getElem _
    have hil := pickN_lt a qs.length hpos
    have hili : ((pickN a qs.length : Nat) : Int) < (qs.length : Int) := by omega
    obtain ⟨x0, x1, x2⟩ := hcells _ _ hi
    have HCELL := (show Hid _ from hcells)
    have HA := (show Hid _ from ha)
    have HI := (show Hid _ from hi)
    have HW0 := (show Hid _ from hW0)
    obtain ⟨o0, o1, o2, o3, o4, o5, o6⟩ := hp0.op
    have HP0 := (show Hid _ from hp0)
    clear hcells ha hW0 hp0
    generalize (qs[pickN a qs.length]'(pickN_lt a _ hpos)) = q at *
    have HPK : Hid (∀ w, Calls Tryz.prog 91 #[.int .i64 a, .int .i64 (qs.length : Int)] w fun e w' => e = .returned (.int .i64 (pickN a qs.length : Nat)) ∧ w' = w) := fun w => pick_any a qs.length w hpos HA.out (by omega)
    have HX : Hid (pickN a qs.length < qs.length) := hil
    generalize pickN a qs.length = i at *
    simp only [opC] at *
    go_enter Tryz.func39, Tryz.ntmps39
    go_wp2_with fail
    generalize (w.alloc (Obj.cells #[.int .i64 9, .int .i64 a, .int .i64 b, .int .i64 c, .int .i64 d, .int .i64 e0, .string s] 56)) = W0 at *
    have hn1 := World.new_ne W0 ⟨WB, 0, none⟩ k0
    have hn2 := World.new_ne W0 ⟨w.heap.size, 1, none⟩ o1
    have hn3 := World.new_ne W0 ⟨gd, i * 3, none⟩ x0
    simp only at hn1 hn2 hn3
    go_region_held3 (fun w' => w'.cell? ⟨WB, 0, none⟩ = some (.slice (some ⟨gd, 0, none⟩) qs.length cap) ∧ w'.cell? ⟨w.heap.size, 1, none⟩ = some (.int .i64 a) ∧ w'.cell? ⟨gd, i * 3, none⟩ = some (.pointer (some ⟨q.x, 0, none⟩)) ∧ w'.cell? ⟨gd, i * 3 + 1, none⟩ = some (.pointer (some ⟨q.h, 0, none⟩)) ∧ w'.cell? ⟨gd, i * 3 + 2, none⟩ = some (.pointer (some ⟨q.r, 0, none⟩))) (go_keep) (first | (go_at_call 91; refine (HPK.out _).mono ?_; rintro e w' ⟨rfl, hw'⟩; have hw2 := hw'.symm; clear hw'; subst hw2))
    all_goals
      have hAA : Below W0.heap.size W0 (W0.alloc (Obj.cells #[.pointer (some ⟨q.x, 0, none⟩), .pointer (some ⟨q.h, 0, none⟩), .pointer (some ⟨q.r, 0, none⟩)] 159)).drew := ((Below.refl _ _).alloc (Nat.le_refl _) _).drew
      have hPV : Cel (W0.alloc (Obj.cells #[.pointer (some ⟨q.x, 0, none⟩), .pointer (some ⟨q.h, 0, none⟩), .pointer (some ⟨q.r, 0, none⟩)] 159)).drew (w.heap.size + 1) 159 (plC q) := by
        have := Cel.new W0 159 (plC q)
        rw [hz0] at this
        exact this
      have hOV : Cel (W0.alloc (Obj.cells #[.pointer (some ⟨q.x, 0, none⟩), .pointer (some ⟨q.h, 0, none⟩), .pointer (some ⟨q.r, 0, none⟩)] 159)).drew w.heap.size 56 (opC 9 a b c d e0 s) := Cel.below HP0.out hAA (Cel.lt HP0.out)
      have hbV : Below w.heap.size w (W0.alloc (Obj.cells #[.pointer (some ⟨q.x, 0, none⟩), .pointer (some ⟨q.h, 0, none⟩), .pointer (some ⟨q.r, 0, none⟩)] 159)).drew := hb0.trans (hAA.mono (by omega))
      clear hAA o0 o1 o2 o3 o4 o5 o6 x0 x1 x2 k0 kf
      generalize (W0.alloc (Obj.cells #[.pointer (some ⟨q.x, 0, none⟩), .pointer (some ⟨q.h, 0, none⟩), .pointer (some ⟨q.r, 0, none⟩)] 159)).drew = V at *
      have hWV := HW.out.down hbV
      have hpq := HW.out.pl i q HI.out
      have hlow : ∀ k, F i k → base2 ≤ k ∧ k < w.heap.size := fun k hk => ⟨(hpq.1.ok k hk).1, (hpq.1.ok k hk).2.lt⟩
      have hpV := hpq.1.below hbV
      obtain ⟨p0, p1, p2⟩ := hPV.pl
      obtain ⟨o0, o1, o2, o3, o4, o5, o6⟩ := hOV.op
      have HPV := (show Hid _ from hPV)
      have HOV := (show Hid _ from hOV)
      have hz := hbV.size
      clear hPV hOV
      have hb2 := HW.out.b2
      have hb1 := HW.out.b1
      go_wp2_with fail
      clear p0 p1 p2 o0 o1 o2 o3 o4 o5 o6
      obtain ⟨dv, bd, lg, zs, d', r'⟩ := hpV
      refine (act_flush d' (hpq.2.good (by omega)) ⟨5, 0, 0, ByteArray.empty⟩ rfl).mono ?_
      rintro e wm ⟨rfl, zs', hP⟩
      have hp1 : Cel wm (w.heap.size + 1) 159 (plC q) := (mid1 hP (fun k hk => (hlow k hk).2) (by omega) (Cel.lt HPV.out)).trans HPV.out
      have ho1 : Cel wm w.heap.size 56 (opC 9 a b c d e0 s) := (mid1 hP (fun k hk => (hlow k hk).2) (Nat.le_refl _) (Cel.lt HOV.out)).trans HOV.out
      obtain ⟨p0, p1, p2⟩ := hp1.pl
      obtain ⟨o0, o1, o2, o3, o4, o5, o6⟩ := ho1.op
      have hz1 := hP.chg.size
      have HP := (show Hid _ from hP)
      have HR := (show Hid _ from r')
      clear hP hp1 ho1 d' r'
      go_wp2_with fail
      clear p0 p1 p2 o0 o1 o2 o3 o4 o5 o6
      refine (act_do ⟨5, 0, 0, ByteArray.empty⟩ HP.out HR.out hpq.2 (by omega) empty_small (by omega)).mono ?_
      rintro e w1 ⟨rfl, hc2, hpl⟩
      have ht := told_plain (Below.refl _ _) HP.out hc2 hpl (Below.refl _ _) hWV.bk (fun k hk => (hlow k hk).1) hb1 (by omega)
      clear hc2 hpl
      have hP1 : Cel w1 (w.heap.size + 1) 159 (plC q) := told_cel ht HPV.out (fun k hk => (hlow k hk).2) (by omega) (by decide) (by decide)
      obtain ⟨p0, p1, p2⟩ := hP1.pl
      clear hP1
      go_wp2_with fail
      clear p0 p1 p2
      refine (same_told ht hpq.2 (by omega) empty_small).mono ?_
      rintro e w2 ⟨rfl, hb9⟩
      have hfin := stepped_of hbV HW.out i q HI.out _ empty_small ht hb9
      go_wp2
      go_ret
      exact ⟨rfl, hfin⟩

set_option maxRecDepth 20000 in
set_option maxHeartbeats 1000000 in
theorem disks_off (base base2 WB N n : Nat) (qs : List Pl) (F : Nat → Nat → Prop) (dV sV : Value) (a b c d e0 : Int) (s : ByteArray) (w : World) (h : Wd w base base2 WB N n qs F dV sV) (hn : n < 800000) (hN : N < 1000000) (hs : s.size ≤ 2000000) (ha : fits a) :
    Calls Tryz.prog 39 #[.pointer (some ⟨WB, 0, none⟩), .agg #[.int .i64 12, .int .i64 a, .int .i64 b, .int .i64 c, .int .i64 d, .int .i64 e0, .string s]] w fun e w' => e = .returned (.bool true) ∧ Stepped w w' base base2 WB N n := by
  have HW := (show Hid _ from h)
  clear h
  have hb0 : Below w.heap.size w (w.alloc (Obj.cells (opC 12 a b c d e0 s) 56)) := (Below.refl _ _).alloc (Nat.le_refl _) _
  have hp0 : Cel (w.alloc (Obj.cells (opC 12 a b c d e0 s) 56)) w.heap.size 56 (opC 12 a b c d e0 s) := Cel.new _ _ _
  have hz0 : (w.alloc (Obj.cells (opC 12 a b c d e0 s) 56)).heap.size = w.heap.size + 1 := by simp
  have hW0 := HW.out.down hb0
  obtain ⟨k0, kf⟩ := hW0.cells
  rcases hW0.none_or with ⟨rfl, pp, cp, rfl⟩ | ⟨gd, cap, rfl, hpos, hcells⟩
  · clear hp0
    have hfin : Stepped w (w.alloc (Obj.cells (opC 12 a b c d e0 s) 56)) base base2 WB N n := ⟨N, [], F, _, _, by omega, hW0.mono (by omega), hb0.mono (by have := hW0.b1; have := HW.out.b2; omega), fun k hk _ => hb0.block k (by have := HW.out.b2; omega)⟩
    simp only [opC] at *
    go_enter Tryz.func39, Tryz.ntmps39
    go_wp2
    go_ret
    exact ⟨rfl, hfin⟩
  · have hpn : ((qs.length : Int) == 0) = false := by rw [beq_eq_false_iff_ne]; omega
    have hcnt := HW.out.cnt
    have hi : qs[pickN a qs.length]? = some (qs[pickN a qs.length]'(pickN_lt a _ hpos)) := List.getElem?_eq_getElem _
    have hil := pickN_lt a qs.length hpos
    have hili : ((pickN a qs.length : Nat) : Int) < (qs.length : Int) := by omega
    obtain ⟨x0, x1, x2⟩ := hcells _ _ hi
    have HCELL := (show Hid _ from hcells)
    have HA := (show Hid _ from ha)
    have HI := (show Hid _ from hi)
    have HW0 := (show Hid _ from hW0)
    obtain ⟨o0, o1, o2, o3, o4, o5, o6⟩ := hp0.op
    have HP0 := (show Hid _ from hp0)
    clear hcells ha hW0 hp0
    generalize (qs[pickN a qs.length]'(pickN_lt a _ hpos)) = q at *
    have HPK : Hid (∀ w, Calls Tryz.prog 91 #[.int .i64 a, .int .i64 (qs.length : Int)] w fun e w' => e = .returned (.int .i64 (pickN a qs.length : Nat)) ∧ w' = w) := fun w => pick_any a qs.length w hpos HA.out (by omega)
    have HX : Hid (pickN a qs.length < qs.length) := hil
    generalize pickN a qs.length = i at *
    simp only [opC] at *
    go_enter Tryz.func39, Tryz.ntmps39
    go_wp2_with fail
    generalize (w.alloc (Obj.cells #[.int .i64 12, .int .i64 a, .int .i64 b, .int .i64 c, .int .i64 d, .int .i64 e0, .string s] 56)) = W0 at *
    have hn1 := World.new_ne W0 ⟨WB, 0, none⟩ k0
    have hn2 := World.new_ne W0 ⟨w.heap.size, 1, none⟩ o1
    have hn3 := World.new_ne W0 ⟨gd, i * 3, none⟩ x0
    simp only at hn1 hn2 hn3
    go_region_held3 (fun w' => w'.cell? ⟨WB, 0, none⟩ = some (.slice (some ⟨gd, 0, none⟩) qs.length cap) ∧ w'.cell? ⟨w.heap.size, 1, none⟩ = some (.int .i64 a) ∧ w'.cell? ⟨gd, i * 3, none⟩ = some (.pointer (some ⟨q.x, 0, none⟩)) ∧ w'.cell? ⟨gd, i * 3 + 1, none⟩ = some (.pointer (some ⟨q.h, 0, none⟩)) ∧ w'.cell? ⟨gd, i * 3 + 2, none⟩ = some (.pointer (some ⟨q.r, 0, none⟩))) (go_keep) (first | (go_at_call 91; refine (HPK.out _).mono ?_; rintro e w' ⟨rfl, hw'⟩; have hw2 := hw'.symm; clear hw'; subst hw2))
    all_goals
      have hAA : Below W0.heap.size W0 (W0.alloc (Obj.cells #[.pointer (some ⟨q.x, 0, none⟩), .pointer (some ⟨q.h, 0, none⟩), .pointer (some ⟨q.r, 0, none⟩)] 159)).drew := ((Below.refl _ _).alloc (Nat.le_refl _) _).drew
      have hPV : Cel (W0.alloc (Obj.cells #[.pointer (some ⟨q.x, 0, none⟩), .pointer (some ⟨q.h, 0, none⟩), .pointer (some ⟨q.r, 0, none⟩)] 159)).drew (w.heap.size + 1) 159 (plC q) := by
        have := Cel.new W0 159 (plC q)
        rw [hz0] at this
        exact this
      have hOV : Cel (W0.alloc (Obj.cells #[.pointer (some ⟨q.x, 0, none⟩), .pointer (some ⟨q.h, 0, none⟩), .pointer (some ⟨q.r, 0, none⟩)] 159)).drew w.heap.size 56 (opC 12 a b c d e0 s) := Cel.below HP0.out hAA (Cel.lt HP0.out)
      have hbV : Below w.heap.size w (W0.alloc (Obj.cells #[.pointer (some ⟨q.x, 0, none⟩), .pointer (some ⟨q.h, 0, none⟩), .pointer (some ⟨q.r, 0, none⟩)] 159)).drew := hb0.trans (hAA.mono (by omega))
      clear hAA o0 o1 o2 o3 o4 o5 o6 x0 x1 x2 k0 kf
      generalize (W0.alloc (Obj.cells #[.pointer (some ⟨q.x, 0, none⟩), .pointer (some ⟨q.h, 0, none⟩), .pointer (some ⟨q.r, 0, none⟩)] 159)).drew = V at *
      have hWV := HW.out.down hbV
      have hpq := HW.out.pl i q HI.out
      have hlow : ∀ k, F i k → base2 ≤ k ∧ k < w.heap.size := fun k hk => ⟨(hpq.1.ok k hk).1, (hpq.1.ok k hk).2.lt⟩
      have hpV := hpq.1.below hbV
      obtain ⟨p0, p1, p2⟩ := hPV.pl
      obtain ⟨o0, o1, o2, o3, o4, o5, o6⟩ := hOV.op
      have HPV := (show Hid _ from hPV)
      have HOV := (show Hid _ from hOV)
      have hz := hbV.size
      clear hPV hOV
      have hb2 := HW.out.b2
      have hb1 := HW.out.b1
      go_wp2_with fail
      clear p0 p1 p2 o0 o1 o2 o3 o4 o5 o6
      refine (same_any q n base2 (F i) _ hpV hpq.2 (by omega)).mono ?_
      rintro e w2 ⟨rfl, hb9⟩
      have hfin : Stepped w w2 base base2 WB N n := ⟨N, qs, F, _, _, by omega, (hWV.down hb9).mono (by omega), (hbV.mono (by omega)).trans (hb9.mono (by omega)), fun k hk _ => (hb9.block k (by omega)).trans (hbV.block k (by omega))⟩
      go_wp2
      go_ret
      exact ⟨rfl, hfin⟩

end Go.Proofs.YtloaefcgcniacaaGreatDoor
