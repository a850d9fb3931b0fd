import Derived.Test.YtloaefcgcniacaaGreatDoorEA5
import Derived.Test.YtloaefcgcniacaaGreatDoorEr
namespace Go.Proofs.YtloaefcgcniacaaGreatDoor
open Go.RowKit
set_option linter.unusedVariables false

theorem stepped_pre {w W0 w' : World} {base base2 WB N n : Nat} (hb : Below w.heap.size w W0) (h1 : base ≤ base2) (h2 : base2 ≤ w.heap.size) (h : Stepped W0 w' base base2 WB N n) : Stepped w w' base base2 WB N n := by
  obtain ⟨N', qs, F, d, s, e1, e2, e3, e4⟩ := h
  refine ⟨N', qs, F, d, s, e1, e2, (hb.mono (by omega)).trans e3, fun k hk hok => ?_⟩
  have e := hb.block k (by omega)
  have hok' : OkT W0 k := by
    obtain ⟨cur, t, fz, x, r⟩ := hok
    exact ⟨cur, t, fz, e.trans x, r⟩
  exact (e4 k hk hok').trans e

set_option maxHeartbeats 1000000 in
theorem disks_made (base base2 WB N n : Nat) (qs : List Pl) (F : Nat → Nat → Prop) (dV sV : Value) (a b c d e0 : Int) (s : ByteArray) (w : World) (h : Wd w base base2 WB N n qs F dV sV) (hn : n < 800000) (hN : N < 1000000) (hs : s.size ≤ 2000000) (ha : fits a) (hc : fits c) (hd : fits d) :
    Calls Tryz.prog 39 #[.pointer (some ⟨WB, 0, none⟩), .agg #[.int .i64 4, .int .i64 a, .int .i64 b, .int .i64 c, .int .i64 d, .int .i64 e0, .string s]] w fun e w' => e = .returned (.bool true) ∧ Stepped w w' base base2 WB N n := by
  have hb0 : Below w.heap.size w (w.alloc (Obj.cells #[.int .i64 4, .int .i64 a, .int .i64 b, .int .i64 c, .int .i64 d, .int .i64 e0, .string s] 56)) := (Below.refl _ _).alloc (Nat.le_refl _) _
  have hm := made_any base base2 WB N n qs F dV sV a b c d e0 s _ (h.down hb0) hn hN hs ha hc hd
  have h1 := h.b1
  have h2 := h.b2
  have HM := (show Hid _ from hm)
  clear hm h ha hc hd
  go_enter Tryz.func39, Tryz.ntmps39
  go_wp2_with fail
  refine Calls.mono HM.out ?_
  rintro e w1 ⟨rfl, hst⟩
  have hfin := stepped_pre hb0 h1 h2 hst
  clear hst
  go_wp2
  go_ret
  exact ⟨rfl, hfin⟩

/-- Every step on disks is the document's. -/
def StepD : Prop := ∀ (base base2 WB N n : Nat) (qs : List Pl) (F : Nat → Nat → Prop) (dV sV : Value) (k a b c d e0 : Int) (s : ByteArray) (w : World), 4 ≤ k → k ≤ 12 → Wd w base base2 WB N n qs F dV sV → n < 800000 → N < 1000000 → s.size ≤ 2000000 → fits a → fits c → fits d →
  Calls Tryz.prog 17 #[.pointer (some ⟨WB, 0, none⟩), .agg #[.int .i64 k, .int .i64 a, .int .i64 b, .int .i64 c, .int .i64 d, .int .i64 e0, .string s]] w fun e w' => e = .returned (.bool true) ∧ Stepped w w' base base2 WB N n

set_option maxHeartbeats 1000000 in
theorem step_disk4 (base base2 WB N n : Nat) (qs : List Pl) (F : Nat → Nat → Prop) (dV sV : Value) (a b c d e0 : Int) (s : ByteArray) (w : World) (h : Wd w base base2 WB N n qs F dV sV) (hn : n < 800000) (hN : N < 1000000) (hs : s.size ≤ 2000000) (ha : fits a) (hc : fits c) (hd : fits d) :
    Calls Tryz.prog 17 #[.pointer (some ⟨WB, 0, none⟩), .agg #[.int .i64 4, .int .i64 a, .int .i64 b, .int .i64 c, .int .i64 d, .int .i64 e0, .string s]] w fun e w' => e = .returned (.bool true) ∧ Stepped w w' base base2 WB N n := by
  have hb0 : Below w.heap.size w (w.alloc (Obj.cells #[.int .i64 4, .int .i64 a, .int .i64 b, .int .i64 c, .int .i64 d, .int .i64 e0, .string s] 56)) := (Below.refl _ _).alloc (Nat.le_refl _) _
  have hm := disks_made base base2 WB N n qs F dV sV a b c d e0 s _ (h.down hb0) hn hN hs ha hc hd
  have h1 := h.b1
  have h2 := h.b2
  have HM := (show Hid _ from hm)
  clear hm h ha hc hd
  go_enter Tryz.func17, Tryz.ntmps17
  go_wp2_with fail
  refine Calls.mono HM.out ?_
  rintro e w1 ⟨rfl, hst⟩
  have hfin := stepped_pre hb0 h1 h2 hst
  clear hst
  go_wp2
  go_ret
  exact ⟨rfl, hfin⟩

set_option maxHeartbeats 1000000 in
theorem step_disk5 (base base2 WB N n : Nat) (qs : List Pl) (F : Nat → Nat → Prop) (dV sV : Value) (a b c d e0 : Int) (s : ByteArray) (w : World) (h : Wd w base base2 WB N n qs F dV sV) (hn : n < 800000) (hN : N < 1000000) (hs : s.size ≤ 2000000) (ha : fits a) (hc : fits c) (hd : fits d) :
    Calls Tryz.prog 17 #[.pointer (some ⟨WB, 0, none⟩), .agg #[.int .i64 5, .int .i64 a, .int .i64 b, .int .i64 c, .int .i64 d, .int .i64 e0, .string s]] w fun e w' => e = .returned (.bool true) ∧ Stepped w w' base base2 WB N n := by
  have hb0 : Below w.heap.size w (w.alloc (Obj.cells #[.int .i64 5, .int .i64 a, .int .i64 b, .int .i64 c, .int .i64 d, .int .i64 e0, .string s] 56)) := (Below.refl _ _).alloc (Nat.le_refl _) _
  have hm := disks_append base base2 WB N n qs F dV sV a b c d e0 s _ (h.down hb0) hn hN hs ha
  have h1 := h.b1
  have h2 := h.b2
  have HM := (show Hid _ from hm)
  clear hm h ha hc hd
  go_enter Tryz.func17, Tryz.ntmps17
  go_wp2_with fail
  refine Calls.mono HM.out ?_
  rintro e w1 ⟨rfl, hst⟩
  have hfin := stepped_pre hb0 h1 h2 hst
  clear hst
  go_wp2
  go_ret
  exact ⟨rfl, hfin⟩

set_option maxHeartbeats 1000000 in
theorem step_disk6 (base base2 WB N n : Nat) (qs : List Pl) (F : Nat → Nat → Prop) (dV sV : Value) (a b c d e0 : Int) (s : ByteArray) (w : World) (h : Wd w base base2 WB N n qs F dV sV) (hn : n < 800000) (hN : N < 1000000) (hs : s.size ≤ 2000000) (ha : fits a) (hc : fits c) (hd : fits d) :
    Calls Tryz.prog 17 #[.pointer (some ⟨WB, 0, none⟩), .agg #[.int .i64 6, .int .i64 a, .int .i64 b, .int .i64 c, .int .i64 d, .int .i64 e0, .string s]] w fun e w' => e = .returned (.bool true) ∧ Stepped w w' base base2 WB N n := by
  have hb0 : Below w.heap.size w (w.alloc (Obj.cells #[.int .i64 6, .int .i64 a, .int .i64 b, .int .i64 c, .int .i64 d, .int .i64 e0, .string s] 56)) := (Below.refl _ _).alloc (Nat.le_refl _) _
  have hm := disks_read base base2 WB N n qs F dV sV a b c d e0 s _ (h.down hb0) hn hN hs ha
  have h1 := h.b1
  have h2 := h.b2
  have HM := (show Hid _ from hm)
  clear hm h ha hc hd
  go_enter Tryz.func17, Tryz.ntmps17
  go_wp2_with fail
  refine Calls.mono HM.out ?_
  rintro e w1 ⟨rfl, hst⟩
  have hfin := stepped_pre hb0 h1 h2 hst
  clear hst
  go_wp2
  go_ret
  exact ⟨rfl, hfin⟩

set_option maxHeartbeats 1000000 in
theorem step_disk7 (base base2 WB N n : Nat) (qs : List Pl) (F : Nat → Nat → Prop) (dV sV : Value) (a b c d e0 : Int) (s : ByteArray) (w : World) (h : Wd w base base2 WB N n qs F dV sV) (hn : n < 800000) (hN : N < 1000000) (hs : s.size ≤ 2000000) (ha : fits a) (hc : fits c) (hd : fits d) :
    Calls Tryz.prog 17 #[.pointer (some ⟨WB, 0, none⟩), .agg #[.int .i64 7, .int .i64 a, .int .i64 b, .int .i64 c, .int .i64 d, .int .i64 e0, .string s]] w fun e w' => e = .returned (.bool true) ∧ Stepped w w' base base2 WB N n := by
  have hb0 : Below w.heap.size w (w.alloc (Obj.cells #[.int .i64 7, .int .i64 a, .int .i64 b, .int .i64 c, .int .i64 d, .int .i64 e0, .string s] 56)) := (Below.refl _ _).alloc (Nat.le_refl _) _
  have hm := disks_size base base2 WB N n qs F dV sV a b c d e0 s _ (h.down hb0) hn hN hs ha
  have h1 := h.b1
  have h2 := h.b2
  have HM := (show Hid _ from hm)
  clear hm h ha hc hd
  go_enter Tryz.func17, Tryz.ntmps17
  go_wp2_with fail
  refine Calls.mono HM.out ?_
  rintro e w1 ⟨rfl, hst⟩
  have hfin := stepped_pre hb0 h1 h2 hst
  clear hst
  go_wp2
  go_ret
  exact ⟨rfl, hfin⟩

set_option maxHeartbeats 1000000 in
theorem step_disk8 (base base2 WB N n : Nat) (qs : List Pl) (F : Nat → Nat → Prop) (dV sV : Value) (a b c d e0 : Int) (s : ByteArray) (w : World) (h : Wd w base base2 WB N n qs F dV sV) (hn : n < 800000) (hN : N < 1000000) (hs : s.size ≤ 2000000) (ha : fits a) (hc : fits c) (hd : fits d) :
    Calls Tryz.prog 17 #[.pointer (some ⟨WB, 0, none⟩), .agg #[.int .i64 8, .int .i64 a, .int .i64 b, .int .i64 c, .int .i64 d, .int .i64 e0, .string s]] w fun e w' => e = .returned (.bool true) ∧ Stepped w w' base base2 WB N n := by
  have hb0 : Below w.heap.size w (w.alloc (Obj.cells #[.int .i64 8, .int .i64 a, .int .i64 b, .int .i64 c, .int .i64 d, .int .i64 e0, .string s] 56)) := (Below.refl _ _).alloc (Nat.le_refl _) _
  have hm := disks_reset base base2 WB N n qs F dV sV a b c d e0 s _ (h.down hb0) hn hN hs ha
  have h1 := h.b1
  have h2 := h.b2
  have HM := (show Hid _ from hm)
  clear hm h ha hc hd
  go_enter Tryz.func17, Tryz.ntmps17
  go_wp2_with fail
  refine Calls.mono HM.out ?_
  rintro e w1 ⟨rfl, hst⟩
  have hfin := stepped_pre hb0 h1 h2 hst
  clear hst
  go_wp2
  go_ret
  exact ⟨rfl, hfin⟩

set_option maxHeartbeats 1000000 in
theorem step_disk9 (base base2 WB N n : Nat) (qs : List Pl) (F : Nat → Nat → Prop) (dV sV : Value) (a b c d e0 : Int) (s : ByteArray) (w : World) (h : Wd w base base2 WB N n qs F dV sV) (hn : n < 800000) (hN : N < 1000000) (hs : s.size ≤ 2000000) (ha : fits a) (hc : fits c) (hd : fits d) :
    Calls Tryz.prog 17 #[.pointer (some ⟨WB, 0, none⟩), .agg #[.int .i64 9, .int .i64 a, .int .i64 b, .int .i64 c, .int .i64 d, .int .i64 e0, .string s]] w fun e w' => e = .returned (.bool true) ∧ Stepped w w' base base2 WB N n := by
  have hb0 : Below w.heap.size w (w.alloc (Obj.cells #[.int .i64 9, .int .i64 a, .int .i64 b, .int .i64 c, .int .i64 d, .int .i64 e0, .string s] 56)) := (Below.refl _ _).alloc (Nat.le_refl _) _
  have hm := disks_flush base base2 WB N n qs F dV sV a b c d e0 s _ (h.down hb0) hn hN hs ha
  have h1 := h.b1
  have h2 := h.b2
  have HM := (show Hid _ from hm)
  clear hm h ha hc hd
  go_enter Tryz.func17, Tryz.ntmps17
  go_wp2_with fail
  refine Calls.mono HM.out ?_
  rintro e w1 ⟨rfl, hst⟩
  have hfin := stepped_pre hb0 h1 h2 hst
  clear hst
  go_wp2
  go_ret
  exact ⟨rfl, hfin⟩

set_option maxHeartbeats 1000000 in
theorem step_disk10 (base base2 WB N n : Nat) (qs : List Pl) (F : Nat → Nat → Prop) (dV sV : Value) (a b c d e0 : Int) (s : ByteArray) (w : World) (h : Wd w base base2 WB N n qs F dV sV) (hn : n < 800000) (hN : N < 1000000) (hs : s.size ≤ 2000000) (ha : fits a) (hc : fits c) (hd : fits d) :
    Calls Tryz.prog 17 #[.pointer (some ⟨WB, 0, none⟩), .agg #[.int .i64 10, .int .i64 a, .int .i64 b, .int .i64 c, .int .i64 d, .int .i64 e0, .string s]] w fun e w' => e = .returned (.bool true) ∧ Stepped w w' base base2 WB N n := by
  have hb0 : Below w.heap.size w (w.alloc (Obj.cells #[.int .i64 10, .int .i64 a, .int .i64 b, .int .i64 c, .int .i64 d, .int .i64 e0, .string s] 56)) := (Below.refl _ _).alloc (Nat.le_refl _) _
  have hm := disks_anchored base base2 WB N n qs F dV sV a b c d e0 s _ (h.down hb0) hn hN hs ha
  have h1 := h.b1
  have h2 := h.b2
  have HM := (show Hid _ from hm)
  clear hm h ha hc hd
  go_enter Tryz.func17, Tryz.ntmps17
  go_wp2_with fail
  refine Calls.mono HM.out ?_
  rintro e w1 ⟨rfl, hst⟩
  have hfin := stepped_pre hb0 h1 h2 hst
  clear hst
  go_wp2
  go_ret
  exact ⟨rfl, hfin⟩

set_option maxHeartbeats 1000000 in
theorem step_disk11 (base base2 WB N n : Nat) (qs : List Pl) (F : Nat → Nat → Prop) (dV sV : Value) (a b c d e0 : Int) (s : ByteArray) (w : World) (h : Wd w base base2 WB N n qs F dV sV) (hn : n < 800000) (hN : N < 1000000) (hs : s.size ≤ 2000000) (ha : fits a) (hc : fits c) (hd : fits d) :
    Calls Tryz.prog 17 #[.pointer (some ⟨WB, 0, none⟩), .agg #[.int .i64 11, .int .i64 a, .int .i64 b, .int .i64 c, .int .i64 d, .int .i64 e0, .string s]] w fun e w' => e = .returned (.bool true) ∧ Stepped w w' base base2 WB N n := by
  have hb0 : Below w.heap.size w (w.alloc (Obj.cells #[.int .i64 11, .int .i64 a, .int .i64 b, .int .i64 c, .int .i64 d, .int .i64 e0, .string s] 56)) := (Below.refl _ _).alloc (Nat.le_refl _) _
  have hm := disks_advance base base2 WB N n qs F dV sV a b c d e0 s _ (h.down hb0) hn hN hs ha
  have h1 := h.b1
  have h2 := h.b2
  have HM := (show Hid _ from hm)
  clear hm h ha hc hd
  go_enter Tryz.func17, Tryz.ntmps17
  go_wp2_with fail
  refine Calls.mono HM.out ?_
  rintro e w1 ⟨rfl, hst⟩
  have hfin := stepped_pre hb0 h1 h2 hst
  clear hst
  go_wp2
  go_ret
  exact ⟨rfl, hfin⟩

set_option maxHeartbeats 1000000 in
theorem step_disk12 (base base2 WB N n : Nat) (qs : List Pl) (F : Nat → Nat → Prop) (dV sV : Value) (a b c d e0 : Int) (s : ByteArray) (w : World) (h : Wd w base base2 WB N n qs F dV sV) (hn : n < 800000) (hN : N < 1000000) (hs : s.size ≤ 2000000) (ha : fits a) (hc : fits c) (hd : fits d) :
    Calls Tryz.prog 17 #[.pointer (some ⟨WB, 0, none⟩), .agg #[.int .i64 12, .int .i64 a, .int .i64 b, .int .i64 c, .int .i64 d, .int .i64 e0, .string s]] w fun e w' => e = .returned (.bool true) ∧ Stepped w w' base base2 WB N n := by
  have hb0 : Below w.heap.size w (w.alloc (Obj.cells #[.int .i64 12, .int .i64 a, .int .i64 b, .int .i64 c, .int .i64 d, .int .i64 e0, .string s] 56)) := (Below.refl _ _).alloc (Nat.le_refl _) _
  have hm := disks_off base base2 WB N n qs F dV sV a b c d e0 s _ (h.down hb0) hn hN hs ha
  have h1 := h.b1
  have h2 := h.b2
  have HM := (show Hid _ from hm)
  clear hm h ha hc hd
  go_enter Tryz.func17, Tryz.ntmps17
  go_wp2_with fail
  refine Calls.mono HM.out ?_
  rintro e w1 ⟨rfl, hst⟩
  have hfin := stepped_pre hb0 h1 h2 hst
  clear hst
  go_wp2
  go_ret
  exact ⟨rfl, hfin⟩

theorem step_disk : StepD := by
  intro base base2 WB N n qs F dV sV k a b c d e0 s w h1 h2 h hn hN hs ha hc hd
  have hk : k = 4 ∨ k = 5 ∨ k = 6 ∨ k = 7 ∨ k = 8 ∨ k = 9 ∨ k = 10 ∨ k = 11 ∨ k = 12 := by omega
  rcases hk with rfl | rfl | rfl | rfl | rfl | rfl | rfl | rfl | rfl
  · exact step_disk4 base base2 WB N n qs F dV sV a b c d e0 s w h hn hN hs ha hc hd
  · exact step_disk5 base base2 WB N n qs F dV sV a b c d e0 s w h hn hN hs ha hc hd
  · exact step_disk6 base base2 WB N n qs F dV sV a b c d e0 s w h hn hN hs ha hc hd
  · exact step_disk7 base base2 WB N n qs F dV sV a b c d e0 s w h hn hN hs ha hc hd
  · exact step_disk8 base base2 WB N n qs F dV sV a b c d e0 s w h hn hN hs ha hc hd
  · exact step_disk9 base base2 WB N n qs F dV sV a b c d e0 s w h hn hN hs ha hc hd
  · exact step_disk10 base base2 WB N n qs F dV sV a b c d e0 s w h hn hN hs ha hc hd
  · exact step_disk11 base base2 WB N n qs F dV sV a b c d e0 s w h hn hN hs ha hc hd
  · exact step_disk12 base base2 WB N n qs F dV sV a b c d e0 s w h hn hN hs ha hc hd
end Go.Proofs.YtloaefcgcniacaaGreatDoor
