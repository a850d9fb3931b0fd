import Derived.Test.YtloaefcgcniacaaGreatDoorOd
import Derived.Deep.RegionHeld3
namespace Go.Proofs.YtloaefcgcniacaaGreatDoor
open Go.RowKit
set_option linter.unusedVariables false

theorem lent_rd {w : World} {g : Nat} {s : ByteArray} (h : Blk w g (lentL s)) : Rd w g 0 (sbytes s) := by
  have h1 := h.rd.take s.size
  have e : (lentL s).take s.size = sbytes s := by
    unfold lentL
    rw [List.take_append_of_le_length (by rw [sbytes_length]; exact Nat.le_refl _), List.take_of_length_le (by rw [sbytes_length]; exact Nat.le_refl _)]
  rw [e] at h1
  exact h1

theorem run_full (w : World) (p : Option Addr) (n : Nat) (l : List Nat) (h : FullB w p n l) : (convert 66 9 (.slice p n n)).run Tryz.prog w = .ok (.string (bstr l)) w := by
  rcases h with ⟨rfl, rfl, rfl⟩ | ⟨g, rfl, hn, hB⟩
  · exact run_convert_bytes_nil (P := Tryz.prog) w 66 5 Tryz.underlying66 Tryz.underlying5 0 0 9 Tryz.underlying9
  · exact run_str w g 0 n n l hn.symm hB.rd

/-- What Open of these bytes answers. -/
def OpenAs (f : Nat) (key : Int) (s : ByteArray) (k i ep sq code : Int) (n : Nat) (L : List Nat) : Prop :=
  ∀ (g cap : Nat) (W : World), s.size ≤ cap → Rd W g 0 (sbytes s) → g < W.heap.size →
    Calls Tryz.prog f #[.int .i64 key, .slice (some ⟨g, 0, none⟩) s.size cap] W fun e W' => ∃ p, e = .returned (.tuple #[.agg #[.int .i64 k, .int .i64 i, .int .i64 ep, .int .i64 sq, .slice p n n], .int .i64 code]) ∧ FullB W' p n L ∧ (∀ a, p = some a → W.heap.size ≤ a.block) ∧ Below W.heap.size W W'

set_option maxRecDepth 100000 in
set_option maxHeartbeats 2000000 in
theorem frames_open_gen (base WB N : Nat) (key b c d e0 : Int) (s : ByteArray) (w : World) (hN : N < 1000000) (hB : Books w base WB N) (hs : s.size ≤ 2000000)
    (k i ep sq code : Int) (n : Nat) (L : List Nat) (hn : n ≤ 300) (hLt : ∀ x ∈ L, x < 256) (SO : OpenAs 88 key s k i ep sq code n L) (RO : OpenAs 89 key s k i ep sq code n L) :
    Calls Tryz.prog 38 #[.pointer (some ⟨WB, 0, none⟩), .agg #[.int .i64 3, .int .i64 key, .int .i64 b, .int .i64 c, .int .i64 d, .int .i64 e0, .string s]] w fun e w' => e = .returned (.bool true) ∧ Books w' base WB (N + 1) ∧ Below base w w' ∧ Keeps w w' := by
  have hwb := hB.wb
  have HS := (show Hid _ from SO)
  have HR := (show Hid _ from RO)
  clear SO RO
  have hbox := box_new w 3 key b c d e0 s
  have hbx : Below w.heap.size w (w.alloc (Obj.cells #[.int .i64 3, .int .i64 key, .int .i64 b, .int .i64 c, .int .i64 d, .int .i64 e0, .string s] 56)) := (Below.refl _ _).alloc (Nat.le_refl _) _
  go_enter Tryz.func38, Tryz.ntmps38
  go_wp2_with fail
  refine (lent_any s _ (by omega)).mono ?_
  rintro e w1 ⟨rfl, hL1, hb1⟩
  simp only [World.size_alloc] at hL1 hb1 ⊢
  have hz1 := hb1.size
  simp only [World.size_alloc] at hz1
  have hbox1 := hbox.below hb1 (by omega)
  have hb01 : Below w.heap.size w w1 := hbx.trans (hb1.mono (by omega))
  obtain ⟨c0, c1, c2, c3, c4, c5, c6⟩ := hbox1.cells
  have hlt1 := hL1.lt
  go_wp2_with fail
  refine (HS.out (w.heap.size + 1) _ w1 (by omega) (lent_rd hL1) hlt1).mono ?_
  rintro e w2 ⟨p1, rfl, hF1, hp1, hb2⟩
  have hz2 := hb2.size
  have hbox2 := hbox1.below hb2 (by omega)
  have hL2 := hL1.below hb2 hlt1
  clear c0 c1 c2 c3 c4 c5 c6
  have hlz : w.heap.size < w2.heap.size := by omega
  have hf3 : FrB (w2.alloc (Obj.cells #[Value.int IntKind.i64 k, Value.int IntKind.i64 i, Value.int IntKind.i64 ep, Value.int IntKind.i64 sq, Value.slice p1 n n] 75)) w2.heap.size k i ep sq (.slice p1 n n) := heap_alloc_new w2 _
  have hb3 : Below w2.heap.size w2 (w2.alloc (Obj.cells #[Value.int IntKind.i64 k, Value.int IntKind.i64 i, Value.int IntKind.i64 ep, Value.int IntKind.i64 sq, Value.slice p1 n n] 75)) := (Below.refl _ _).alloc (Nat.le_refl _) _
  have hz3 : (w2.alloc (Obj.cells #[Value.int IntKind.i64 k, Value.int IntKind.i64 i, Value.int IntKind.i64 ep, Value.int IntKind.i64 sq, Value.slice p1 n n] 75)).heap.size = w2.heap.size + 1 := by simp
  have hF3 := hF1.below hb3
  have hbox3 := hbox2.below hb3 hlz
  obtain ⟨d0, d1, d2, d3, d4, d5, d6⟩ := hbox3.cells
  have hby := run_bytes s (w2.alloc (Obj.cells #[Value.int IntKind.i64 k, Value.int IntKind.i64 i, Value.int IntKind.i64 ep, Value.int IntKind.i64 sq, Value.slice p1 n n] 75))
  have hRd4 := bytes_rd s (w2.alloc (Obj.cells #[Value.int IntKind.i64 k, Value.int IntKind.i64 i, Value.int IntKind.i64 ep, Value.int IntKind.i64 sq, Value.slice p1 n n] 75))
  have hb4 := bytes_below s (w2.alloc (Obj.cells #[Value.int IntKind.i64 k, Value.int IntKind.i64 i, Value.int IntKind.i64 ep, Value.int IntKind.i64 sq, Value.slice p1 n n] 75))
  have hcp := grownCap_ge (w2.alloc (Obj.cells #[Value.int IntKind.i64 k, Value.int IntKind.i64 i, Value.int IntKind.i64 ep, Value.int IntKind.i64 sq, Value.slice p1 n n] 75)) s.size 0 5
  have hw4 : (Lib.bytesWorld (w2.alloc (Obj.cells #[Value.int IntKind.i64 k, Value.int IntKind.i64 i, Value.int IntKind.i64 ep, Value.int IntKind.i64 sq, Value.slice p1 n n] 75)) 5 s).heap.size = (w2.alloc (Obj.cells #[Value.int IntKind.i64 k, Value.int IntKind.i64 i, Value.int IntKind.i64 ep, Value.int IntKind.i64 sq, Value.slice p1 n n] 75)).heap.size + 1 := Lib.bytesWorld_size _ _ _
  have HZ3 := (show Hid _ from hz3)
  clear hz3
  generalize Lib.bytesWorld (w2.alloc (Obj.cells #[Value.int IntKind.i64 k, Value.int IntKind.i64 i, Value.int IntKind.i64 ep, Value.int IntKind.i64 sq, Value.slice p1 n n] 75)) 5 s = W4 at *
  generalize grownCap (w2.alloc (Obj.cells #[Value.int IntKind.i64 k, Value.int IntKind.i64 i, Value.int IntKind.i64 ep, Value.int IntKind.i64 sq, Value.slice p1 n n] 75)) s.size 0 5 = cp4 at *
  rw [HZ3.out] at hw4
  have HW4 := (show Hid _ from hw4)
  clear hw4
  go_wp2_with fail
  clear d0 d1 d2 d3 d4 d5 d6 hby
  have hF4 := hF3.below hb4
  rw [HZ3.out] at hRd4 hb4
  have hz4 := HW4.out
  refine (HR.out (w2.heap.size + 1) cp4 W4 hcp hRd4 (by omega)).mono ?_
  rintro e w5 ⟨p2, rfl, hF2, hp2, hb5⟩
  have hz5 := hb5.size
  have hF5 := hF4.below hb5
  have hb24 : Below w2.heap.size w2 W4 := hb3.trans (hb4.mono (by omega))
  have hb35 : Below (w2.heap.size + 1) (w2.alloc (Obj.cells #[Value.int IntKind.i64 k, Value.int IntKind.i64 i, Value.int IntKind.i64 ep, Value.int IntKind.i64 sq, Value.slice p1 n n] 75)) w5 := hb4.trans (hb5.mono (by omega))
  have hf5 : FrB w5 w2.heap.size k i ep sq (.slice p1 n n) := (hb35.block _ (by omega)).trans hf3
  have hb25 : Below w2.heap.size w2 w5 := hb24.trans (hb5.mono (by omega))
  have hL5 := hL2.below hb25 (by omega)
  have hbox5 := hbox2.below hb25 hlz
  have hb05 : Below w.heap.size w w5 := hb01.trans ((hb2.mono (by omega)).trans (hb25.mono (by omega)))
  clear hf3 hb3 hb4 hb5 hb35 hb24 hb25 hRd4 HW4 hbox3 hF3 hF4 hF1
  have hl5 : w2.heap.size < w5.heap.size := by omega
  have hb6 : Below w5.heap.size w5 (w5.alloc (Obj.cells #[Value.int IntKind.i64 k, Value.int IntKind.i64 i, Value.int IntKind.i64 ep, Value.int IntKind.i64 sq, Value.slice p2 n n] 75)) := (Below.refl _ _).alloc (Nat.le_refl _) _
  have hf6 : FrB (w5.alloc (Obj.cells #[Value.int IntKind.i64 k, Value.int IntKind.i64 i, Value.int IntKind.i64 ep, Value.int IntKind.i64 sq, Value.slice p2 n n] 75)) w2.heap.size k i ep sq (.slice p1 n n) := (hb6.block _ hl5).trans hf5
  have hF6 := hF5.below hb6
  have hG6 := hF2.below hb6
  have hs1 := run_full _ p1 n L hF6
  have hs2 := run_full _ p2 n L hG6
  obtain ⟨x0, x1, x2, x3, x4, xf⟩ := hf6.cells
  go_wp2_with (go_at_call 42; refine (num_any _ _).mono ?_; rintro e w' ⟨rfl, hw'⟩; have hw2 := hw'.symm; clear hw'; subst hw2)
  have hL6 := hL5.below hb6 (by omega)
  have hbox6 := hbox5.below hb6 (by omega)
  have hb06 : Below w.heap.size w (w5.alloc (Obj.cells #[Value.int IntKind.i64 k, Value.int IntKind.i64 i, Value.int IntKind.i64 ep, Value.int IntKind.i64 sq, Value.slice p2 n n] 75)) := hb05.trans (hb6.mono (by omega))
  clear hb6 hf5 hL5 hbox5 hb05 hL2 hL1 hbox hbox1 hbox2 hbx hb01 hb1 hb2 HS HR x0 x1 x2 x3 xf hs1 hs2 hG6 hF5 hF2
  generalize (w5.alloc (Obj.cells #[Value.int IntKind.i64 k, Value.int IntKind.i64 i, Value.int IntKind.i64 ep, Value.int IntKind.i64 sq, Value.slice p2 n n] 75)) = w6 at *
  have hLd : Blk w6.drew (w.heap.size + 1) (lentL s) := hL6
  have hb0d : Below w.heap.size w w6.drew := hb06.trans ((Below.refl _ _).drew)
  have hbd : Box w6.drew w.heap.size 3 key b c d e0 s := hbox6
  have hzd : w.heap.size + 1 < w6.drew.heap.size := hLd.lt
  have hfd : FrB w6.drew w2.heap.size k i ep sq (.slice p1 n n) := hf6
  have HFD := (show Hid _ from hfd)
  have hFd : FullB w6.drew p1 n L := hF6
  have HFF := (show Hid _ from hFd)
  have HLT := (show Hid _ from hLt)
  have HP1 := (show Hid _ from hp1)
  clear hfd hf6 hF6 hFd hLt hp1 hp2
  go_region_held3 (fun w' => w'.cell? ⟨w2.heap.size, 4, none⟩ = some (.slice p1 n n)) (first | (simp [x4]; done) | (simp [z4]; done))
    (first
      | (go_at_call 84; refine (keep_any2 base WB N n p1 L w _ hN hn hB hb0d HFF.out HLT.out (by intro a ha; have := HP1.out a ha; omega) (w.heap.size + 1) (by omega) hzd (by intro a ha; have := HP1.out a ha; omega) ⟨_, _, hLd⟩).mono ?_; rintro e w7 ⟨rfl, hB7, hb7, hk7, hx7⟩; obtain ⟨z0, z1, z2, z3, z4, zf⟩ := (FrB.keep HFD.out hk7).cells))
  clear z0 z1 z2 z3 z4 zf x4
  have hL7 : Blk w7 (w.heap.size + 1) (lentL s) := hx7.trans hLd
  have hbox7 := hbd.keep hk7
  obtain ⟨f0, f1, f2, f3, f4, f5, f6⟩ := hbox7.cells
  go_wp2_with fail
  clear f0 f1 f2 f3 f4 f5 f6
  refine (back_any (w.heap.size + 1) s w7 (by omega) hL7).mono ?_
  rintro e w8 ⟨rfl, hg8, hz8, l8, hL8⟩
  have hB8 : Books w8 base WB (N + 1) := hB7 w8 (fun k hk => by
    by_cases hkz : k < w7.heap.size
    · exact hg8.block k hkz (fun e => hk (by cases e; rfl))
    · rw [Array.getElem?_eq_none (by omega), Array.getElem?_eq_none (by omega)])
  go_wp2
  go_ret
  refine ⟨ret_bool (by simp), hB8, (hb0d.mono (by omega)).trans (hb7.trans ((Below.refl _ _).grown hg8 (by have := hb7.size; omega) (fun k e => by cases e; omega))), ((Keeps.of_below hb0d).trans hk7).trans ?_⟩
  intro k cur t fz t5 t68 t47 h1
  have hkz : k < w7.heap.size := (Array.getElem?_eq_some_iff.1 h1).1
  rw [hg8.block k hkz ?_, h1]
  intro e
  cases e
  unfold Blk at hL7
  rw [h1] at hL7
  cases hL7
  exact t5 rfl
end Go.Proofs.YtloaefcgcniacaaGreatDoor
