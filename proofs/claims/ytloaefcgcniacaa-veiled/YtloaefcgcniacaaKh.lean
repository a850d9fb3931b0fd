import Derived.Test.YtloaefcgcniacaaKg
namespace Go.Proofs.Ytloaefcgcniacaa
open Go.RowKit

def zeros58 : Array Value := blkOf (List.replicate 58 0)

theorem run_make_58 (w : World) :
    (Instr.makeSlice 22 (.int .i64 0) (.int .i64 58)).run Try.prog w = .ok (.slice (some ⟨w.heap.size, 0, none⟩) 0 58) (w.alloc (.cells zeros58 5)) := by
  obtain ⟨i0, hi, hz0, hz1, hz2⟩ := info_parts info5
  have h := run_make (P := Try.prog) w 22 5 i0 _ Try.underlying22 hi hz0 .i64 .i64 0 58 (by omega) (by omega) (by rw [hz2]; omega) (by omega)
  have e0 : (0 : Int).toNat = 0 := rfl
  have e1 : (58 : Int).toNat = 58 := rfl
  rw [hz1, Nat.mul_one, e0, e1, made_bytes] at h
  exact h

theorem own_new (w : World) : OwnB (w.alloc (.cells zeros58 5)) w.heap.size 58 [] :=
  ⟨zeros58, blk_new w (List.replicate 58 0), by simp [zeros58, blkOf], by unfold maxLen; omega, by simp, by simp⟩

set_option maxHeartbeats 1000000 in
theorem fseal_any (key kd ix ep sq : Int) (g off cap : Nat) (body : List Nat) (w : World) (hk0 : 0 ≤ key) (hk : key < 4294967296) (he0 : 0 ≤ ep) (he : ep < 4294967296) (hs0 : 0 ≤ sq) (hs : sq < 4294967296)
    (hd0 : 0 ≤ kd) (hd : kd < 256) (hi0 : 0 ≤ ix) (hi : ix < 256) (hn : body.length = 40) (hl : ∀ x ∈ body, x < 256) (hr : Rd w g off body) :
    Calls Try.prog 16 #[.int .u32 key, .agg #[.int .i64 kd, .int .i64 ix, .int .i64 ep, .int .i64 sq, .slice (some ⟨g, off, none⟩) 40 cap]] w fun e w' =>
      ∃ g', e = .returned (.slice (some ⟨g', 0, none⟩) 58 58) ∧ w.heap.size ≤ g' ∧ Blk w' g' (Lbx.sealB key.toNat kd.toNat ix.toNat ep.toNat sq.toNat body) ∧ Below w.heap.size w w' := by
  obtain ⟨K, rfl⟩ := Int.eq_ofNat_of_zero_le hk0
  obtain ⟨E, rfl⟩ := Int.eq_ofNat_of_zero_le he0
  obtain ⟨S, rfl⟩ := Int.eq_ofNat_of_zero_le hs0
  obtain ⟨D, rfl⟩ := Int.eq_ofNat_of_zero_le hd0
  obtain ⟨I, rfl⟩ := Int.eq_ofNat_of_zero_le hi0
  simp only [Int.toNat_natCast]
  have HN : Hid (body.length = 40) := hn
  clear hn
  have hg : g < w.heap.size := hr.lt (by rw [HN.out]; omega)
  have hmk := run_make_58
  go_enter Try.func16, Try.ntmps16
  go_wp2
  go_quiet (fail)
  have hsz : ((w.alloc (Obj.cells #[Value.int IntKind.i64 ↑D, Value.int IntKind.i64 ↑I, Value.int IntKind.i64 ↑E, Value.int IntKind.i64 ↑S, Value.slice (some { block := g, off := off }) 40 cap] 24)).drewN nq).heap.size = w.heap.size + 1 := by simp
  have hbel : Below w.heap.size w ((w.alloc (Obj.cells #[Value.int IntKind.i64 ↑D, Value.int IntKind.i64 ↑I, Value.int IntKind.i64 ↑E, Value.int IntKind.i64 ↑S, Value.slice (some { block := g, off := off }) 40 cap] 24)).drewN nq) :=
    below_drewN ((Below.refl _ _).alloc (Nat.le_refl _) _) nq
  have c0 : ((w.alloc (Obj.cells #[Value.int IntKind.i64 ↑D, Value.int IntKind.i64 ↑I, Value.int IntKind.i64 ↑E, Value.int IntKind.i64 ↑S, Value.slice (some { block := g, off := off }) 40 cap] 24)).drewN nq).cell? ⟨w.heap.size, 0, none⟩ = some (Value.int IntKind.i64 ↑D) := by simp
  have c1 : ((w.alloc (Obj.cells #[Value.int IntKind.i64 ↑D, Value.int IntKind.i64 ↑I, Value.int IntKind.i64 ↑E, Value.int IntKind.i64 ↑S, Value.slice (some { block := g, off := off }) 40 cap] 24)).drewN nq).cell? ⟨w.heap.size, 1, none⟩ = some (Value.int IntKind.i64 ↑I) := by simp
  have c4 : ((w.alloc (Obj.cells #[Value.int IntKind.i64 ↑D, Value.int IntKind.i64 ↑I, Value.int IntKind.i64 ↑E, Value.int IntKind.i64 ↑S, Value.slice (some { block := g, off := off }) 40 cap] 24)).drewN nq).cell? ⟨w.heap.size, 4, none⟩ = some (Value.slice (some { block := g, off := off }) 40 cap) := by simp
  generalize ((w.alloc (Obj.cells #[Value.int IntKind.i64 ↑D, Value.int IntKind.i64 ↑I, Value.int IntKind.i64 ↑E, Value.int IntKind.i64 ↑S, Value.slice (some { block := g, off := off }) 40 cap] 24)).drewN nq) = W at *
  have hown : OwnB (W.alloc (.cells zeros58 5)) (w.heap.size + 1) 58 [] := by
    have := own_new W
    rwa [hsz] at this
  go_wp2_with (at_builtin; go_loud (refine wpList_append_bytes rfl (.tmp 15) (.tmp 22) rfl (w.heap.size + 1) 58 0 [] (hown.alloc _) rfl ⟨w.heap.size + 1 + 1, 0, none⟩ 2 2 [D, I] rfl rfl rfl ?hnews (by omega) ?_))
  case hnews =>
    intro j hj
    match j, hj with
    | 0, _ => simp [Addr.add_lit, World.cell?_alloc_at, hsz]
    | 1, _ => simp [Addr.add_lit, World.cell?_alloc_at, hsz]
  intro g1 k1 w1 hO1 hw1
  obtain ⟨rfl, rfl⟩ := hw1.room (by omega)
  have hb1 : Below (w.heap.size + 1) W w1 := ((Below.refl _ _).alloc (by omega) _).trans (((Below.refl _ _).alloc (by simp; omega) _).trans (hw1.below (by simp; omega) (Nat.le_refl _)))
  have hz1 : w.heap.size + 1 < w1.heap.size := hO1.lt
  clear hw1 hown c0 c1 hmk
  go_wp2_with fail
  refine (appendNumber_any _ _ 2 _ [D, I] _ (by omega) (by omega) hO1 rfl (by omega)).mono ?_
  rintro e w2 ⟨g2, k2, rfl, hO2, hw2⟩
  obtain ⟨rfl, rfl⟩ := hw2.room (by omega)
  go_wp2_with fail
  refine (appendNumber_any _ _ 6 _ _ _ (by omega) (by omega) hO2 rfl (by omega)).mono ?_
  rintro e w3 ⟨g3, k3, rfl, hO3, hw3⟩
  obtain ⟨rfl, rfl⟩ := hw3.room (by omega)
  have hb3 : Below (w.heap.size + 1) W w3 := hb1.trans ((hw2.below (by omega) (Nat.le_refl _)).trans (hw3.below (by have := hw2.1.size; omega) (Nat.le_refl _)))
  have hr3 : Rd w3 g off body := hr.below (hbel.trans (hb3.mono (by omega))) hg
  have hc4 : w3.cell? ⟨w.heap.size, 4, none⟩ = some (Value.slice (some { block := g, off := off }) 40 cap) := (hb3.cell (p := ⟨w.heap.size, 4, none⟩) (by simp)).trans c4
  have hz3 : w.heap.size + 1 < w3.heap.size := hO3.lt
  simp only [Int.toNat_natCast] at hO3
  clear hw2 hw3 hO2 hO1 hz1 hb1 c4
  go_wp2_with fail
  refine (mask_any _ _ _ _ _ _ _ body _ (by omega) (by omega) (by omega) (by omega) (by omega) (by omega) HN.out (by omega) (by omega) hl hr3).mono ?_
  rintro e w4 ⟨g4, rfl, hg4, hB4, hw4⟩
  simp only [Int.toNat_natCast] at hB4
  have hO4 := hO3.below hw4 (by omega)
  have hb4 : Below (w.heap.size + 1) W w4 := hb3.trans (hw4.mono (by omega))
  clear hr3 hc4
  go_wp2_with (at_builtin; go_loud (refine wpList_append_bytes rfl (.tmp 30) (.tmp 36) rfl (w.heap.size + 1) 58 10 _ hO4 rfl ⟨g4, 0, none⟩ 40 40 (Lbx.veil K E S body) (by rw [Lbx.veil_length]; exact HN.out) rfl rfl ?hnews (by omega) ?_))
  case hnews =>
    intro j hj
    rw [Addr.add_lit, Nat.zero_add]
    exact hB4.cell j (by rw [Lbx.veil_length, HN.out]; exact hj)
  intro g5 k5 w5 hO5 hw5
  obtain ⟨rfl, rfl⟩ := hw5.room (by omega)
  have hO5' : OwnB w5 (w.heap.size + 1) 58 (Lbx.headB K D I E S body) := by
    simpa [Lbx.headB] using hO5
  have hz4 : w.heap.size + 1 < w4.heap.size := hO4.lt
  have hb5 : Below (w.heap.size + 1) W w5 := hb4.trans (hw5.below (by omega) (Nat.le_refl _))
  have hz5 : w.heap.size + 1 < w5.heap.size := hO5'.lt
  clear hw5 hO5 hO4 hO3 hB4 hw4
  go_wp2_with fail
  refine (appendTag_any _ _ 50 _ (Lbx.headB K D I E S body) _ (by omega) (by omega) hO5' (by rw [Lbx.headB_length, HN.out]) (by omega) (Lbx.headB_lt _ _ _ _ _ _ (by omega) (by omega) hl)).mono ?_
  rintro e w6 ⟨g6, k6, rfl, hO6, hw6⟩
  obtain ⟨rfl, rfl⟩ := hw6.room (by omega)
  simp only [Int.toNat_natCast] at hO6
  have hb6 : Below w.heap.size w w6 := hbel.trans ((hb5.trans (hw6.below (by omega) (Nat.le_refl _))).mono (by omega))
  clear hO5'
  go_wp2
  go_ret
  refine ⟨w.heap.size + 1, rfl, by omega, ?_, hb6⟩
  refine OwnB.blk (cap := 58) ?_ (by rw [Lbx.sealB_length, HN.out])
  simpa only [Lbx.sealB] using hO6
end Go.Proofs.Ytloaefcgcniacaa
