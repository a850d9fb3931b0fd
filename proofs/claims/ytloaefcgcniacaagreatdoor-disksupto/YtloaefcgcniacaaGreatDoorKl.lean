import Derived.Test.YtloaefcgcniacaaGreatDoorKk
namespace Go.Proofs.YtloaefcgcniacaaGreatDoor
open Go.RowKit
set_option linter.unusedVariables false

set_option maxHeartbeats 400000 in
theorem sstream_ok (key ep sq n : Int) (w : World) (hk0 : 0 ≤ key) (hk : key ≤ 4294967295) (he0 : 0 ≤ ep) (he : ep ≤ 4294967295) (hs0 : 0 ≤ sq) (hs : sq ≤ 4294967295)
    (hn0 : 0 ≤ n) (hn : n ≤ 200) :
    Calls Tryz.prog 82 #[.int .i64 key, .int .i64 ep, .int .i64 sq, .int .i64 n] w fun e w' =>
      ∃ g, e = .returned (.tuple #[.slice (some ⟨g, 0, none⟩) n.toNat n.toNat, .int .i64 0]) ∧ w.heap.size ≤ g ∧ Blk w' g (Lbx.strm key.toNat ep.toNat sq.toNat n.toNat) ∧ Below w.heap.size w w' := by
  go_enter Tryz.func82, Tryz.ntmps82
  go_wp2_with (first | (go_at_call 68; refine (isNumber_yes _ _ (by omega) (by omega)).mono ?_; rintro e w' ⟨rfl, rfl⟩) | (go_at_call 138; refine (stream_any _ _ _ _ _ (by omega) (by omega) (by omega) (by omega) (by omega) (by omega) (by omega) (by omega)).mono ?_; rintro e w' ⟨g, rfl, hg, hb, hw⟩))
  go_ret2
  exact ⟨g, rfl, hg, hb, hw⟩

set_option maxHeartbeats 1000000 in
theorem isFrame_yes (kd ix ep sq : Int) (a : Option Addr) (cap : Nat) (w : World) (hd0 : 1 ≤ kd) (hd : kd ≤ 3) (hi0 : 0 ≤ ix) (hi : ix ≤ 255) (he0 : 0 ≤ ep) (he : ep ≤ 4294967295) (hs0 : 0 ≤ sq) (hs : sq ≤ 4294967295) :
    Calls Tryz.prog 139 #[.agg #[.int .i64 kd, .int .i64 ix, .int .i64 ep, .int .i64 sq, .slice a 40 cap]] w fun e w' => e = .returned (.bool true) ∧ Below w.heap.size w w' := by
  go_enter Tryz.func139, Tryz.ntmps139
  go_wp2_with (first | (go_at_call 68; refine (isNumber_yes _ _ (by omega) (by omega)).mono ?_; rintro e w' ⟨rfl, rfl⟩) | (go_at_call 188; refine (isKind_yes _ _ (by omega) (by omega)).mono ?_; rintro e w' ⟨rfl, rfl⟩))
  go_ret
  exact ⟨rfl, (Below.refl _ _).alloc (Nat.le_refl _) _⟩

set_option maxHeartbeats 1000000 in
theorem sseal_ok (key kd ix ep sq : Int) (g off cap : Nat) (body : List Nat) (w : World) (hk0 : 0 ≤ key) (hk : key ≤ 4294967295) (hd0 : 1 ≤ kd) (hd : kd ≤ 3) (hi0 : 0 ≤ ix) (hi : ix ≤ 255) (he0 : 0 ≤ ep) (he : ep ≤ 4294967295) (hs0 : 0 ≤ sq) (hs : sq ≤ 4294967295)
    (hn : body.length = 40) (hl : ∀ x ∈ body, x < 256) (hr : Rd w g off body) :
    Calls Tryz.prog 86 #[.int .i64 key, .agg #[.int .i64 kd, .int .i64 ix, .int .i64 ep, .int .i64 sq, .slice (some ⟨g, off, none⟩) 40 cap]] w fun e w' =>
      ∃ g', e = .returned (.tuple #[.slice (some ⟨g', 0, none⟩) 58 58, .int .i64 0]) ∧ w.heap.size ≤ g' ∧ Blk w' g' (Lbx.sealB key.toNat kd.toNat ix.toNat ep.toNat sq.toNat body) ∧ Below w.heap.size w w' := by
  have HN : Hid (body.length = 40) := hn
  clear hn
  have hg : g < w.heap.size := hr.lt (by rw [HN.out]; omega)
  go_enter Tryz.func86, Tryz.ntmps86
  go_wp2_with (first | (go_at_call 68; refine (isNumber_yes _ _ (by omega) (by omega)).mono ?_; rintro e w' ⟨rfl, rfl⟩))
  refine (isFrame_yes _ _ _ _ _ _ _ (by omega) (by omega) (by omega) (by omega) (by omega) (by omega) (by omega) (by omega)).mono ?_
  rintro e w1 ⟨rfl, hb1⟩
  obtain ⟨hcc, hff⟩ := bcell hb1
  have hb0 : Below w.heap.size w w1 := ((Below.refl _ _).alloc (Nat.le_refl _) _).trans (hb1.mono (by simp))
  have q0 : w1.cell? ⟨w.heap.size, 0, none⟩ = some (.int .i64 kd) := by rw [hcc _ _ (by simp)]; simp
  have q1 : w1.cell? ⟨w.heap.size, 1, none⟩ = some (.int .i64 ix) := by rw [hcc _ _ (by simp)]; simp
  have q2 : w1.cell? ⟨w.heap.size, 2, none⟩ = some (.int .i64 ep) := by rw [hcc _ _ (by simp)]; simp
  have q3 : w1.cell? ⟨w.heap.size, 3, none⟩ = some (.int .i64 sq) := by rw [hcc _ _ (by simp)]; simp
  have q4 : w1.cell? ⟨w.heap.size, 4, none⟩ = some (.slice (some ⟨g, off, none⟩) 40 cap) := by rw [hcc _ _ (by simp)]; simp
  have hz := hb0.size
  clear hcc hff hb1
  go_wp2_with fail
  refine (fseal_any _ _ _ _ _ _ _ _ body _ (by omega) (by omega) (by omega) (by omega) (by omega) (by omega) (by omega) (by omega) (by omega) (by omega) HN.out hl (hr.below hb0 hg)).mono ?_
  rintro e w2 ⟨g2, rfl, hg2, hB2, hw2⟩
  go_wp2
  go_ret2
  exact ⟨g2, rfl, by omega, hB2, hb0.trans (hw2.mono hz)⟩
end Go.Proofs.YtloaefcgcniacaaGreatDoor
