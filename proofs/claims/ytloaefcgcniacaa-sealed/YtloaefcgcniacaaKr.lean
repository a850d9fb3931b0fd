import Derived.Test.YtloaefcgcniacaaKp
namespace Go.Proofs.Ytloaefcgcniacaa
open Go.RowKit
set_option linter.unusedVariables false

theorem sopen_seal (key : Int) (g off cap D I E S : Nat) (body : List Nat) (w : World) (hk0 : 0 ≤ key) (hk : key ≤ 4294967295) (hcap : 58 ≤ cap) (hg : g < w.heap.size)
    (hn : body.length = 40) (hl : ∀ x ∈ body, x < 256) (h1 : 1 ≤ D) (h3 : D ≤ 3) (hI : I ≤ 255) (hE : E ≤ 4294967295) (hS : S ≤ 4294967295) (hr : Rd w g off (Lbx.sealB key.toNat D I E S body)) :
    Calls Try.prog 8 #[.int .i64 key, .slice (some ⟨g, off, none⟩) 58 cap] w fun e w' =>
      ∃ g', e = .returned (.tuple #[.agg #[.int .i64 (D : Int), .int .i64 (I : Int), .int .i64 (E : Int), .int .i64 (S : Int), .slice (some ⟨g', 0, none⟩) 40 40], .int .i64 0]) ∧
        w.heap.size ≤ g' ∧ Blk w' g' body ∧ Below w.heap.size w w' := by
  have h := sopen_ok key g off cap _ w hk0 hk hcap (Lbx.sealB_lt key.toNat D I E S body (by omega) (by omega) hl) hr hg (sealB_opens _ _ _ _ _ _ hn h1 h3)
  rw [sealB_0, sealB_1, sealB_2 _ _ _ _ _ _ (by omega), sealB_6 _ _ _ _ _ _ (by omega), sealB_body _ _ _ _ _ _ hn, veil_veil] at h
  exact h

set_option maxHeartbeats 1000000 in
theorem sealed_any (key : Int) (D I E S g off cap : Nat) (body : List Nat) (w : World) (hk0 : 0 ≤ key) (hk : key ≤ 4294967295) (h1 : 1 ≤ D) (h3 : D ≤ 3) (hI : I ≤ 255) (hE : E ≤ 4294967295) (hS : S ≤ 4294967295)
    (hn : body.length = 40) (hl : ∀ x ∈ body, x < 256) (hr : Rd w g off body) :
    Calls Try.prog 6 #[.int .i64 key, .agg #[.int .i64 (D : Int), .int .i64 (I : Int), .int .i64 (E : Int), .int .i64 (S : Int), .slice (some ⟨g, off, none⟩) 40 cap]] w fun e w' =>
      ∃ g', e = .returned (.tuple #[.slice (some ⟨g', 0, none⟩) 58 58, .bool true]) ∧ w.heap.size ≤ g' ∧ Blk w' g' (Lbx.sealB key.toNat D I E S body) ∧ Below w.heap.size w w' := by
  have HN : Hid (body.length = 40) := hn
  clear hn
  have hg : g < w.heap.size := hr.lt (by rw [HN.out]; omega)
  have hb0 : Below w.heap.size w (w.alloc (Obj.cells #[.int .i64 (D : Int), .int .i64 (I : Int), .int .i64 (E : Int), .int .i64 (S : Int), .slice (some ⟨g, off, none⟩) 40 cap] 24)) := (Below.refl _ _).alloc (Nat.le_refl _) _
  go_enter Try.func6, Try.ntmps6
  go_wp2_with fail
  refine (sseal_ok _ _ _ _ _ _ _ _ body _ (by omega) (by omega) (by omega) (by omega) (by omega) (by omega) (by omega) (by omega) (by omega) (by omega) HN.out hl (hr.below hb0 hg)).mono ?_
  rintro e w1 ⟨g1, rfl, hg1, hB1, hb1⟩
  simp only [Int.toNat_natCast] at hB1
  simp only [World.size_alloc] at hg1
  have hb1' : Below w.heap.size w w1 := hb0.trans (hb1.mono (by simp))
  have hg1z : g1 < w1.heap.size := hB1.lt
  go_wp2_with fail
  refine (sopen_seal key g1 0 58 D I E S body _ (by omega) (by omega) (by omega) hg1z HN.out hl h1 h3 hI hE hS hB1.rd).mono ?_
  rintro e w2 ⟨g2, rfl, hg2, hB2, hb2⟩
  have hz1 : w.heap.size < w1.heap.size := by omega
  have hz2 : w1.heap.size ≤ w2.heap.size := hb2.size
  have hg2z : g2 < w2.heap.size := hB2.lt
  have hz12 : w.heap.size < w2.heap.size := by omega
  obtain ⟨hcc, _⟩ := bcell (hb1.trans (hb2.mono (by simp; omega)))
  have f0 : w2.cell? ⟨w.heap.size, 0, none⟩ = some (.int .i64 (D : Int)) := by rw [hcc _ _ (by simp)]; simp
  have f1 : w2.cell? ⟨w.heap.size, 1, none⟩ = some (.int .i64 (I : Int)) := by rw [hcc _ _ (by simp)]; simp
  have f2 : w2.cell? ⟨w.heap.size, 2, none⟩ = some (.int .i64 (E : Int)) := by rw [hcc _ _ (by simp)]; simp
  have f3 : w2.cell? ⟨w.heap.size, 3, none⟩ = some (.int .i64 (S : Int)) := by rw [hcc _ _ (by simp)]; simp
  have f4 : w2.cell? ⟨w.heap.size, 4, none⟩ = some (.slice (some ⟨g, off, none⟩) 40 cap) := by rw [hcc _ _ (by simp)]; simp
  have hbw2 : Below w.heap.size w w2 := hb1'.trans (hb2.mono (by omega))
  have hs1 : ∀ (o : Obj) (q : Nat), (convert 22 9 (.slice (some ⟨g2, 0, none⟩) 40 40)).run Try.prog ((w2.alloc o).drewN q) = .ok (.string (bstr body)) ((w2.alloc o).drewN q) := fun o q =>
    run_str _ g2 0 40 40 body HN.out ((hB2.alloc o).rd.drewN q)
  have hs2 : ∀ (o : Obj) (q : Nat), (convert 22 9 (.slice (some ⟨g, off, none⟩) 40 cap)).run Try.prog ((w2.alloc o).drewN q) = .ok (.string (bstr body)) ((w2.alloc o).drewN q) := fun o q =>
    run_str _ g off 40 cap body HN.out ((hr.below (hbw2.trans ((Below.refl w2.heap.size w2).alloc (Nat.le_refl _) o |>.mono (by omega))) hg).drewN q)
  have hB1' : Blk w2 g1 (Lbx.sealB key.toNat D I E S body) := hB1.below hb2 hg1z
  clear hcc hb1 hb2 hB1 hr hl
  go_wp2_with fail
  go_quiet (fail)
  go_wp2
  go_ret2
  exact ⟨g1, rfl, by omega, Blk.drewN (hB1'.alloc _) nq, below_drewN (hbw2.trans ((Below.refl w2.heap.size w2).alloc (Nat.le_refl _) _ |>.mono (by omega))) nq⟩
end Go.Proofs.Ytloaefcgcniacaa
