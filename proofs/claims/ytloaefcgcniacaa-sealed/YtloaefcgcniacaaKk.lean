import Derived.Test.YtloaefcgcniacaaKj
import Derived.Deep.RegionHeld3
namespace Go.Proofs.Ytloaefcgcniacaa
open Go.RowKit
set_option linter.unusedVariables false

theorem wrap_small (n : Nat) (h : n < 4294967296) : IntKind.i64.wrap (n : Int) = (n : Int) := by
  rw [IntKind.wrap_i64]
  omega

def val4 (l : List Nat) (k : Nat) : Nat := l[k]?.getD 0 * 16777216 + l[k + 1]?.getD 0 * 65536 + l[k + 2]?.getD 0 * 256 + l[k + 3]?.getD 0

theorem number_at (g off n cap k : Nat) (l : List Nat) (w : World) (hr : Rd w g off l) (hk : k + 4 ≤ l.length) (hl : ∀ x ∈ l, x < 256) (hn : 4 ≤ n) (hcap : n ≤ 1099511627776) :
    Calls Try.prog 19 #[.slice (some ⟨g, off + k, none⟩) n cap] w fun e w' => e = .returned (.int .u32 ((val4 l k : Nat) : Int)) ∧ ∃ q, w' = w.drewN q :=
  number_any g (off + k) n cap _ _ _ _ w hn hcap (Lbx.get_lt l 256 (by decide) hl k) (Lbx.get_lt l 256 (by decide) hl (k + 1)) (Lbx.get_lt l 256 (by decide) hl (k + 2)) (Lbx.get_lt l 256 (by decide) hl (k + 3))
    (hr k (by omega)) (by rw [Nat.add_assoc]; exact hr (k + 1) (by omega)) (by rw [Nat.add_assoc]; exact hr (k + 2) (by omega)) (by rw [Nat.add_assoc]; exact hr (k + 3) (by omega))

theorem Rd.drewN {w : World} {g off : Nat} {l : List Nat} (h : Rd w g off l) (n : Nat) : Rd (w.drewN n) g off l := fun i hi => by
  have := h i hi
  simpa using this
theorem Rd.drop {w : World} {g off : Nat} {l : List Nat} (h : Rd w g off l) (k : Nat) : Rd w g (off + k) (l.drop k) := fun i hi => by
  rw [Nat.add_assoc, h (k + i) (by simp at hi; omega)]
  simp [List.getElem?_drop]

theorem val4_lt (l : List Nat) (hl : ∀ x ∈ l, x < 256) (k : Nat) : val4 l k < 4294967296 := by
  have h0 := Lbx.get_lt l 256 (by decide) hl k
  have h1 := Lbx.get_lt l 256 (by decide) hl (k + 1)
  have h2 := Lbx.get_lt l 256 (by decide) hl (k + 2)
  have h3 := Lbx.get_lt l 256 (by decide) hl (k + 3)
  unfold val4
  omega

set_option maxHeartbeats 400000 in
theorem fopen_yes (key : Int) (g off cap : Nat) (l : List Nat) (w : World) (hk0 : 0 ≤ key) (hk : key < 4294967296) (hn : l.length = 58) (hcap : 58 ≤ cap) (hl : ∀ x ∈ l, x < 256) (hr : Rd w g off l)
    (h1 : 1 ≤ l[0]?.getD 0) (h3 : l[0]?.getD 0 ≤ 3) (hf : sameB (retag key.toNat (l.take 50)) l = true) :
    Calls Try.prog 13 #[.int .u32 key, .slice (some ⟨g, off, none⟩) 58 cap] w fun e w' =>
      ∃ g', e = .returned (.tuple #[.agg #[.int .i64 ((l[0]?.getD 0 : Nat) : Int), .int .i64 ((l[1]?.getD 0 : Nat) : Int), .int .i64 ((val4 l 2 : Nat) : Int), .int .i64 ((val4 l 6 : Nat) : Int), .slice (some ⟨g', 0, none⟩) 40 40], .bool true]) ∧
        w.heap.size ≤ g' ∧ Blk w' g' (Lbx.veil key.toNat (val4 l 2) (val4 l 6) ((l.drop 10).take 40)) ∧ Below w.heap.size w w' := by
  have HN : Hid (l.length = 58) := hn
  clear hn
  have hg : g < w.heap.size := hr.lt (by rw [HN.out]; omega)
  have hc0 := hr 0 (by rw [HN.out]; omega)
  rw [Nat.add_zero] at hc0
  have hv2 := val4_lt l hl 2
  have hv6 := val4_lt l hl 6
  go_enter Try.func13, Try.ntmps13
  go_wp2_with (go_at_call 17; refine (isKind_yes _ _ (by omega) (by omega)).mono ?_; rintro e w' ⟨rfl, rfl⟩)
  refine (tagFits_any key g off cap l _ hk0 hk HN.out hcap hl ?hr1 ?hg1).mono ?_
  case hr1 => exact hr.below ((Below.refl _ _).alloc (Nat.le_refl _) _) hg
  case hg1 => simp; omega
  rintro e w1 ⟨rfl, hb⟩
  rw [hf]
  obtain ⟨hcc, hff⟩ := bcell hb
  have hb0 : Below w.heap.size w w1 := ((Below.refl _ _).alloc (Nat.le_refl _) _).trans (hb.mono (by simp))
  have hz : w.heap.size < w1.heap.size := by have := hb.size; simp at this; omega
  have r0 : w1.cell? ⟨w.heap.size, 0, none⟩ = some (.int .i64 0) := by rw [hcc _ _ (by simp)]; simp
  have r1 : w1.cell? ⟨w.heap.size, 1, none⟩ = some (.int .i64 0) := by rw [hcc _ _ (by simp)]; simp
  have r2 : w1.cell? ⟨w.heap.size, 2, none⟩ = some (.int .i64 0) := by rw [hcc _ _ (by simp)]; simp
  have r3 : w1.cell? ⟨w.heap.size, 3, none⟩ = some (.int .i64 0) := by rw [hcc _ _ (by simp)]; simp
  have r4 : w1.cell? ⟨w.heap.size, 4, none⟩ = some (.slice none 0 0) := by rw [hcc _ _ (by simp)]; simp
  have rf : ∀ i, w1.frozen? ⟨w.heap.size, i, none⟩ = false := by intro i; rw [hff _ _ (by simp)]; simp
  have hr1 := hr.below hb0 hg
  clear hcc hff hb hc0 hr
  have hc2 : ¬ cap = 2 := by omega
  have hc6 : ¬ cap = 6 := by omega
  have hc10 : ¬ cap = 10 := by omega
  have hc50 : (50 : Int) ≤ (cap : Int) := by omega
  go_wp2_with fail
  go_quiet ((go_at_call 19; go_loud (exact Calls.quiet_of (number_at g off _ _ _ l _ (hr1.drewN _) (by rw [HN.out]; omega) hl (by omega) (by omega)))))
  go_wp2_with fail
  have q0 : (w1.drewN nq).cell? ⟨w.heap.size, 0, none⟩ = some (.int .i64 0) := by simpa using r0
  have q1 : (w1.drewN nq).cell? ⟨w.heap.size, 1, none⟩ = some (.int .i64 0) := by simpa using r1
  have q2 : (w1.drewN nq).cell? ⟨w.heap.size, 2, none⟩ = some (.int .i64 0) := by simpa using r2
  have q3 : (w1.drewN nq).cell? ⟨w.heap.size, 3, none⟩ = some (.int .i64 0) := by simpa using r3
  have q4 : (w1.drewN nq).cell? ⟨w.heap.size, 4, none⟩ = some (.slice none 0 0) := by simpa using r4
  have qf : ∀ i, (w1.drewN nq).frozen? ⟨w.heap.size, i, none⟩ = false := by intro i; simpa using rf i
  have qz : w.heap.size < (w1.drewN nq).heap.size := by simpa using hz
  have qr := hr1.drewN nq
  have qb : Below w.heap.size w (w1.drewN nq) := below_drewN hb0 nq
  clear r0 r1 r2 r3 r4 rf hz hr1 hb0
  generalize w1.drewN nq = W at *
  have c0 := qr 0 (by rw [HN.out]; omega)
  have c1 := qr 1 (by rw [HN.out]; omega)
  rw [Nat.add_zero] at c0
  have hl5 : ((l.drop 10).take 40).length = 40 := by rw [List.length_take, List.length_drop, HN.out]; rfl
  have HL : Hid (((l.drop 10).take 40).length = 40) := hl5
  have hlt : ∀ x ∈ (l.drop 10).take 40, x < 256 := fun x hx => hl x (List.mem_of_mem_drop (List.mem_of_mem_take hx))
  have hb0 := Lbx.get_lt l 256 (by decide) hl 0
  have hb1 := Lbx.get_lt l 256 (by decide) hl 1
  clear hl5
  have hcar : ∀ w2, Below W.drew.heap.size W.drew w2 → (w2.cell? ⟨w.heap.size, 0, none⟩ = some (.int .i64 0) ∧ w2.cell? ⟨w.heap.size, 1, none⟩ = some (.int .i64 0) ∧ w2.cell? ⟨w.heap.size, 2, none⟩ = some (.int .i64 0) ∧ w2.cell? ⟨w.heap.size, 3, none⟩ = some (.int .i64 0) ∧ w2.cell? ⟨w.heap.size, 4, none⟩ = some (.slice none 0 0)) ∧ (∀ i, w2.frozen? ⟨w.heap.size, i, none⟩ = false) ∧ w2.cell? ⟨g, off, none⟩ = some (.int .u8 ((l[0]?.getD 0 : Nat) : Int)) ∧ w2.cell? ⟨g, off + 1, none⟩ = some (.int .u8 ((l[1]?.getD 0 : Nat) : Int)) := by
    intro w2 hw2
    have hx : w.heap.size < W.drew.heap.size := qz
    exact ⟨⟨(hw2.cell (p := ⟨w.heap.size, 0, none⟩) hx).trans q0, (hw2.cell (p := ⟨w.heap.size, 1, none⟩) hx).trans q1, (hw2.cell (p := ⟨w.heap.size, 2, none⟩) hx).trans q2, (hw2.cell (p := ⟨w.heap.size, 3, none⟩) hx).trans q3, (hw2.cell (p := ⟨w.heap.size, 4, none⟩) hx).trans q4⟩,
      fun i => (hw2.frozen (p := ⟨w.heap.size, i, none⟩) hx).trans (qf i), (hw2.cell (p := ⟨g, off, none⟩) (show g < W.heap.size by omega)).trans c0, (hw2.cell (p := ⟨g, off + 1, none⟩) (show g < W.heap.size by omega)).trans c1⟩
  have HC := (show Hid _ from hcar)
  clear hcar
  have hne : w.heap.size ≠ g := by omega
  have hrm : Rd W.drew g (off + 10) ((l.drop 10).take 40) := ((qr.drop 10).take 40).below ((Below.refl W.heap.size W).drew) (by omega)
  go_region_held3 (fun w' => w'.cell? ⟨g, off, none⟩ = some (.int .u8 ((l[0]?.getD 0 : Nat) : Int)) ∧ w'.cell? ⟨g, off + 1, none⟩ = some (.int .u8 ((l[1]?.getD 0 : Nat) : Int))) (first | (simp [c0, c1]; done) | (simp [k0, k1]; done) | simp [k0, k1, World.cell?_setCell_far, hne])
    (first
      | (go_at_call 20; refine (mask_any _ _ _ _ _ 40 _ ((l.drop 10).take 40) _ (by omega) (by omega) (by omega) (by omega) (by omega) (by omega) HL.out (by omega) (by omega) hlt hrm).mono ?_; rintro e w2 ⟨g2, rfl, hg2, hB2, hw2⟩; obtain ⟨⟨z0, z1, z2, z3, z4⟩, zf, k0, k1⟩ := HC.out w2 hw2))
  have hy : w.heap.size ≤ g2 := by have : W.drew.heap.size = W.heap.size := rfl; omega
  have hyb : Below w.heap.size w w2 := qb.trans (((Below.refl W.heap.size W).drew.trans hw2).mono (by omega))
  have hyn : g2 ≠ w.heap.size := by have : W.drew.heap.size = W.heap.size := rfl; omega
  simp only [Int.toNat_natCast] at hB2
  go_wp2
  refine bodyPost_ret (v := .tuple #[.agg #[.int .i64 ((l[0]?.getD 0 : Nat) : Int), .int .i64 ((l[1]?.getD 0 : Nat) : Int), .int .i64 ((val4 l 2 : Nat) : Int), .int .i64 ((val4 l 6 : Nat) : Int), .slice (some ⟨g2, 0, none⟩) 40 40], .bool true]) (by simp [results, Try.results13, go_sem, z0, z1, z2, z3, z4, wrap_small _ hv2, wrap_small _ hv6, wrap_small _ (show l[0]?.getD 0 < 4294967296 by omega), wrap_small _ (show l[1]?.getD 0 < 4294967296 by omega)]) rfl ⟨g2, rfl, hy, ?_, ?_⟩
  · exact ((((hB2.other _ _ hyn).other _ _ hyn).other _ _ hyn).other _ _ hyn).other _ _ hyn
  · exact ((((hyb.setCell (by simp) _).setCell (by simp) _).setCell (by simp) _).setCell (by simp) _).setCell (by simp) _
end Go.Proofs.Ytloaefcgcniacaa
