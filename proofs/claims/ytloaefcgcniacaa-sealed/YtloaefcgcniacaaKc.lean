import Derived.Test.YtloaefcgcniacaaKb
namespace Go.Proofs.Ytloaefcgcniacaa
open Go.RowKit

/-- From this place on lie these bytes. -/
def Rd (w : World) (g off : Nat) (l : List Nat) : Prop := ∀ i, i < l.length → w.cell? ⟨g, off + i, none⟩ = some (.int .u8 ((l[i]?.getD 0 : Nat) : Int))

theorem Rd.below {w w' : World} {g off B : Nat} {l : List Nat} (h : Rd w g off l) (hb : Below B w w') (hg : g < B) : Rd w' g off l :=
  fun i hi => (hb.cell (p := ⟨g, off + i, none⟩) hg).trans (h i hi)
theorem Rd.lt {w : World} {g off : Nat} {l : List Nat} (h : Rd w g off l) (hl : 0 < l.length) : g < w.heap.size :=
  World.block_lt_of_cell? w _ (h 0 hl)
theorem Blk.rd {w : World} {g : Nat} {l : List Nat} (h : Blk w g l) : Rd w g 0 l := fun i hi => by rw [Nat.zero_add]; exact h.cell i hi

theorem xor_byte (a b : Nat) (ha : a < 256) (hb : b < 256) : bits BinOp.xor IntKind.u8 (a : Int) (b : Int) = ((a ^^^ b : Nat) : Int) := u8_xor_nat a b ha hb

set_option maxHeartbeats 400000 in
theorem mask_any (key ep sq : Int) (g off n cap : Nat) (l : List Nat) (w : World) (hk0 : 0 ≤ key) (hk : key < 4294967296) (he0 : 0 ≤ ep) (he : ep < 4294967296) (hs0 : 0 ≤ sq) (hs : sq < 4294967296)
    (hn : l.length = n) (hn1 : 0 < n) (hn2 : n < 4294967296) (hl : ∀ x ∈ l, x < 256) (hr : Rd w g off l) :
    Calls Try.prog 20 #[.int .u32 key, .int .u32 ep, .int .u32 sq, .slice (some ⟨g, off, none⟩) n cap] w fun e w' =>
      ∃ g', e = .returned (.slice (some ⟨g', 0, none⟩) n n) ∧ w.heap.size ≤ g' ∧ Blk w' g' (Lbx.veil key.toNat ep.toNat sq.toNat l) ∧ Below w.heap.size w w' := by
  obtain ⟨K, rfl⟩ := Int.eq_ofNat_of_zero_le hk0
  obtain ⟨E, rfl⟩ := Int.eq_ofNat_of_zero_le he0
  obtain ⟨S, rfl⟩ := Int.eq_ofNat_of_zero_le hs0
  have HN : Hid (l.length = n) := hn
  have hg : g < w.heap.size := hr.lt (by omega)
  clear hn
  go_enter Try.func20, Try.ntmps20
  go_wp2_with (go_at_call 14; refine (stream_any _ _ _ _ _ (by omega) (by omega) (by omega) (by omega) (by omega) (by omega) (by omega) (by omega)).mono ?_; rintro e w1 ⟨g', rfl, hg', hb1, hw1⟩)
  simp only [Int.toNat_natCast] at hb1
  go_loopw [20] (fun i wr => ∃ k : Nat, k ≤ n ∧ i = .int .i64 k ∧ Blk wr g' (Lbx.part (Lbx.veil K E S l) (Lbx.strm K E S n) k) ∧ Below w.heap.size w wr) (fun i _ => n - (intOf i).toNat)
  case atStart =>
    refine ⟨0, Nat.zero_le _, rfl, ?_, hw1⟩
    rw [Lbx.part_zero]
    exact hb1
  case round =>
    clear hb1
    obtain ⟨k, hk', rfl, hb, hbel⟩ := hrel
    have hvl : (Lbx.veil K E S l).length = (Lbx.strm K E S n).length := by rw [Lbx.veil_length, Lbx.strm_length, HN.out]
    have hlen : (Lbx.part (Lbx.veil K E S l) (Lbx.strm K E S n) k).length = n := by
      rw [Lbx.part_length _ _ _ hvl, Lbx.strm_length]
    by_cases hlt : k < n
    · have hcell := hb.cell k (by omega)
      rw [Lbx.part_get _ _ _ hvl (by rw [Lbx.strm_length]; exact hlt)] at hcell
      have hfr := hb.frozen k
      have hcb := (hr.below hbel hg) k (by rw [HN.out]; exact hlt)
      have hx := xor_byte _ _ (Lbx.get_lt _ 256 (by decide) (Lbx.strm_lt K E S n) k) (Lbx.get_lt _ 256 (by decide) hl k)
      have hlen' : Hid ((Lbx.part (Lbx.veil K E S l) (Lbx.strm K E S n) k).length = n) := hlen
      have hvl' : Hid ((Lbx.veil K E S l).length = (Lbx.strm K E S n).length) := hvl
      clear hlen hvl
      go_wp2
      go_roundw
      case rel =>
        refine ⟨k + 1, by omega, by go_num, ?_, hbel.setCell (by exact hg') _⟩
        rw [← Lbx.part_succ _ _ _ hvl'.out (by rw [Lbx.strm_length]; exact hlt), Lbx.veil_get _ _ _ _ _ (by rw [HN.out]; exact hlt), HN.out]
        exact hb.set k _
      case measure => simp [intOf]; omega
    · clear hlen
      go_wp2
      go_ret
      refine ⟨g', rfl, hg', ?_, hbel⟩
      have e : k = (Lbx.strm K E S n).length := by rw [Lbx.strm_length]; omega
      rw [e, Lbx.part_all _ _ hvl] at hb
      exact hb
end Go.Proofs.Ytloaefcgcniacaa
