import Derived.Test.YtloaefcgcniacaaGreatDoorRc
namespace Go.Proofs.YtloaefcgcniacaaGreatDoor
open Go.RowKit
set_option linter.unusedVariables false

def intV (n : Nat) : Value := .int .i64 (n : Int)
def iblkOf (l : List Nat) : Array Value := (l.map intV).toArray
def IBlk (w : World) (g : Nat) (l : List Nat) : Prop := w.heap[g]? = some (.cells (iblkOf l) 3 (0, 0))
theorem IBlk.lt {w : World} {g : Nat} {l : List Nat} (h : IBlk w g l) : g < w.heap.size := (Array.getElem?_eq_some_iff.1 h).1
theorem IBlk.cell {w : World} {g : Nat} {l : List Nat} (h : IBlk w g l) (i : Nat) (hi : i < l.length) :
    w.cell? ⟨g, i, none⟩ = some (.int .i64 ((l[i]?.getD 0 : Nat) : Int)) := by
  unfold IBlk at h
  simp [World.cell?, h, hi, intV, iblkOf]
theorem IBlk.frozen {w : World} {g : Nat} {l : List Nat} (h : IBlk w g l) (i : Nat) : w.frozen? ⟨g, i, none⟩ = false := by
  unfold IBlk at h
  simp [World.frozen?, h]
theorem IBlk.set {w : World} {g : Nat} {l : List Nat} (h : IBlk w g l) (i v : Nat) : IBlk (w.setCell ⟨g, i, none⟩ (.int .i64 (v : Int))) g (l.set i v) := by
  have hlt := h.lt
  have hv : w.heap[g] = .cells (iblkOf l) 3 (0, 0) := (Array.getElem?_eq_some_iff.1 h).2
  unfold IBlk World.setCell
  rw [Array.getElem?_eq_getElem (by simpa using hlt), Array.getElem_modify]
  simp [hv, List.map_set, intV, iblkOf]
theorem iblk_new (w : World) (l : List Nat) : IBlk (w.alloc (.cells (iblkOf l) 3)) w.heap.size l := by
  unfold IBlk World.alloc
  simp
theorem made_ints (n : Nat) : madeCells (Value.int .i64 0).cells n = iblkOf (List.replicate n 0) := by
  unfold madeCells iblkOf
  apply Array.ext
  · simp
  · intro i h1 h2
    simp [Value.cells, intV, Nat.mod_one]
theorem info3 : (Tryz.prog.info? 3).map (fun i => (i.zero, i.size, i.bytes)) = some (some (.int .i64 0), 1, 8) := by kernel_rfl
theorem run_make_ints (n : Nat) (hn : n ≤ 1099511627776) (w : World) :
    (Instr.makeSlice 192 (.int .i64 (n : Int)) (.int .i64 (n : Int))).run Tryz.prog w = .ok (.slice (some ⟨w.heap.size, 0, none⟩) n n) (w.alloc (.cells (iblkOf (List.replicate n 0)) 3)) := by
  obtain ⟨i0, hi, hz0, hz1, hz2⟩ := info_parts info3
  have h := run_make (P := Tryz.prog) w 192 3 i0 _ Tryz.underlying192 hi hz0 .i64 .i64 n n (by omega) (Int.le_refl _) (by rw [hz2]; omega) (by omega)
  rw [hz1, Nat.mul_one, Int.toNat_natCast, made_ints] at h
  exact h

set_option maxHeartbeats 400000 in
theorem rtag_any (key use : Int) (g off n cap : Nat) (l : List Nat) (w : World) (hk0 : 0 ≤ key) (hk : key < 4294967296) (hu0 : 0 ≤ use) (hu : use < 256) (hn : l.length = n) (hb : n < 1099511) (hl : ∀ x ∈ l, x < 256) (hr : Rd w g off l) (hg : g < w.heap.size) :
    Calls Tryz.prog 81 #[.int .i64 key, .int .i64 use, .slice (some ⟨g, off, none⟩) n cap] w fun e w' =>
      ∃ g', e = .returned (.slice (some ⟨g', 0, none⟩) 4 4) ∧ w.heap.size ≤ g' ∧ Blk w' g' (Lbx.four (Lbx.sumBy key.toNat (use.toNat :: l))) ∧ Below w.heap.size w w' := by
  obtain ⟨K, rfl⟩ := Int.eq_ofNat_of_zero_le hk0
  obtain ⟨U, rfl⟩ := Int.eq_ofNat_of_zero_le hu0
  simp only [Int.toNat_natCast]
  have HN : Hid (l.length = n) := hn
  clear hn
  have hmk := run_make_ints (n + 1) (by omega)
  have ec : ((n + 1 : Nat) : Int) = (n : Int) + 1 := by omega
  rw [ec] at hmk
  clear ec
  have hnn : (0 : Int) < (n : Int) + 1 := by omega
  have h0 : ((w.alloc (.cells (iblkOf (List.replicate (n + 1) 0)) 3)).cell? ⟨w.heap.size, 0, none⟩) = some (.int .i64 0) := by
    have := (iblk_new w (List.replicate (n + 1) 0)).cell 0 (by simp)
    simpa using this
  have h0f := (iblk_new w (List.replicate (n + 1) 0)).frozen 0
  go_enter Tryz.func81, Tryz.ntmps81
  go_wp2
  go_loopw [8] (fun i wr => ∃ k : Nat, k ≤ n ∧ i = .int .i64 k ∧ IBlk wr w.heap.size (U :: Lbx.part l (List.replicate n 0) k) ∧ Below w.heap.size w wr) (fun i _ => n - (intOf i).toNat)
  case atStart =>
    refine ⟨0, Nat.zero_le _, rfl, ?_, (Below.refl _ _).alloc (Nat.le_refl _) _⟩
    rw [Lbx.part_zero]
    have e : (iblkOf (List.replicate (n + 1) 0)).setIfInBounds 0 (Value.int IntKind.i64 ↑U) = iblkOf (U :: List.replicate n 0) := by
      simp [iblkOf, List.replicate_succ, intV]
    rw [e]
    exact iblk_new w _
  case round =>
    clear h0 h0f hmk
    obtain ⟨k, hk', rfl, hb1, hbel⟩ := hrel
    have hvl : l.length = (List.replicate n 0).length := by rw [HN.out]; simp
    have hlen : (Lbx.part l (List.replicate n 0) k).length = n := by rw [Lbx.part_length _ _ _ hvl]; simp
    by_cases hlt : k < n
    · have hcell := hb1.cell (k + 1) (by simp; omega)
      have hfr := hb1.frozen (k + 1)
      have hck := (hr.below hbel hg) k (by rw [HN.out]; exact hlt)
      have hlk := Lbx.get_lt l 256 (by decide) hl k
      have HVL := (show Hid _ from hvl)
      clear hvl hlen
      go_wp2
      go_roundw
      case rel =>
        refine ⟨k + 1, by omega, by go_num, ?_, hbel.setCell (by simp) _⟩
        rw [← Lbx.part_succ _ _ _ HVL.out (by simpa using hlt), ← List.set_cons_succ]
        exact hb1.set (k + 1) _
      case measure => simp [intOf]; omega
    · have ek : Lbx.part l (List.replicate n 0) k = l := by
        have e1 : k = (List.replicate n 0).length := by simp; omega
        rw [e1, Lbx.part_all _ _ hvl]
      rw [ek] at hb1
      clear ek hlen hvl
      have hzz := hbel.size
      go_wp2_with fail
      refine (rsum_any _ _ 0 (n + 1) (n + 1) (U :: l) _ (by omega) (by omega) (by rw [List.length_cons, HN.out]) (by omega) ?hbd ?hc).mono ?_
      case hbd =>
        intro i
        refine Lbx.get_lt _ _ (by decide) ?_ i
        intro x hx
        rcases List.mem_cons.1 hx with rfl | hx
        · omega
        · have := hl x hx; omega
      case hc =>
        intro i hi
        rw [Nat.zero_add]
        exact hb1.cell i (by rw [List.length_cons, HN.out]; exact hi)
      rintro e w1 ⟨rfl, q, rfl⟩
      have hsl := Lbx.sumBy_lt (key := K) (U :: l) (by omega)
      simp only [Int.toNat_natCast]
      obtain ⟨A, hA⟩ : ∃ A, A = Lbx.sumBy K (U :: l) := ⟨_, rfl⟩
      rw [← hA] at hsl ⊢
      have HA := (show Hid _ from hA)
      clear hA
      go_wp2_with fail
      refine (rfour_any _ _ (by omega) (by omega)).mono ?_
      rintro e w2 ⟨rfl, hB2, hb2⟩
      go_wp2
      go_ret
      rw [Int.toNat_natCast, HA.out] at hB2
      refine ⟨_, rfl, by simpa using hzz, by simpa using hB2, (below_drewN hbel q).trans (hb2.mono (by simpa using hzz))⟩

def z40 : List Nat := List.replicate 40 0
theorem z40_length : z40.length = 40 := by simp [z40]

set_option maxHeartbeats 1000000 in
theorem rveiled_any (key ep sq : Int) (g off cap : Nat) (l : List Nat) (w : World) (hk0 : 0 ≤ key) (hk : key ≤ 4294967295) (he0 : 0 ≤ ep) (he : ep ≤ 4294967295) (hs0 : 0 ≤ sq) (hs : sq ≤ 4294967295)
    (hn : l.length = 40) (hl : ∀ x ∈ l, x < 256) (hr : Rd w g off l) :
    Calls Tryz.prog 80 #[.int .i64 key, .int .i64 ep, .int .i64 sq, .slice (some ⟨g, off, none⟩) 40 cap] w fun e w' =>
      ∃ g', e = .returned (.slice (some ⟨g', 0, none⟩) 40 40) ∧ w.heap.size ≤ g' ∧ Blk w' g' (Lbx.veil key.toNat ep.toNat sq.toNat l) ∧ Below w.heap.size w w' := by
  obtain ⟨K, rfl⟩ := Int.eq_ofNat_of_zero_le hk0
  obtain ⟨E, rfl⟩ := Int.eq_ofNat_of_zero_le he0
  obtain ⟨S, rfl⟩ := Int.eq_ofNat_of_zero_le hs0
  have HN : Hid (l.length = 40) := hn
  have hg : g < w.heap.size := hr.lt (by omega)
  clear hn
  have hmk : ∀ w : World, (Instr.makeSlice 66 (.int .i64 40) (.int .i64 40)).run Tryz.prog w = .ok (.slice (some ⟨w.heap.size, 0, none⟩) 40 40) (w.alloc (.cells (blkOf z40) 5)) := run_make_bytes 40 (by omega)
  go_enter Tryz.func80, Tryz.ntmps80
  go_wp2_with fail
  refine (rstream_ok _ _ _ 40 _ (by omega) (by omega) (by omega) (by omega) (by omega) (by omega) (by omega) (by omega)).mono ?_
  rintro e w1 ⟨g1, rfl, hg1, hB1, hb1⟩
  simp only [Int.toNat_natCast] at hB1
  have e40 : (40 : Int).toNat = 40 := rfl
  rw [e40] at hB1 ⊢
  clear e40
  go_wp2
  have hz1 := hb1.size
  have hg1z := hB1.lt
  go_loopw [12] (fun i wr => ∃ k : Nat, k ≤ 40 ∧ i = .int .i64 k ∧ Blk wr w1.heap.size (Lbx.part (Lbx.veil K E S l) z40 k) ∧ Blk wr g1 (Lbx.strm K E S 40) ∧ Below w.heap.size w wr) (fun i _ => 40 - (intOf i).toNat)
  case atStart =>
    refine ⟨0, by omega, rfl, ?_, hB1.alloc _, hb1.alloc hz1 _⟩
    rw [Lbx.part_zero]
    exact blk_new w1 _
  case round =>
    clear hmk hB1
    obtain ⟨k, hk', rfl, hb, hBs, hbel⟩ := hrel
    have hvl : (Lbx.veil K E S l).length = z40.length := by rw [Lbx.veil_length, HN.out, z40_length]
    have hlen : (Lbx.part (Lbx.veil K E S l) z40 k).length = 40 := by rw [Lbx.part_length _ _ _ hvl, z40_length]
    by_cases hlt : k < 40
    · have hcell := hb.cell k (by omega)
      have hfr := hb.frozen k
      have hcs := hBs.cell k (by rw [Lbx.strm_length]; exact hlt)
      have hcb := (hr.below hbel hg) k (by rw [HN.out]; exact hlt)
      have b1 := Lbx.get_lt _ 256 (by decide) (Lbx.strm_lt K E S 40) k
      have b2 := Lbx.get_lt _ 256 (by decide) hl k
      have hlti : (k : Int) < 40 := by omega
      have hve := Lbx.veil_get K E S l k (by rw [HN.out]; exact hlt)
      rw [HN.out] at hve
      have HVE := (show Hid _ from hve)
      have HVL := (show Hid _ from hvl)
      have hxl := Lbx.xlt8 b2 b1
      clear hve hvl hlen
      generalize hsk : (Lbx.strm K E S 40)[k]?.getD 0 = sk at *
      generalize hlk : l[k]?.getD 0 = lk at *
      have HSK := (show Hid _ from hsk)
      have HLK := (show Hid _ from hlk)
      clear hsk hlk
      go_wp2_with fail
      go_quiet ((go_at_call 136; exact Calls.quiet_of (rxor_any _ _ _ (by omega) (by omega) (by omega) (by omega))))
      simp only [Int.toNat_natCast]
      go_wp2
      go_roundw
      case rel =>
        refine ⟨k + 1, by omega, by go_num, ?_, ?_, ?_⟩
        · rw [← Lbx.part_succ _ _ _ HVL.out (by rw [z40_length]; exact hlt), HVE.out, Nat.xor_comm]
          exact (Blk.drewN hb _).set k _
        · exact (Blk.drewN hBs _).other _ _ (by show g1 ≠ w1.heap.size; omega)
        · exact (below_drewN hbel _).setCell (by exact hz1) _
      case measure => simp [intOf]; omega
    · have ek : Lbx.part (Lbx.veil K E S l) z40 k = Lbx.veil K E S l := by
        have e1 : k = z40.length := by rw [z40_length]; omega
        rw [e1, Lbx.part_all _ _ hvl]
      rw [ek] at hb
      clear ek hlen hvl
      have hlti : ¬ (k : Int) < 40 := by omega
      go_wp2
      go_ret
      exact ⟨w1.heap.size, rfl, hz1, hb, hbel⟩
end Go.Proofs.YtloaefcgcniacaaGreatDoor
