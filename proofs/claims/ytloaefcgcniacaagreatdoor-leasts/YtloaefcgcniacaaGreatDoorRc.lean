import Derived.Test.YtloaefcgcniacaaGreatDoorRb
namespace Go.Proofs.YtloaefcgcniacaaGreatDoor
open Go.RowKit
set_option linter.unusedVariables false

theorem four_get (E S k : Nat) (hE : E < 4294967296) (hS : S < 4294967296) (hk : k < 4294967296) (i : Nat) : [1, E, S, k][i]?.getD 0 < 4294967296 := by
  match i with
  | 0 => simp
  | 1 => simpa using hE
  | 2 => simpa using hS
  | 3 => simpa using hk
  | n + 4 => simp

set_option maxHeartbeats 400000 in
theorem rstream_ok (key ep sq n : Int) (w : World) (hk0 : 0 ≤ key) (hk : key ≤ 4294967295) (he0 : 0 ≤ ep) (he : ep ≤ 4294967295) (hs0 : 0 ≤ sq) (hs : sq ≤ 4294967295)
    (hn0 : 0 ≤ n) (hn : n ≤ 200) :
    Calls Tryz.prog 83 #[.int .i64 key, .int .i64 ep, .int .i64 sq, .int .i64 n] w fun e w' =>
      ∃ g, e = .returned (.tuple #[.slice (some ⟨g, 0, none⟩) n.toNat n.toNat, .int .i64 0]) ∧ w.heap.size ≤ g ∧ Blk w' g (Lbx.strm key.toNat ep.toNat sq.toNat n.toNat) ∧ Below w.heap.size w w' := by
  obtain ⟨K, rfl⟩ := Int.eq_ofNat_of_zero_le hk0
  obtain ⟨E, rfl⟩ := Int.eq_ofNat_of_zero_le he0
  obtain ⟨S, rfl⟩ := Int.eq_ofNat_of_zero_le hs0
  obtain ⟨N, rfl⟩ := Int.eq_ofNat_of_zero_le hn0
  have hmk := run_make_bytes N (by omega)
  go_enter Tryz.func83, Tryz.ntmps83
  go_wp2_with (go_at_call 77; refine (rnumber_yes _ _ (by omega) (by omega)).mono ?_; rintro e w' ⟨rfl, hw'⟩; have hw2 := hw'.symm; clear hw'; subst hw2)
  go_loopw [14] (fun i wr => ∃ k : Nat, k ≤ N ∧ i = .int .i64 k ∧ Blk wr w.heap.size (Lbx.part (Lbx.strm K E S N) (List.replicate N 0) k) ∧ Below w.heap.size w wr) (fun i _ => N - (intOf i).toNat)
  case atStart =>
    refine ⟨0, Nat.zero_le _, rfl, ?_, (Below.refl _ _).alloc (Nat.le_refl _) _⟩
    rw [Lbx.part_zero]
    exact blk_new w _
  case round =>
    obtain ⟨k, hk', rfl, hb, hbel⟩ := hrel
    have hlen : (Lbx.part (Lbx.strm K E S N) (List.replicate N 0) k).length = N := by
      rw [Lbx.part_length _ _ _ (by simp [Lbx.strm_length])]; simp
    by_cases hlt : k < N
    · have hcell := hb.cell k (by omega)
      have hfr := hb.frozen k
      have hz := hb.lt
      have hzz := hbel.size
      go_wp2_with fail
      refine (rsum_any _ _ 0 4 4 [1, E, S, k] _ (by omega) (by omega) rfl (by omega) (four_get E S k (by omega) (by omega) (by omega)) ?hc).mono ?_
      case hc =>
        intro i hi
        match i, hi with
        | 0, _ => simp
        | 1, _ => simp
        | 2, _ => simp
        | 3, _ => simp
      rintro e w1 ⟨rfl, q, rfl⟩
      have hsl := Lbx.sumBy_lt (key := K) [1, E, S, k] (by omega)
      rw [Int.toNat_natCast]
      have hv : Lbx.sumBy K [1, E, S, k] % 256 = (Lbx.strm K E S N)[k]?.getD 0 := by rw [Lbx.strm_get _ _ _ _ _ hlt, Lbx.sumBy_four]
      have HV := (show Hid _ from hv)
      clear hv
      generalize Lbx.sumBy K [1, E, S, k] = A at *
      go_wp2
      go_roundw
      case rel =>
        refine ⟨k + 1, by omega, by go_num, ?_, ?_⟩
        · rw [← Lbx.part_succ _ _ _ (by simp [Lbx.strm_length]) (by simpa using hlt), ← HV.out]
          rw [conv_byte]
          exact (Blk.drewN (hb.alloc _) q).set k _
        · exact (below_drewN (hbel.alloc hzz _) q).setCell (by simp) _
      case measure => simp [intOf]; omega
    · go_wp2
      go_ret2
      refine ⟨w.heap.size, rfl, Nat.le_refl _, ?_, hbel⟩
      have e : k = (List.replicate N 0).length := by simp; omega
      rw [e, Lbx.part_all _ _ (by simp [Lbx.strm_length])] at hb
      exact hb

set_option maxHeartbeats 400000 in
theorem rstream_no (key ep sq n : Int) (w : World) (h : ¬ (0 ≤ key ∧ key ≤ 4294967295 ∧ 0 ≤ ep ∧ ep ≤ 4294967295 ∧ 0 ≤ sq ∧ sq ≤ 4294967295 ∧ 0 ≤ n ∧ n ≤ 200)) :
    Calls Tryz.prog 83 #[.int .i64 key, .int .i64 ep, .int .i64 sq, .int .i64 n] w fun e w' => e = .returned (.tuple #[.slice none 0 0, .int .i64 1]) ∧ w' = w := by
  by_cases h1 : 0 ≤ key ∧ key ≤ 4294967295
  · by_cases h2 : 0 ≤ ep ∧ ep ≤ 4294967295
    · by_cases h3 : 0 ≤ sq ∧ sq ≤ 4294967295
      · by_cases h4 : n < 0
        · go_enter Tryz.func83, Tryz.ntmps83
          go_wp2_with (go_at_call 77; refine (rnumber_yes _ _ (by omega) (by omega)).mono ?_; rintro e w' ⟨rfl, hw'⟩; have hw2 := hw'.symm; clear hw'; subst hw2)
          go_ret2
          exact ⟨rfl, rfl⟩
        · have h5 : 200 < n := by omega
          go_enter Tryz.func83, Tryz.ntmps83
          go_wp2_with (go_at_call 77; refine (rnumber_yes _ _ (by omega) (by omega)).mono ?_; rintro e w' ⟨rfl, hw'⟩; have hw2 := hw'.symm; clear hw'; subst hw2)
          go_ret2
          exact ⟨rfl, rfl⟩
      · go_enter Tryz.func83, Tryz.ntmps83
        go_wp2_with (go_at_call 77; first | (refine (rnumber_yes _ _ (by omega) (by omega)).mono ?_; rintro e w' ⟨rfl, hw'⟩; have hw2 := hw'.symm; clear hw'; subst hw2) | (refine (rnumber_no _ _ (by omega)).mono ?_; rintro e w' ⟨rfl, hw'⟩; have hw2 := hw'.symm; clear hw'; subst hw2))
        go_ret2
        exact ⟨rfl, rfl⟩
    · go_enter Tryz.func83, Tryz.ntmps83
      go_wp2_with fail
      refine (rnumber_yes _ _ (by omega) (by omega)).mono ?_
      rintro e w1 ⟨rfl, rfl⟩
      go_wp2_with fail
      refine (rnumber_no _ _ (by omega)).mono ?_
      rintro e w1 ⟨rfl, rfl⟩
      go_wp2
      all_goals go_ret2
      all_goals exact ⟨rfl, rfl⟩
  · go_enter Tryz.func83, Tryz.ntmps83
    go_wp2_with fail
    refine (rnumber_no _ _ (by omega)).mono ?_
    rintro e w1 ⟨rfl, rfl⟩
    go_wp2
    all_goals go_ret2
    all_goals exact ⟨rfl, rfl⟩
end Go.Proofs.YtloaefcgcniacaaGreatDoor
