import Derived.Test.YtloaefcgcniacaaGreatDoorKt
namespace Go.Proofs.YtloaefcgcniacaaGreatDoor
open Go.RowKit
set_option linter.unusedVariables false

theorem bit_xor (A B k : Nat) : (A ^^^ B) / 2 ^ k % 2 = if A / 2 ^ k % 2 = B / 2 ^ k % 2 then 0 else 1 := by
  have h := Nat.testBit_xor A B k
  rw [Nat.testBit_eq_decide_div_mod_eq, Nat.testBit_eq_decide_div_mod_eq, Nat.testBit_eq_decide_div_mod_eq] at h
  have h1 : (A ^^^ B) / 2 ^ k % 2 < 2 := Nat.mod_lt _ (by decide)
  have h2 : A / 2 ^ k % 2 < 2 := Nat.mod_lt _ (by decide)
  have h3 : B / 2 ^ k % 2 < 2 := Nat.mod_lt _ (by decide)
  generalize (A ^^^ B) / 2 ^ k % 2 = x at *
  generalize A / 2 ^ k % 2 = y at *
  generalize B / 2 ^ k % 2 = z at *
  match x, y, z, h1, h2, h3 with
  | 0, 0, 0, _, _, _ => rfl
  | 0, 0, 1, _, _, _ => simp at h
  | 0, 1, 0, _, _, _ => simp at h
  | 0, 1, 1, _, _, _ => rfl
  | 1, 0, 0, _, _, _ => simp at h
  | 1, 0, 1, _, _, _ => rfl
  | 1, 1, 0, _, _, _ => rfl
  | 1, 1, 1, _, _, _ => simp at h

theorem xor_same (A B k : Nat) (h : A / 2 ^ k % 2 = B / 2 ^ k % 2) : (A ^^^ B) % 2 ^ (k + 1) = (A ^^^ B) % 2 ^ k := by
  rw [Nat.mod_pow_succ, bit_xor, if_pos h]
  omega
theorem xor_other (A B k : Nat) (h : ¬ A / 2 ^ k % 2 = B / 2 ^ k % 2) : (A ^^^ B) % 2 ^ (k + 1) = (A ^^^ B) % 2 ^ k + 2 ^ k := by
  rw [Nat.mod_pow_succ, bit_xor, if_neg h]
  omega

theorem wrap64_eq (x : Int) (h0 : -4611686018427387904 ≤ x) (h1 : x ≤ 4611686018427387904) : wrap64 x = x := by
  unfold wrap64
  omega

def pw (k : Nat) : Nat := 2 ^ k
def xorTo (A B k : Nat) : Nat := (A ^^^ B) % 2 ^ k

set_option maxHeartbeats 400000 in
theorem rxor_any (a b : Int) (w : World) (ha0 : 0 ≤ a) (ha : a < 4294967296) (hb0 : 0 ≤ b) (hb : b < 4294967296) :
    Calls Tryz.prog 136 #[.int .i64 a, .int .i64 b] w fun e w' => e = .returned (.int .i64 ((a.toNat ^^^ b.toNat : Nat) : Int)) ∧ ∃ q, w' = w.drewN q := by
  obtain ⟨A, rfl⟩ := Int.eq_ofNat_of_zero_le ha0
  obtain ⟨B, rfl⟩ := Int.eq_ofNat_of_zero_le hb0
  simp only [Int.toNat_natCast]
  go_enter Tryz.func136, Tryz.ntmps136
  go_wp2
  go_loopw [5, 6, 7] (fun n p i wr => ∃ k : Nat, k ≤ 32 ∧ i = .int .i64 k ∧ p = .int .i64 ((pw k : Nat) : Int) ∧ n = .int .i64 ((xorTo A B k : Nat) : Int) ∧ ∃ q, wr = w.drewN q) (fun _ _ i _ => 32 - (intOf i).toNat)
  case atStart => exact ⟨0, by omega, rfl, rfl, by unfold xorTo; rw [Nat.pow_zero, Nat.mod_one]; rfl, 0, rfl⟩
  case round =>
    obtain ⟨k, hk, rfl, rfl, rfl, q, rfl⟩ := hrel
    by_cases hlt : k < 32
    · have hs : A / pw k % 2 = B / pw k % 2 → xorTo A B (k + 1) = xorTo A B k := xor_same A B k
      have ho : ¬ A / pw k % 2 = B / pw k % 2 → xorTo A B (k + 1) = xorTo A B k + pw k := xor_other A B k
      have hp : 0 < pw k := Nat.pow_pos (by decide)
      have hp2 : pw k ≤ 2147483648 := by
        have h1 : 2 ^ k ≤ 2 ^ 31 := Nat.pow_le_pow_right (by decide) (by omega)
        have h2 : (2 : Nat) ^ 31 = 2147483648 := by decide
        unfold pw
        omega
      have hpk : pw (k + 1) = 2 * pw k := by unfold pw; rw [Nat.pow_succ, Nat.mul_comm]
      have hn : xorTo A B k < pw k := Nat.mod_lt _ hp
      have HS := (show Hid _ from hs)
      have HO := (show Hid _ from ho)
      have HP := (show Hid _ from hpk)
      clear hs ho hpk
      generalize xorTo A B k = n at *
      generalize pw k = P at *
      have hP0 : (0 : Int) < (P : Int) := by omega
      have hlti : (k : Int) < 32 := by omega
      have dA0 : 0 ≤ (A : Int) / (P : Int) := Int.ediv_nonneg ha0 (by omega)
      have dB0 : 0 ≤ (B : Int) / (P : Int) := Int.ediv_nonneg hb0 (by omega)
      have dA1 : (A : Int) / (P : Int) < 4294967296 := by have := Int.ediv_le_self (P : Int) ha0; omega
      have dB1 : (B : Int) / (P : Int) < 4294967296 := by have := Int.ediv_le_self (P : Int) hb0; omega
      have hP1 : (P : Int) ≤ 2147483648 := by omega
      have hn1 : (n : Int) < 2147483648 := by omega
      clear hp2 hp hn
      by_cases hbit : A / P % 2 = B / P % 2
      · have ht : (((A : Int) / (P : Int) % 2) != ((B : Int) / (P : Int) % 2)) = false := by
          have : ((A : Int) / (P : Int) % 2) = ((B : Int) / (P : Int) % 2) := by
            have h1 := congrArg (fun x : Nat => (x : Int)) hbit
            simpa using h1
          rw [this]
          simp
        have HB := (show Hid _ from hbit)
        clear hbit
        go_wp2_with fail
        go_quiet (fail)
        have Hp1 := (show Hid _ from hP1)
        have Hn1 := (show Hid _ from hn1)
        clear ha hb hP1 hn1 ht dA0 dB0 dA1 dB1
        go_wp2
        go_roundw
        case rel =>
          refine ⟨k + 1, by omega, by go_num, ?_, ?_, _, rfl⟩
          · rw [HP.out, wrap64_eq _ (by have := Hp1.out; omega) (by have := Hp1.out; omega)]; go_num
          · rw [HS.out HB.out]
        case measure => simp [intOf]; omega
      · have ht : (((A : Int) / (P : Int) % 2) != ((B : Int) / (P : Int) % 2)) = true := by
          rw [bne_iff_ne]
          intro h1
          apply hbit
          have : ((A / P % 2 : Nat) : Int) = ((B / P % 2 : Nat) : Int) := by simpa using h1
          omega
        have HB := (show Hid _ from hbit)
        clear hbit
        go_wp2_with fail
        go_quiet (fail)
        have Hp1 := (show Hid _ from hP1)
        have Hn1 := (show Hid _ from hn1)
        clear ha hb hP1 hn1 ht dA0 dB0 dA1 dB1
        go_wp2
        go_roundw
        case rel =>
          refine ⟨k + 1, by omega, by go_num, ?_, ?_, _, rfl⟩
          · rw [HP.out, wrap64_eq _ (by have := Hp1.out; omega) (by have := Hp1.out; omega)]; go_num
          · rw [HO.out HB.out, wrap64_eq _ (by have := Hp1.out; have := Hn1.out; omega) (by have := Hp1.out; have := Hn1.out; omega)]; go_num
        case measure => simp [intOf]; omega
    · have hk32 : k = 32 := by omega
      subst hk32
      have hx : xorTo A B 32 = A ^^^ B := Nat.mod_eq_of_lt (by
        have h := Lbx.xlt (a := A) (b := B) (by omega) (by omega)
        have h2 : (2 : Nat) ^ 32 = 4294967296 := by decide
        omega)
      rw [hx]
      have HX := (show Hid _ from hx)
      clear hx
      go_wp2
      go_ret
      exact ⟨rfl, q, rfl⟩
end Go.Proofs.YtloaefcgcniacaaGreatDoor

namespace Go.Proofs.YtloaefcgcniacaaGreatDoor
open Go.RowKit
set_option linter.unusedVariables false

theorem stp_int (X V Y : Nat) (h : Lbx.stp X V = Y * 668265261 % 4294967296 ^^^ Y * 668265261 % 4294967296 / 32768) :
    ((((Y : Int) * 668265261 % 4294967296).toNat ^^^ ((Y : Int) * 668265261 % 4294967296 / 32768).toNat : Nat) : Int) = ((Lbx.stp ((X : Int)).toNat ((V : Int)).toNat : Nat) : Int) := by
  have e : (Y : Int) * 668265261 % 4294967296 = ((Y * 668265261 % 4294967296 : Nat) : Int) := by
    rw [Int.natCast_emod, Int.natCast_mul]
    rfl
  have e2 : ((Y * 668265261 % 4294967296 : Nat) : Int) / 32768 = ((Y * 668265261 % 4294967296 / 32768 : Nat) : Int) := by
    rw [Int.natCast_ediv]
    rfl
  rw [e, e2, Int.toNat_natCast, Int.toNat_natCast, Int.toNat_natCast, Int.toNat_natCast, h]

set_option maxHeartbeats 400000 in
theorem rstep_any (x v : Int) (w : World) (hx0 : 0 ≤ x) (hx : x < 4294967296) (hv0 : 0 ≤ v) (hv : v < 4294967296) :
    Calls Tryz.prog 185 #[.int .i64 x, .int .i64 v] w fun e w' => e = .returned (.int .i64 ((Lbx.stp x.toNat v.toNat : Nat) : Int)) ∧ ∃ q, w' = w.drewN q := by
  obtain ⟨X, rfl⟩ := Int.eq_ofNat_of_zero_le hx0
  obtain ⟨V, rfl⟩ := Int.eq_ofNat_of_zero_le hv0
  have hxv := Lbx.xlt (a := X) (b := V) (by omega) (by omega)
  have hstp : Lbx.stp X V = ((X ^^^ V) * 668265261 % 4294967296) ^^^ ((X ^^^ V) * 668265261 % 4294967296 / 32768) := rfl
  have HS := (show Hid _ from hstp)
  clear hstp
  go_enter Tryz.func185, Tryz.ntmps185
  go_wp2_with fail
  refine (rxor_any _ _ _ (by omega) (by omega) (by omega) (by omega)).mono ?_
  rintro e w1 ⟨rfl, q1, rfl⟩
  simp only [Int.toNat_natCast] at HS ⊢
  generalize X ^^^ V = Y at *
  go_wp2_with fail
  refine (rxor_any _ _ _ (by omega) (by omega) (by omega) (by omega)).mono ?_
  rintro e w2 ⟨rfl, q2, rfl⟩
  go_wp2
  go_ret
  refine ⟨ret_int ?_, q1 + q2, by simp⟩
  exact stp_int X V Y HS.out

set_option maxHeartbeats 400000 in
theorem rsum_any (key : Int) (g off n cap : Nat) (l : List Nat) (w : World) (hk0 : 0 ≤ key) (hk : key < 4294967296) (hn : l.length = n) (hm : n < 4294967296)
    (hl : ∀ i : Nat, l[i]?.getD 0 < 4294967296) (hc : ∀ i : Nat, i < n → w.cell? ⟨g, off + i, none⟩ = some (.int .i64 ((l[i]?.getD 0 : Nat) : Int))) :
    Calls Tryz.prog 137 #[.int .i64 key, .slice (some ⟨g, off, none⟩) n cap] w fun e w' => e = .returned (.int .i64 ((Lbx.sumBy key.toNat l : Nat) : Int)) ∧ ∃ q, w' = w.drewN q := by
  obtain ⟨K, rfl⟩ := Int.eq_ofNat_of_zero_le hk0
  have HN : Hid (l.length = n) := hn
  clear hn
  go_enter Tryz.func137, Tryz.ntmps137
  go_wp2
  go_loopw [5, 6] (fun x i wr => ∃ k : Nat, k ≤ n ∧ i = .int .i64 k ∧ x = .int .i64 ((Lbx.sumBy K (l.take k) : Nat) : Int) ∧ ∃ q, wr = w.drewN q) (fun _ i _ => n - (intOf i).toNat)
  case atStart => exact ⟨0, Nat.zero_le _, rfl, rfl, 0, rfl⟩
  case round =>
    obtain ⟨k, hk', rfl, rfl, q, rfl⟩ := hrel
    have hs := Lbx.sumBy_lt (key := K) (l.take k) (by omega)
    by_cases hlt : k < n
    · have hck := hc k hlt
      have hlk := hl k
      go_wp2_with (go_at_call 185; refine (rstep_any _ _ _ (by omega) (by omega) (by omega) (by omega)).mono ?_; rintro e w' ⟨rfl, q2, rfl⟩)
      go_roundw
      case rel =>
        have e := sum_snoc K l k (by have := HN.out; omega)
        rw [List.getD_eq_getElem?_getD] at e
        exact ⟨k + 1, by omega, by go_num, by rw [e], q + q2, by simp⟩
      case measure => simp [intOf]; omega
    · go_wp2
      go_ret
      exact ⟨ret_int (by rw [List.take_of_length_le (by have := HN.out; omega), Int.toNat_natCast]), q, rfl⟩

set_option maxHeartbeats 400000 in
theorem rnumber_yes (k : Int) (w : World) (h1 : 0 ≤ k) (h2 : k ≤ 4294967295) : Calls Tryz.prog 77 #[.int .i64 k] w fun e w' => e = .returned (.bool true) ∧ w' = w := by
  go_enter Tryz.func77, Tryz.ntmps77
  go_wp2
  go_ret
  exact ⟨rfl, rfl⟩
set_option maxHeartbeats 400000 in
theorem rnumber_no (k : Int) (w : World) (h : k < 0 ∨ 4294967295 < k) : Calls Tryz.prog 77 #[.int .i64 k] w fun e w' => e = .returned (.bool false) ∧ w' = w := by
  by_cases h1 : 0 ≤ k
  · have h2 : ¬ k ≤ 4294967295 := by omega
    go_enter Tryz.func77, Tryz.ntmps77
    go_wp2
    go_ret
    exact ⟨rfl, rfl⟩
  · go_enter Tryz.func77, Tryz.ntmps77
    go_wp2
    go_ret
    exact ⟨rfl, rfl⟩

set_option maxHeartbeats 400000 in
theorem rfour_any (x : Int) (w : World) (hx0 : 0 ≤ x) (hx : x < 4294967296) :
    Calls Tryz.prog 79 #[.int .i64 x] w fun e w' => e = .returned (.slice (some ⟨w.heap.size, 0, none⟩) 4 4) ∧ Blk w' w.heap.size (Lbx.four x.toNat) ∧ Below w.heap.size w w' := by
  obtain ⟨X, rfl⟩ := Int.eq_ofNat_of_zero_le hx0
  simp only [Int.toNat_natCast]
  go_enter Tryz.func79, Tryz.ntmps79
  go_wp2
  go_ret
  refine ⟨rfl, ?_, (Below.refl _ _).alloc (Nat.le_refl _) _⟩
  have e : blkOf (Lbx.four X) = #[Value.int IntKind.u8 (↑X / 16777216), Value.int IntKind.u8 (↑X / 65536 % 256), Value.int IntKind.u8 (↑X / 256 % 256), Value.int IntKind.u8 (↑X % 256)] := by
    simp [blkOf, Lbx.four, byteV]
    omega
  have := blk_new w (Lbx.four X)
  rw [e] at this
  exact this
end Go.Proofs.YtloaefcgcniacaaGreatDoor

namespace Go.Proofs.YtloaefcgcniacaaGreatDoor
open Go.RowKit
set_option linter.unusedVariables false

theorem four_get (E S k : Nat) (hE : E < 4294967296) (hS : S < 4294967296) (hk : k < 4294967296) (i : Nat) : [1, E, S, k][i]?.getD 0 < 4294967296 := by
  match i with
  | 0 => simp
  | 1 => simpa using hE
  | 2 => simpa using hS
  | 3 => simpa using hk
  | n + 4 => simp

set_option maxHeartbeats 400000 in
theorem rstream_ok (key ep sq n : Int) (w : World) (hk0 : 0 ≤ key) (hk : key ≤ 4294967295) (he0 : 0 ≤ ep) (he : ep ≤ 4294967295) (hs0 : 0 ≤ sq) (hs : sq ≤ 4294967295)
    (hn0 : 0 ≤ n) (hn : n ≤ 200) :
    Calls Tryz.prog 83 #[.int .i64 key, .int .i64 ep, .int .i64 sq, .int .i64 n] w fun e w' =>
      ∃ g, e = .returned (.tuple #[.slice (some ⟨g, 0, none⟩) n.toNat n.toNat, .int .i64 0]) ∧ w.heap.size ≤ g ∧ Blk w' g (Lbx.strm key.toNat ep.toNat sq.toNat n.toNat) ∧ Below w.heap.size w w' := by
  obtain ⟨K, rfl⟩ := Int.eq_ofNat_of_zero_le hk0
  obtain ⟨E, rfl⟩ := Int.eq_ofNat_of_zero_le he0
  obtain ⟨S, rfl⟩ := Int.eq_ofNat_of_zero_le hs0
  obtain ⟨N, rfl⟩ := Int.eq_ofNat_of_zero_le hn0
  have hmk := run_make_bytes N (by omega)
  go_enter Tryz.func83, Tryz.ntmps83
  go_wp2_with (go_at_call 77; refine (rnumber_yes _ _ (by omega) (by omega)).mono ?_; rintro e w' ⟨rfl, hw'⟩; have hw2 := hw'.symm; clear hw'; subst hw2)
  go_loopw [14] (fun i wr => ∃ k : Nat, k ≤ N ∧ i = .int .i64 k ∧ Blk wr w.heap.size (Lbx.part (Lbx.strm K E S N) (List.replicate N 0) k) ∧ Below w.heap.size w wr) (fun i _ => N - (intOf i).toNat)
  case atStart =>
    refine ⟨0, Nat.zero_le _, rfl, ?_, (Below.refl _ _).alloc (Nat.le_refl _) _⟩
    rw [Lbx.part_zero]
    exact blk_new w _
  case round =>
    obtain ⟨k, hk', rfl, hb, hbel⟩ := hrel
    have hlen : (Lbx.part (Lbx.strm K E S N) (List.replicate N 0) k).length = N := by
      rw [Lbx.part_length _ _ _ (by simp [Lbx.strm_length])]; simp
    by_cases hlt : k < N
    · have hcell := hb.cell k (by omega)
      have hfr := hb.frozen k
      have hz := hb.lt
      have hzz := hbel.size
      go_wp2_with fail
      refine (rsum_any _ _ 0 4 4 [1, E, S, k] _ (by omega) (by omega) rfl (by omega) (four_get E S k (by omega) (by omega) (by omega)) ?hc).mono ?_
      case hc =>
        intro i hi
        match i, hi with
        | 0, _ => simp
        | 1, _ => simp
        | 2, _ => simp
        | 3, _ => simp
      rintro e w1 ⟨rfl, q, rfl⟩
      have hsl := Lbx.sumBy_lt (key := K) [1, E, S, k] (by omega)
      rw [Int.toNat_natCast]
      have hv : Lbx.sumBy K [1, E, S, k] % 256 = (Lbx.strm K E S N)[k]?.getD 0 := by rw [Lbx.strm_get _ _ _ _ _ hlt, Lbx.sumBy_four]
      have HV := (show Hid _ from hv)
      clear hv
      generalize Lbx.sumBy K [1, E, S, k] = A at *
      go_wp2
      go_roundw
      case rel =>
        refine ⟨k + 1, by omega, by go_num, ?_, ?_⟩
        · rw [← Lbx.part_succ _ _ _ (by simp [Lbx.strm_length]) (by simpa using hlt), ← HV.out]
          rw [conv_byte]
          exact (Blk.drewN (hb.alloc _) q).set k _
        · exact (below_drewN (hbel.alloc hzz _) q).setCell (by simp) _
      case measure => simp [intOf]; omega
    · go_wp2
      go_ret2
      refine ⟨w.heap.size, rfl, Nat.le_refl _, ?_, hbel⟩
      have e : k = (List.replicate N 0).length := by simp; omega
      rw [e, Lbx.part_all _ _ (by simp [Lbx.strm_length])] at hb
      exact hb

set_option maxHeartbeats 400000 in
theorem rstream_no (key ep sq n : Int) (w : World) (h : ¬ (0 ≤ key ∧ key ≤ 4294967295 ∧ 0 ≤ ep ∧ ep ≤ 4294967295 ∧ 0 ≤ sq ∧ sq ≤ 4294967295 ∧ 0 ≤ n ∧ n ≤ 200)) :
    Calls Tryz.prog 83 #[.int .i64 key, .int .i64 ep, .int .i64 sq, .int .i64 n] w fun e w' => e = .returned (.tuple #[.slice none 0 0, .int .i64 1]) ∧ w' = w := by
  by_cases h1 : 0 ≤ key ∧ key ≤ 4294967295
  · by_cases h2 : 0 ≤ ep ∧ ep ≤ 4294967295
    · by_cases h3 : 0 ≤ sq ∧ sq ≤ 4294967295
      · by_cases h4 : n < 0
        · go_enter Tryz.func83, Tryz.ntmps83
          go_wp2_with (go_at_call 77; refine (rnumber_yes _ _ (by omega) (by omega)).mono ?_; rintro e w' ⟨rfl, hw'⟩; have hw2 := hw'.symm; clear hw'; subst hw2)
          go_ret2
          exact ⟨rfl, rfl⟩
        · have h5 : 200 < n := by omega
          go_enter Tryz.func83, Tryz.ntmps83
          go_wp2_with (go_at_call 77; refine (rnumber_yes _ _ (by omega) (by omega)).mono ?_; rintro e w' ⟨rfl, hw'⟩; have hw2 := hw'.symm; clear hw'; subst hw2)
          go_ret2
          exact ⟨rfl, rfl⟩
      · go_enter Tryz.func83, Tryz.ntmps83
        go_wp2_with (go_at_call 77; first | (refine (rnumber_yes _ _ (by omega) (by omega)).mono ?_; rintro e w' ⟨rfl, hw'⟩; have hw2 := hw'.symm; clear hw'; subst hw2) | (refine (rnumber_no _ _ (by omega)).mono ?_; rintro e w' ⟨rfl, hw'⟩; have hw2 := hw'.symm; clear hw'; subst hw2))
        go_ret2
        exact ⟨rfl, rfl⟩
    · go_enter Tryz.func83, Tryz.ntmps83
      go_wp2_with fail
      refine (rnumber_yes _ _ (by omega) (by omega)).mono ?_
      rintro e w1 ⟨rfl, rfl⟩
      go_wp2_with fail
      refine (rnumber_no _ _ (by omega)).mono ?_
      rintro e w1 ⟨rfl, rfl⟩
      go_wp2
      all_goals go_ret2
      all_goals exact ⟨rfl, rfl⟩
  · go_enter Tryz.func83, Tryz.ntmps83
    go_wp2_with fail
    refine (rnumber_no _ _ (by omega)).mono ?_
    rintro e w1 ⟨rfl, rfl⟩
    go_wp2
    all_goals go_ret2
    all_goals exact ⟨rfl, rfl⟩
end Go.Proofs.YtloaefcgcniacaaGreatDoor

namespace Go.Proofs.YtloaefcgcniacaaGreatDoor
open Go.RowKit
set_option linter.unusedVariables false

def intV (n : Nat) : Value := .int .i64 (n : Int)
def iblkOf (l : List Nat) : Array Value := (l.map intV).toArray
def IBlk (w : World) (g : Nat) (l : List Nat) : Prop := w.heap[g]? = some (.cells (iblkOf l) 3 (0, 0))
theorem IBlk.lt {w : World} {g : Nat} {l : List Nat} (h : IBlk w g l) : g < w.heap.size := (Array.getElem?_eq_some_iff.1 h).1
theorem IBlk.cell {w : World} {g : Nat} {l : List Nat} (h : IBlk w g l) (i : Nat) (hi : i < l.length) :
    w.cell? ⟨g, i, none⟩ = some (.int .i64 ((l[i]?.getD 0 : Nat) : Int)) := by
  unfold IBlk at h
  simp [World.cell?, h, hi, intV, iblkOf]
theorem IBlk.frozen {w : World} {g : Nat} {l : List Nat} (h : IBlk w g l) (i : Nat) : w.frozen? ⟨g, i, none⟩ = false := by
  unfold IBlk at h
  simp [World.frozen?, h]
theorem IBlk.set {w : World} {g : Nat} {l : List Nat} (h : IBlk w g l) (i v : Nat) : IBlk (w.setCell ⟨g, i, none⟩ (.int .i64 (v : Int))) g (l.set i v) := by
  have hlt := h.lt
  have hv : w.heap[g] = .cells (iblkOf l) 3 (0, 0) := (Array.getElem?_eq_some_iff.1 h).2
  unfold IBlk World.setCell
  rw [Array.getElem?_eq_getElem (by simpa using hlt), Array.getElem_modify]
  simp [hv, List.map_set, intV, iblkOf]
theorem iblk_new (w : World) (l : List Nat) : IBlk (w.alloc (.cells (iblkOf l) 3)) w.heap.size l := by
  unfold IBlk World.alloc
  simp
theorem made_ints (n : Nat) : madeCells (Value.int .i64 0).cells n = iblkOf (List.replicate n 0) := by
  unfold madeCells iblkOf
  apply Array.ext
  · simp
  · intro i h1 h2
    simp [Value.cells, intV, Nat.mod_one]
theorem info3 : (Tryz.prog.info? 3).map (fun i => (i.zero, i.size, i.bytes)) = some (some (.int .i64 0), 1, 8) := by kernel_rfl
theorem run_make_ints (n : Nat) (hn : n ≤ 1099511627776) (w : World) :
    (Instr.makeSlice 192 (.int .i64 (n : Int)) (.int .i64 (n : Int))).run Tryz.prog w = .ok (.slice (some ⟨w.heap.size, 0, none⟩) n n) (w.alloc (.cells (iblkOf (List.replicate n 0)) 3)) := by
  obtain ⟨i0, hi, hz0, hz1, hz2⟩ := info_parts info3
  have h := run_make (P := Tryz.prog) w 192 3 i0 _ Tryz.underlying192 hi hz0 .i64 .i64 n n (by omega) (Int.le_refl _) (by rw [hz2]; omega) (by omega)
  rw [hz1, Nat.mul_one, Int.toNat_natCast, made_ints] at h
  exact h

set_option maxHeartbeats 400000 in
theorem rtag_any (key use : Int) (g off n cap : Nat) (l : List Nat) (w : World) (hk0 : 0 ≤ key) (hk : key < 4294967296) (hu0 : 0 ≤ use) (hu : use < 256) (hn : l.length = n) (hb : n < 1099511) (hl : ∀ x ∈ l, x < 256) (hr : Rd w g off l) (hg : g < w.heap.size) :
    Calls Tryz.prog 81 #[.int .i64 key, .int .i64 use, .slice (some ⟨g, off, none⟩) n cap] w fun e w' =>
      ∃ g', e = .returned (.slice (some ⟨g', 0, none⟩) 4 4) ∧ w.heap.size ≤ g' ∧ Blk w' g' (Lbx.four (Lbx.sumBy key.toNat (use.toNat :: l))) ∧ Below w.heap.size w w' := by
  obtain ⟨K, rfl⟩ := Int.eq_ofNat_of_zero_le hk0
  obtain ⟨U, rfl⟩ := Int.eq_ofNat_of_zero_le hu0
  simp only [Int.toNat_natCast]
  have HN : Hid (l.length = n) := hn
  clear hn
  have hmk := run_make_ints (n + 1) (by omega)
  have ec : ((n + 1 : Nat) : Int) = (n : Int) + 1 := by omega
  rw [ec] at hmk
  clear ec
  have hnn : (0 : Int) < (n : Int) + 1 := by omega
  have h0 : ((w.alloc (.cells (iblkOf (List.replicate (n + 1) 0)) 3)).cell? ⟨w.heap.size, 0, none⟩) = some (.int .i64 0) := by
    have := (iblk_new w (List.replicate (n + 1) 0)).cell 0 (by simp)
    simpa using this
  have h0f := (iblk_new w (List.replicate (n + 1) 0)).frozen 0
  go_enter Tryz.func81, Tryz.ntmps81
  go_wp2
  go_loopw [8] (fun i wr => ∃ k : Nat, k ≤ n ∧ i = .int .i64 k ∧ IBlk wr w.heap.size (U :: Lbx.part l (List.replicate n 0) k) ∧ Below w.heap.size w wr) (fun i _ => n - (intOf i).toNat)
  case atStart =>
    refine ⟨0, Nat.zero_le _, rfl, ?_, (Below.refl _ _).alloc (Nat.le_refl _) _⟩
    rw [Lbx.part_zero]
    have e : (iblkOf (List.replicate (n + 1) 0)).setIfInBounds 0 (Value.int IntKind.i64 ↑U) = iblkOf (U :: List.replicate n 0) := by
      simp [iblkOf, List.replicate_succ, intV]
    rw [e]
    exact iblk_new w _
  case round =>
    clear h0 h0f hmk
    obtain ⟨k, hk', rfl, hb1, hbel⟩ := hrel
    have hvl : l.length = (List.replicate n 0).length := by rw [HN.out]; simp
    have hlen : (Lbx.part l (List.replicate n 0) k).length = n := by rw [Lbx.part_length _ _ _ hvl]; simp
    by_cases hlt : k < n
    · have hcell := hb1.cell (k + 1) (by simp; omega)
      have hfr := hb1.frozen (k + 1)
      have hck := (hr.below hbel hg) k (by rw [HN.out]; exact hlt)
      have hlk := Lbx.get_lt l 256 (by decide) hl k
      have HVL := (show Hid _ from hvl)
      clear hvl hlen
      go_wp2
      go_roundw
      case rel =>
        refine ⟨k + 1, by omega, by go_num, ?_, hbel.setCell (by simp) _⟩
        rw [← Lbx.part_succ _ _ _ HVL.out (by simpa using hlt), ← List.set_cons_succ]
        exact hb1.set (k + 1) _
      case measure => simp [intOf]; omega
    · have ek : Lbx.part l (List.replicate n 0) k = l := by
        have e1 : k = (List.replicate n 0).length := by simp; omega
        rw [e1, Lbx.part_all _ _ hvl]
      rw [ek] at hb1
      clear ek hlen hvl
      have hzz := hbel.size
      go_wp2_with fail
      refine (rsum_any _ _ 0 (n + 1) (n + 1) (U :: l) _ (by omega) (by omega) (by rw [List.length_cons, HN.out]) (by omega) ?hbd ?hc).mono ?_
      case hbd =>
        intro i
        refine Lbx.get_lt _ _ (by decide) ?_ i
        intro x hx
        rcases List.mem_cons.1 hx with rfl | hx
        · omega
        · have := hl x hx; omega
      case hc =>
        intro i hi
        rw [Nat.zero_add]
        exact hb1.cell i (by rw [List.length_cons, HN.out]; exact hi)
      rintro e w1 ⟨rfl, q, rfl⟩
      have hsl := Lbx.sumBy_lt (key := K) (U :: l) (by omega)
      simp only [Int.toNat_natCast]
      obtain ⟨A, hA⟩ : ∃ A, A = Lbx.sumBy K (U :: l) := ⟨_, rfl⟩
      rw [← hA] at hsl ⊢
      have HA := (show Hid _ from hA)
      clear hA
      go_wp2_with fail
      refine (rfour_any _ _ (by omega) (by omega)).mono ?_
      rintro e w2 ⟨rfl, hB2, hb2⟩
      go_wp2
      go_ret
      rw [Int.toNat_natCast, HA.out] at hB2
      refine ⟨_, rfl, by simpa using hzz, by simpa using hB2, (below_drewN hbel q).trans (hb2.mono (by simpa using hzz))⟩

def z40 : List Nat := List.replicate 40 0
theorem z40_length : z40.length = 40 := by simp [z40]

set_option maxHeartbeats 1000000 in
theorem rveiled_any (key ep sq : Int) (g off cap : Nat) (l : List Nat) (w : World) (hk0 : 0 ≤ key) (hk : key ≤ 4294967295) (he0 : 0 ≤ ep) (he : ep ≤ 4294967295) (hs0 : 0 ≤ sq) (hs : sq ≤ 4294967295)
    (hn : l.length = 40) (hl : ∀ x ∈ l, x < 256) (hr : Rd w g off l) :
    Calls Tryz.prog 80 #[.int .i64 key, .int .i64 ep, .int .i64 sq, .slice (some ⟨g, off, none⟩) 40 cap] w fun e w' =>
      ∃ g', e = .returned (.slice (some ⟨g', 0, none⟩) 40 40) ∧ w.heap.size ≤ g' ∧ Blk w' g' (Lbx.veil key.toNat ep.toNat sq.toNat l) ∧ Below w.heap.size w w' := by
  obtain ⟨K, rfl⟩ := Int.eq_ofNat_of_zero_le hk0
  obtain ⟨E, rfl⟩ := Int.eq_ofNat_of_zero_le he0
  obtain ⟨S, rfl⟩ := Int.eq_ofNat_of_zero_le hs0
  have HN : Hid (l.length = 40) := hn
  have hg : g < w.heap.size := hr.lt (by omega)
  clear hn
  have hmk : ∀ w : World, (Instr.makeSlice 66 (.int .i64 40) (.int .i64 40)).run Tryz.prog w = .ok (.slice (some ⟨w.heap.size, 0, none⟩) 40 40) (w.alloc (.cells (blkOf z40) 5)) := run_make_bytes 40 (by omega)
  go_enter Tryz.func80, Tryz.ntmps80
  go_wp2_with fail
  refine (rstream_ok _ _ _ 40 _ (by omega) (by omega) (by omega) (by omega) (by omega) (by omega) (by omega) (by omega)).mono ?_
  rintro e w1 ⟨g1, rfl, hg1, hB1, hb1⟩
  simp only [Int.toNat_natCast] at hB1
  have e40 : (40 : Int).toNat = 40 := rfl
  rw [e40] at hB1 ⊢
  clear e40
  go_wp2
  have hz1 := hb1.size
  have hg1z := hB1.lt
  go_loopw [12] (fun i wr => ∃ k : Nat, k ≤ 40 ∧ i = .int .i64 k ∧ Blk wr w1.heap.size (Lbx.part (Lbx.veil K E S l) z40 k) ∧ Blk wr g1 (Lbx.strm K E S 40) ∧ Below w.heap.size w wr) (fun i _ => 40 - (intOf i).toNat)
  case atStart =>
    refine ⟨0, by omega, rfl, ?_, hB1.alloc _, hb1.alloc hz1 _⟩
    rw [Lbx.part_zero]
    exact blk_new w1 _
  case round =>
    clear hmk hB1
    obtain ⟨k, hk', rfl, hb, hBs, hbel⟩ := hrel
    have hvl : (Lbx.veil K E S l).length = z40.length := by rw [Lbx.veil_length, HN.out, z40_length]
    have hlen : (Lbx.part (Lbx.veil K E S l) z40 k).length = 40 := by rw [Lbx.part_length _ _ _ hvl, z40_length]
    by_cases hlt : k < 40
    · have hcell := hb.cell k (by omega)
      have hfr := hb.frozen k
      have hcs := hBs.cell k (by rw [Lbx.strm_length]; exact hlt)
      have hcb := (hr.below hbel hg) k (by rw [HN.out]; exact hlt)
      have b1 := Lbx.get_lt _ 256 (by decide) (Lbx.strm_lt K E S 40) k
      have b2 := Lbx.get_lt _ 256 (by decide) hl k
      have hlti : (k : Int) < 40 := by omega
      have hve := Lbx.veil_get K E S l k (by rw [HN.out]; exact hlt)
      rw [HN.out] at hve
      have HVE := (show Hid _ from hve)
      have HVL := (show Hid _ from hvl)
      have hxl := Lbx.xlt8 b2 b1
      clear hve hvl hlen
      generalize hsk : (Lbx.strm K E S 40)[k]?.getD 0 = sk at *
      generalize hlk : l[k]?.getD 0 = lk at *
      have HSK := (show Hid _ from hsk)
      have HLK := (show Hid _ from hlk)
      clear hsk hlk
      go_wp2_with fail
      go_quiet ((go_at_call 136; exact Calls.quiet_of (rxor_any _ _ _ (by omega) (by omega) (by omega) (by omega))))
      simp only [Int.toNat_natCast]
      go_wp2
      go_roundw
      case rel =>
        refine ⟨k + 1, by omega, by go_num, ?_, ?_, ?_⟩
        · rw [← Lbx.part_succ _ _ _ HVL.out (by rw [z40_length]; exact hlt), HVE.out, Nat.xor_comm]
          exact (Blk.drewN hb _).set k _
        · exact (Blk.drewN hBs _).other _ _ (by show g1 ≠ w1.heap.size; omega)
        · exact (below_drewN hbel _).setCell (by exact hz1) _
      case measure => simp [intOf]; omega
    · have ek : Lbx.part (Lbx.veil K E S l) z40 k = Lbx.veil K E S l := by
        have e1 : k = z40.length := by rw [z40_length]; omega
        rw [e1, Lbx.part_all _ _ hvl]
      rw [ek] at hb
      clear ek hlen hvl
      have hlti : ¬ (k : Int) < 40 := by omega
      go_wp2
      go_ret
      exact ⟨w1.heap.size, rfl, hz1, hb, hbel⟩
end Go.Proofs.YtloaefcgcniacaaGreatDoor

namespace Go.Proofs.YtloaefcgcniacaaGreatDoor
open Go.RowKit
set_option linter.unusedVariables false

set_option maxHeartbeats 1000000 in
theorem rframe_yes (kd ix ep sq : Int) (a : Option Addr) (cap : Nat) (w : World) (hd0 : 1 ≤ kd) (hd : kd ≤ 3) (hi0 : 0 ≤ ix) (hi : ix ≤ 255) (he0 : 0 ≤ ep) (he : ep ≤ 4294967295) (hs0 : 0 ≤ sq) (hs : sq ≤ 4294967295) :
    Calls Tryz.prog 78 #[.agg #[.int .i64 kd, .int .i64 ix, .int .i64 ep, .int .i64 sq, .slice a 40 cap]] w fun e w' => e = .returned (.bool true) ∧ Below w.heap.size w w' := by
  go_enter Tryz.func78, Tryz.ntmps78
  go_wp2_with (first | (go_at_call 77; refine (rnumber_yes _ _ (by omega) (by omega)).mono ?_; rintro e w' ⟨rfl, rfl⟩))
  go_ret
  exact ⟨rfl, (Below.refl _ _).alloc (Nat.le_refl _) _⟩

theorem Blk.grown {w w' : World} {g r : Nat} {l : List Nat} (h : Blk w g l) (hb : w.grownBy w' (some r)) (hne : g ≠ r) : Blk w' g l := by
  have hlt := h.lt
  unfold Blk at h ⊢
  rw [hb.block g hlt (fun e => hne (by cases e; rfl)), h]
theorem Went.ne {w w1 : World} {g cap n g1 cap1 x : Nat} (h : Went w w1 g cap n g1 cap1) (hx : x < w.heap.size) (hne : x ≠ g) : x ≠ g1 := by
  rcases h.2 with ⟨_, rfl, _⟩ | ⟨_, h2⟩
  · exact hne
  · omega

theorem own_two (w : World) (D I : Nat) : OwnB (w.alloc (.cells #[.int .u8 (D : Int), .int .u8 (I : Int)] 5)) w.heap.size 2 [D, I] :=
  (blk_new w [D, I]).own (by unfold maxLen; simp)

set_option maxHeartbeats 2000000 in
theorem rseal_ok (key : Int) (D I E S g off cap : Nat) (body : List Nat) (w : World) (hk0 : 0 ≤ key) (hk : key ≤ 4294967295) (h1 : 1 ≤ D) (h3 : D ≤ 3) (hI : I ≤ 255) (hE : E ≤ 4294967295) (hS : S ≤ 4294967295)
    (hn : body.length = 40) (hl : ∀ x ∈ body, x < 256) (hr : Rd w g off body) :
    Calls Tryz.prog 37 #[.int .i64 key, .agg #[.int .i64 (D : Int), .int .i64 (I : Int), .int .i64 (E : Int), .int .i64 (S : Int), .slice (some ⟨g, off, none⟩) 40 cap]] w fun e w' =>
      ∃ g' cap', e = .returned (.tuple #[.slice (some ⟨g', 0, none⟩) 58 cap', .int .i64 0]) ∧ w.heap.size ≤ g' ∧ OwnB w' g' cap' (Lbx.sealB key.toNat D I E S body) ∧ Below w.heap.size w w' := by
  obtain ⟨K, rfl⟩ := Int.eq_ofNat_of_zero_le hk0
  simp only [Int.toNat_natCast]
  have HN : Hid (body.length = 40) := hn
  clear hn
  have hg : g < w.heap.size := hr.lt (by rw [HN.out]; omega)
  go_enter Tryz.func37, Tryz.ntmps37
  go_wp2_with (first | (go_at_call 77; refine (rnumber_yes _ _ (by omega) (by omega)).mono ?_; rintro e w' ⟨rfl, hw'⟩; have hw2 := hw'.symm; clear hw'; subst hw2))
  refine (rframe_yes _ _ _ _ _ _ _ (by omega) (by omega) (by omega) (by omega) (by omega) (by omega) (by omega) (by omega)).mono ?_
  rintro e w1 ⟨rfl, hb1⟩
  have hF := (fr_new w D I E S (.slice (some ⟨g, off, none⟩) 40 cap)).below hb1 (by simp)
  have hb01 : Below w.heap.size w w1 := ((Below.refl _ _).alloc (Nat.le_refl _) _).trans (hb1.mono (by simp))
  have hz1 : w.heap.size < w1.heap.size := by have := hb1.size; simp at this; omega
  have HF := hF
  obtain ⟨f0, f1, f2, f3, f4⟩ := HF
  have hr1 := hr.below hb01 hg
  clear hb1 hr
  go_wp2_with fail
  have hbo := own_two w1 D I
  have hba : Below w1.heap.size w1 (w1.alloc (Obj.cells #[Value.int IntKind.u8 ↑D, Value.int IntKind.u8 ↑I] 5)) := (Below.refl _ _).alloc (Nat.le_refl _) _
  have hza : (w1.alloc (Obj.cells #[Value.int IntKind.u8 ↑D, Value.int IntKind.u8 ↑I] 5)).heap.size = w1.heap.size + 1 := by simp
  generalize (w1.alloc (Obj.cells #[Value.int IntKind.u8 ↑D, Value.int IntKind.u8 ↑I] 5)) = W1 at *
  clear f0 f1 f2 f3 f4
  refine (rfour_any _ _ (by omega) (by omega)).mono ?_
  rintro e w2 ⟨rfl, hBe, hb2⟩
  rw [hza] at hBe ⊢
  have hz2 := hb2.size
  have hb12 : Below w1.heap.size w1 w2 := hba.trans (hb2.mono (by omega))
  have hF2 := hF.below hb12 (by omega)
  obtain ⟨f0, f1, f2, f3, f4⟩ := hF2
  go_wp2_with fail
  clear f0 f1 f2 f3 f4
  refine (rfour_any _ _ (by omega) (by omega)).mono ?_
  rintro e w3 ⟨rfl, hBs, hb3⟩
  have hz3 := hb3.size
  have hb13 : Below w1.heap.size w1 w3 := hb12.trans (hb3.mono (by omega))
  have hF3 := hF.below hb13 (by omega)
  obtain ⟨f0, f1, f2, f3, f4⟩ := hF3
  have hgz : g < w1.heap.size := by omega
  have hr3 := hr1.below hb13 hgz
  go_wp2_with fail
  clear f0 f1 f2 f3 f4
  refine (rveiled_any _ _ _ _ _ _ body _ (by omega) (by omega) (by omega) (by omega) (by omega) (by omega) HN.out hl hr3).mono ?_
  rintro e w4 ⟨gv, rfl, hgv, hBv, hb4⟩
  have hz4 := hb4.size
  have hsz3 := hBs.lt
  simp only [Int.toNat_natCast] at hBe hBs hBv
  have own4 : OwnB w4 w1.heap.size 2 [D, I] := ((hbo.below hb2 (by omega)).below hb3 (by omega)).below hb4 (by omega)
  have hBe4 := (hBe.below hb3 hBe.lt).below hb4 (by have := hBe.lt; omega)
  have hBs4 := hBs.below hb4 hBs.lt
  have hgvz := hBv.lt
  have hb04 : Below w.heap.size w w4 := hb01.trans ((hb13.trans (hb4.mono (by omega))).mono (by omega))
  clear hbo hba hb2 hb3 hb4 hb12 hb13 hF hr1 hr3 hBe hBs hb01
  go_wp2_with (at_builtin; go_loud (refine wpList_append_bytes rfl (.tmp 45) (.tmp 46) rfl w1.heap.size 2 2 [D, I] own4 rfl ⟨w1.heap.size + 1, 0, none⟩ 4 4 (Lbx.four E) rfl rfl rfl (fun j hj => by rw [Addr.add_lit, Nat.zero_add]; exact hBe4.cell j (by rw [Lbx.four_length]; exact hj)) (by omega) ?_))
  intro g5 c5 w5 hO5 hw5
  have hs5 : w2.heap.size ≠ g5 := hw5.ne (by omega) (by omega)
  have hv5 : gv ≠ g5 := hw5.ne (by omega) (by omega)
  have hBs5 := hBs4.grown hw5.1 (by omega)
  have hBv5 := hBv.grown hw5.1 (by omega)
  have hz5 := hw5.1.size
  go_wp2_with (at_builtin; go_loud (refine wpList_append_bytes rfl (.tmp 48) (.tmp 49) rfl g5 c5 6 _ hO5 rfl ⟨w2.heap.size, 0, none⟩ 4 4 (Lbx.four S) rfl rfl rfl (fun j hj => by rw [Addr.add_lit, Nat.zero_add]; exact hBs5.cell j (by rw [Lbx.four_length]; exact hj)) (by omega) ?_))
  intro g6 c6 w6 hO6 hw6
  have hv6 : gv ≠ g6 := hw6.ne (by omega) hv5
  have hBv6 := hBv5.grown hw6.1 hv5
  have hz6 := hw6.1.size
  go_wp2_with (at_builtin; go_loud (refine wpList_append_bytes rfl (.tmp 51) (.tmp 52) rfl g6 c6 10 _ hO6 rfl ⟨gv, 0, none⟩ 40 40 (Lbx.veil K E S body) (by rw [Lbx.veil_length]; exact HN.out) rfl rfl (fun j hj => by rw [Addr.add_lit, Nat.zero_add]; exact hBv6.cell j (by rw [Lbx.veil_length, HN.out]; exact hj)) (by omega) ?_))
  intro g7 c7 w7 hO7 hw7
  have hO7' : OwnB w7 g7 c7 (Lbx.headB K D I E S body) := by simpa [Lbx.headB] using hO7
  have h47 := (hw5.trans hw6 (by omega)).trans hw7 (by omega)
  have hg7 : w.heap.size ≤ g7 := h47.at (by omega) (by omega)
  have hb07 : Below w.heap.size w w7 := hb04.trans (h47.below (by omega) (by omega))
  have hlen : (Lbx.headB K D I E S body).length = 50 := by rw [Lbx.headB_length, HN.out]
  have hlt := Lbx.headB_lt K D I E S body (by omega) (by omega) hl
  have hz7 := hb07.size
  have hg7z := hO7'.lt
  clear hO5 hO6 hO7 hw5 hw6 hw7 h47 hBs5 hBv5 hBv6 hBs4 hBe4 hBv own4 hb04
  obtain ⟨Hd, hHd⟩ : ∃ Hd, Hd = Lbx.headB K D I E S body := ⟨_, rfl⟩
  rw [← hHd] at hO7' hlen hlt
  have HHD := (show Hid _ from hHd)
  clear hHd
  go_wp2_with fail
  refine (rtag_any _ 2 _ _ 50 _ Hd _ (by omega) (by omega) (by omega) (by omega) hlen (by omega) hlt hO7'.rd hg7z).mono ?_
  rintro e w8 ⟨g8, rfl, hg8, hB8, hb8⟩
  have hz8 := hb8.size
  have hO8 := hO7'.below hb8 hg7z
  go_wp2_with fail
  refine (rtag_any _ 3 _ _ 50 _ Hd _ (by omega) (by omega) (by omega) (by omega) hlen (by omega) hlt hO8.rd (by omega)).mono ?_
  rintro e w9 ⟨g9, rfl, hg9, hB9, hb9⟩
  have hz9 := hb9.size
  have hg8z := hB8.lt
  have hg9z := hB9.lt
  have hO9 := hO8.below hb9 (by omega)
  have hB89 := hB8.below hb9 hg8z
  have hb09 : Below w.heap.size w w9 := hb07.trans ((hb8.mono (by omega)).trans (hb9.mono (by omega)))
  have HLN := (show Hid _ from hlen)
  clear hO8 hO7' hB8 hb8 hb9 hb07 hlen
  go_wp2_with (at_builtin; go_loud (refine wpList_append_bytes rfl (.tmp 60) (.tmp 61) rfl g7 c7 50 Hd hO9 HLN.out ⟨g8, 0, none⟩ 4 4 _ rfl rfl rfl (fun j hj => by rw [Addr.add_lit, Nat.zero_add]; exact hB89.cell j (by rw [Lbx.four_length]; exact hj)) (by omega) ?_))
  intro g10 c10 w10 hO10 hw10
  have hn9 : g9 ≠ g10 := hw10.ne (by omega) (by omega)
  have hB10 := hB9.grown hw10.1 (by omega)
  go_wp2_with (at_builtin; go_loud (refine wpList_append_bytes rfl (.tmp 63) (.tmp 64) rfl g10 c10 54 _ hO10 (by rw [List.length_append, Lbx.four_length, HLN.out]) ⟨g9, 0, none⟩ 4 4 _ rfl rfl rfl (fun j hj => by rw [Addr.add_lit, Nat.zero_add]; exact hB10.cell j (by rw [Lbx.four_length]; exact hj)) (by omega) ?_))
  intro g11 c11 w11 hO11 hw11
  have h911 := hw10.trans hw11 (by omega)
  go_wp2
  go_ret2
  refine ⟨g11, c11, rfl, h911.at (by omega) (by omega), ?_, hb09.trans (h911.below (by omega) (by omega))⟩
  unfold Lbx.sealB
  rw [← HHD.out, List.append_assoc]
  exact hO11
end Go.Proofs.YtloaefcgcniacaaGreatDoor
