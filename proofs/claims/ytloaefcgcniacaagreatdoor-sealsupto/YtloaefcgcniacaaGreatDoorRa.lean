import Derived.Test.YtloaefcgcniacaaGreatDoorKt
namespace Go.Proofs.YtloaefcgcniacaaGreatDoor
open Go.RowKit
set_option linter.unusedVariables false

theorem bit_xor (A B k : Nat) : (A ^^^ B) / 2 ^ k % 2 = if A / 2 ^ k % 2 = B / 2 ^ k % 2 then 0 else 1 := by
  have h := Nat.testBit_xor A B k
  rw [Nat.testBit_eq_decide_div_mod_eq, Nat.testBit_eq_decide_div_mod_eq, Nat.testBit_eq_decide_div_mod_eq] at h
  have h1 : (A ^^^ B) / 2 ^ k % 2 < 2 := Nat.mod_lt _ (by decide)
  have h2 : A / 2 ^ k % 2 < 2 := Nat.mod_lt _ (by decide)
  have h3 : B / 2 ^ k % 2 < 2 := Nat.mod_lt _ (by decide)
  generalize (A ^^^ B) / 2 ^ k % 2 = x at *
  generalize A / 2 ^ k % 2 = y at *
  generalize B / 2 ^ k % 2 = z at *
  match x, y, z, h1, h2, h3 with
  | 0, 0, 0, _, _, _ => rfl
  | 0, 0, 1, _, _, _ => simp at h
  | 0, 1, 0, _, _, _ => simp at h
  | 0, 1, 1, _, _, _ => rfl
  | 1, 0, 0, _, _, _ => simp at h
  | 1, 0, 1, _, _, _ => rfl
  | 1, 1, 0, _, _, _ => rfl
  | 1, 1, 1, _, _, _ => simp at h

theorem xor_same (A B k : Nat) (h : A / 2 ^ k % 2 = B / 2 ^ k % 2) : (A ^^^ B) % 2 ^ (k + 1) = (A ^^^ B) % 2 ^ k := by
  rw [Nat.mod_pow_succ, bit_xor, if_pos h]
  omega
theorem xor_other (A B k : Nat) (h : ¬ A / 2 ^ k % 2 = B / 2 ^ k % 2) : (A ^^^ B) % 2 ^ (k + 1) = (A ^^^ B) % 2 ^ k + 2 ^ k := by
  rw [Nat.mod_pow_succ, bit_xor, if_neg h]
  omega

theorem wrap64_eq (x : Int) (h0 : -4611686018427387904 ≤ x) (h1 : x ≤ 4611686018427387904) : wrap64 x = x := by
  unfold wrap64
  omega

def pw (k : Nat) : Nat := 2 ^ k
def xorTo (A B k : Nat) : Nat := (A ^^^ B) % 2 ^ k

set_option maxHeartbeats 400000 in
theorem rxor_any (a b : Int) (w : World) (ha0 : 0 ≤ a) (ha : a < 4294967296) (hb0 : 0 ≤ b) (hb : b < 4294967296) :
    Calls Tryz.prog 136 #[.int .i64 a, .int .i64 b] w fun e w' => e = .returned (.int .i64 ((a.toNat ^^^ b.toNat : Nat) : Int)) ∧ ∃ q, w' = w.drewN q := by
  obtain ⟨A, rfl⟩ := Int.eq_ofNat_of_zero_le ha0
  obtain ⟨B, rfl⟩ := Int.eq_ofNat_of_zero_le hb0
  simp only [Int.toNat_natCast]
  go_enter Tryz.func136, Tryz.ntmps136
  go_wp2
  go_loopw [5, 6, 7] (fun n p i wr => ∃ k : Nat, k ≤ 32 ∧ i = .int .i64 k ∧ p = .int .i64 ((pw k : Nat) : Int) ∧ n = .int .i64 ((xorTo A B k : Nat) : Int) ∧ ∃ q, wr = w.drewN q) (fun _ _ i _ => 32 - (intOf i).toNat)
  case atStart => exact ⟨0, by omega, rfl, rfl, by unfold xorTo; rw [Nat.pow_zero, Nat.mod_one]; rfl, 0, rfl⟩
  case round =>
    obtain ⟨k, hk, rfl, rfl, rfl, q, rfl⟩ := hrel
    by_cases hlt : k < 32
    · have hs : A / pw k % 2 = B / pw k % 2 → xorTo A B (k + 1) = xorTo A B k := xor_same A B k
      have ho : ¬ A / pw k % 2 = B / pw k % 2 → xorTo A B (k + 1) = xorTo A B k + pw k := xor_other A B k
      have hp : 0 < pw k := Nat.pow_pos (by decide)
      have hp2 : pw k ≤ 2147483648 := by
        have h1 : 2 ^ k ≤ 2 ^ 31 := Nat.pow_le_pow_right (by decide) (by omega)
        have h2 : (2 : Nat) ^ 31 = 2147483648 := by decide
        unfold pw
        omega
      have hpk : pw (k + 1) = 2 * pw k := by unfold pw; rw [Nat.pow_succ, Nat.mul_comm]
      have hn : xorTo A B k < pw k := Nat.mod_lt _ hp
      have HS := (show Hid _ from hs)
      have HO := (show Hid _ from ho)
      have HP := (show Hid _ from hpk)
      clear hs ho hpk
      generalize xorTo A B k = n at *
      generalize pw k = P at *
      have hP0 : (0 : Int) < (P : Int) := by omega
      have hlti : (k : Int) < 32 := by omega
      have dA0 : 0 ≤ (A : Int) / (P : Int) := Int.ediv_nonneg ha0 (by omega)
      have dB0 : 0 ≤ (B : Int) / (P : Int) := Int.ediv_nonneg hb0 (by omega)
      have dA1 : (A : Int) / (P : Int) < 4294967296 := by have := Int.ediv_le_self (P : Int) ha0; omega
      have dB1 : (B : Int) / (P : Int) < 4294967296 := by have := Int.ediv_le_self (P : Int) hb0; omega
      have hP1 : (P : Int) ≤ 2147483648 := by omega
      have hn1 : (n : Int) < 2147483648 := by omega
      clear hp2 hp hn
      by_cases hbit : A / P % 2 = B / P % 2
      · have ht : (((A : Int) / (P : Int) % 2) != ((B : Int) / (P : Int) % 2)) = false := by
          have : ((A : Int) / (P : Int) % 2) = ((B : Int) / (P : Int) % 2) := by
            have h1 := congrArg (fun x : Nat => (x : Int)) hbit
            simpa using h1
          rw [this]
          simp
        have HB := (show Hid _ from hbit)
        clear hbit
        go_wp2_with fail
        go_quiet (fail)
        have Hp1 := (show Hid _ from hP1)
        have Hn1 := (show Hid _ from hn1)
        clear ha hb hP1 hn1 ht dA0 dB0 dA1 dB1
        go_wp2
        go_roundw
        case rel =>
          refine ⟨k + 1, by omega, by go_num, ?_, ?_, _, rfl⟩
          · rw [HP.out, wrap64_eq _ (by have := Hp1.out; omega) (by have := Hp1.out; omega)]; go_num
          · rw [HS.out HB.out]
        case measure => simp [intOf]; omega
      · have ht : (((A : Int) / (P : Int) % 2) != ((B : Int) / (P : Int) % 2)) = true := by
          rw [bne_iff_ne]
          intro h1
          apply hbit
          have : ((A / P % 2 : Nat) : Int) = ((B / P % 2 : Nat) : Int) := by simpa using h1
          omega
        have HB := (show Hid _ from hbit)
        clear hbit
        go_wp2_with fail
        go_quiet (fail)
        have Hp1 := (show Hid _ from hP1)
        have Hn1 := (show Hid _ from hn1)
        clear ha hb hP1 hn1 ht dA0 dB0 dA1 dB1
        go_wp2
        go_roundw
        case rel =>
          refine ⟨k + 1, by omega, by go_num, ?_, ?_, _, rfl⟩
          · rw [HP.out, wrap64_eq _ (by have := Hp1.out; omega) (by have := Hp1.out; omega)]; go_num
          · rw [HO.out HB.out, wrap64_eq _ (by have := Hp1.out; have := Hn1.out; omega) (by have := Hp1.out; have := Hn1.out; omega)]; go_num
        case measure => simp [intOf]; omega
    · have hk32 : k = 32 := by omega
      subst hk32
      have hx : xorTo A B 32 = A ^^^ B := Nat.mod_eq_of_lt (by
        have h := Lbx.xlt (a := A) (b := B) (by omega) (by omega)
        have h2 : (2 : Nat) ^ 32 = 4294967296 := by decide
        omega)
      rw [hx]
      have HX := (show Hid _ from hx)
      clear hx
      go_wp2
      go_ret
      exact ⟨rfl, q, rfl⟩
end Go.Proofs.YtloaefcgcniacaaGreatDoor
