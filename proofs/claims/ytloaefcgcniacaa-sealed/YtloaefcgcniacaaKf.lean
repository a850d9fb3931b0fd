import Derived.Test.YtloaefcgcniacaaKe
namespace Go.Proofs.Ytloaefcgcniacaa
open Go.RowKit

theorem tag_snoc (K u : Nat) (l : List Nat) (k : Nat) (hk : k < l.length) :
    Lbx.sumBy K (u :: l.take (k + 1)) = Lbx.stp (Lbx.sumBy K (u :: l.take k)) (l[k]?.getD 0) := by
  have e : u :: l.take (k + 1) = (u :: l.take k) ++ [l[k]] := by rw [List.take_succ_eq_append_getElem hk]; rfl
  rw [e, Lbx.sumBy_snoc]
  simp [hk]

theorem one_get (u : Nat) (hu : u < 4294967296) (i : Nat) : [u].getD i 0 < 4294967296 := by
  match i with
  | 0 => simpa using hu
  | n + 1 => simp

set_option maxHeartbeats 1000000 in
theorem appendTag_any (g cap n : Nat) (key : Int) (l : List Nat) (w : World) (hk0 : 0 ≤ key) (hk : key < 4294967296) (hO : OwnB w g cap l) (hn : l.length = n) (hb : n < 1099511627000) (hl : ∀ x ∈ l, x < 256) :
    Calls Try.prog 24 #[.slice (some ⟨g, 0, none⟩) n cap, .int .u32 key] w fun e w' =>
      ∃ g' cap', e = .returned (.slice (some ⟨g', 0, none⟩) (n + 8) cap') ∧ OwnB w' g' cap' (l ++ Lbx.four (Lbx.sumBy key.toNat (2 :: l)) ++ Lbx.four (Lbx.sumBy key.toNat (3 :: l))) ∧ Went w w' g cap (n + 8) g' cap' := by
  obtain ⟨K, rfl⟩ := Int.eq_ofNat_of_zero_le hk0
  have HN : Hid (l.length = n) := hn
  clear hn
  have hlt := hO.lt
  go_enter Try.func24, Try.ntmps24
  go_wp2_with fail
  refine (sum_any _ _ 0 1 1 [2] _ (by omega) (by omega) rfl (by omega) (one_get 2 (by omega)) ?hc1).mono ?_
  case hc1 =>
    intro i hi
    match i, hi with
    | 0, _ => simp
  rintro e w1 ⟨rfl, rfl⟩
  rw [Int.toNat_natCast]
  go_wp2_with fail
  refine (sum_any _ _ 0 1 1 [3] _ (by omega) (by omega) rfl (by omega) (one_get 3 (by omega)) ?hc2).mono ?_
  case hc2 =>
    intro i hi
    match i, hi with
    | 0, _ => simp
  rintro e w1 ⟨rfl, rfl⟩
  rw [Int.toNat_natCast]
  go_wp2_with fail
  have hO2 := (hO.alloc (Obj.cells #[Value.int IntKind.u32 2] 41)).alloc (Obj.cells #[Value.int IntKind.u32 3] 41)
  obtain ⟨W, hW⟩ : ∃ W, W = ((w.alloc (Obj.cells #[Value.int IntKind.u32 2] 41)).alloc (Obj.cells #[Value.int IntKind.u32 3] 41)) := ⟨_, rfl⟩
  rw [← hW] at hO2 ⊢
  have HW : Hid (W = ((w.alloc (Obj.cells #[Value.int IntKind.u32 2] 41)).alloc (Obj.cells #[Value.int IntKind.u32 3] 41))) := hW
  clear hW
  go_loop [5, 6, 17] (fun x y i => ∃ k : Nat, k ≤ n ∧ i = .int .i64 k ∧ x = .int .u32 ((Lbx.sumBy K (2 :: l.take k) : Nat) : Int) ∧ y = .int .u32 ((Lbx.sumBy K (3 :: l.take k) : Nat) : Int)) (fun _ _ i => n - (intOf i).toNat)
  case atStart => exact ⟨0, Nat.zero_le _, rfl, rfl, rfl⟩
  case round =>
    obtain ⟨k, hk', rfl, rfl, rfl⟩ := hrel
    have hs2 := Lbx.sumBy_lt (key := K) (2 :: l.take k) (by omega)
    have hs3 := Lbx.sumBy_lt (key := K) (3 :: l.take k) (by omega)
    by_cases hlt : k < n
    · have hck := hO2.rd k (by rw [HN.out]; exact hlt)
      rw [Nat.zero_add] at hck
      have hlk := Lbx.get_lt l 256 (by decide) hl k
      go_wp2_with (go_at_call 22; refine (step_any _ _ _ (by omega) (by omega) (by omega) (by omega)).mono ?_; rintro e w' ⟨rfl, rfl⟩)
      go_round
      case rel =>
        have e2 := tag_snoc K 2 l k (by rw [HN.out]; exact hlt)
        have e3 := tag_snoc K 3 l k (by rw [HN.out]; exact hlt)
        exact ⟨k + 1, by omega, by go_num, by rw [e2], by rw [e3]⟩
      case measure => simp [intOf]; omega
    · have ek : l.take k = l := List.take_of_length_le (by have := HN.out; omega)
      rw [ek] at hs2 hs3 ⊢
      clear ek
      go_wp2_with fail
      refine (appendNumber_any _ _ _ _ l _ (by omega) (by omega) hO2 HN.out (by omega)).mono ?_
      rintro e w1 ⟨g1, cap1, rfl, hO3, hW3⟩
      go_wp2_with fail
      refine (appendNumber_any _ _ _ _ _ _ (by omega) (by omega) hO3 (by have := HN.out; simp [Lbx.four_length, this]) (by omega)).mono ?_
      rintro e w2 ⟨g2, cap2, rfl, hO4, hW4⟩
      go_wp2
      go_ret
      refine ⟨g2, cap2, rfl, by simpa using hO4, ?_⟩
      have h5 := hW3.trans hW4 (by omega)
      rw [HW.out] at h5
      exact h5.alloc_left.alloc_left
end Go.Proofs.Ytloaefcgcniacaa
