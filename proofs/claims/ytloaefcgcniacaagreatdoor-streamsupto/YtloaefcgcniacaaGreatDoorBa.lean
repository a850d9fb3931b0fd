import Derived.Test.YtloaefcgcniacaaGreatDoorRe
namespace Go.Proofs.YtloaefcgcniacaaGreatDoor
open Go.RowKit
set_option linter.unusedVariables false

def markN (n i : Nat) : Nat := if i % 2 = 0 then 1 + n % 251 else 1 + n / 251 % 251
theorem markN_lt (n i : Nat) : markN n i < 256 := by
  unfold markN
  split <;> omega

set_option maxHeartbeats 400000 in
theorem mark_any (n i : Int) (w : World) (hn0 : 0 ≤ n) (hn : n ≤ 1000000000000) (hi0 : 0 ≤ i) (hi : i ≤ 1000000000000) :
    Calls Tryz.prog 106 #[.int .i64 n, .int .i64 i] w fun e w' => e = .returned (.int .u8 ((markN n.toNat i.toNat : Nat) : Int)) ∧ w' = w := by
  obtain ⟨N, rfl⟩ := Int.eq_ofNat_of_zero_le hn0
  obtain ⟨I, rfl⟩ := Int.eq_ofNat_of_zero_le hi0
  simp only [Int.toNat_natCast]
  by_cases h : I % 2 = 0
  · have ht : ((I : Int) % 2 == 0) = true := by rw [beq_iff_eq]; omega
    go_enter Tryz.func106, Tryz.ntmps106
    go_wp2
    go_ret
    exact ⟨ret_int (by unfold markN; rw [if_pos h]; omega), rfl⟩
  · have ht : ((I : Int) % 2 == 0) = false := by rw [beq_eq_false_iff_ne]; omega
    go_enter Tryz.func106, Tryz.ntmps106
    go_wp2
    go_ret
    exact ⟨ret_int (by unfold markN; rw [if_neg h]; omega), rfl⟩

/-- The slice reads as the caller has written it: marks of the j-th list. -/
def Mk (w : World) (p : Option Addr) (n c : Nat) (j : Nat) : Prop :=
  (p = none ∧ n = 0 ∧ c = 0) ∨ ∃ (g : Nat) (cur : Array Value) (fz : Nat × Nat), p = some ⟨g, 0, none⟩ ∧ n ≤ 3000000 ∧ w.heap[g]? = some (Obj.cells cur 5 fz) ∧ ∀ i, i < n → cur[i]? = some (byteV (markN j i))

theorem Mk.cell {w : World} {g n c j : Nat} (h : Mk w (some ⟨g, 0, none⟩) n c j) (i : Nat) (hi : i < n) : w.cell? ⟨g, i, none⟩ = some (.int .u8 ((markN j i : Nat) : Int)) := by
  rcases h with ⟨h, _⟩ | ⟨g', cur, fz, h1, _, h2, h3⟩
  · cases h
  · cases h1
    simp only [World.cell?, h2]
    simpa [byteV] using h3 i hi

set_option maxHeartbeats 400000 in
theorem marked_any (p : Option Addr) (n c j : Nat) (w : World) (hj : j ≤ 1000000) (h : Mk w p n c j) :
    Calls Tryz.prog 44 #[.slice p n c, .int .i64 (j : Int)] w fun e w' => e = .returned (.bool true) ∧ ∃ q, w' = w.drewN q := by
  have h' := h
  rcases h with ⟨rfl, rfl, rfl⟩ | ⟨g, cur, fz, rfl, hn, h2, h3⟩
  · go_enter Tryz.func44, Tryz.ntmps44
    go_wp2
    refine wp_loop_rounds 1 ?_
    rw [rounds_succ]
    go_wp2
    go_ret
    exact ⟨rfl, 0, rfl⟩
  · clear h2 h3
    go_enter Tryz.func44, Tryz.ntmps44
    go_wp2
    go_loopw [5] (fun i wr => ∃ k : Nat, k ≤ n ∧ i = .int .i64 k ∧ ∃ q, wr = w.drewN q) (fun i _ => n - (intOf i).toNat)
    case atStart => exact ⟨0, Nat.zero_le _, rfl, 0, rfl⟩
    case round =>
      obtain ⟨k, hk, rfl, q, hq⟩ := hrel
      have HQ := (show Hid _ from hq)
      by_cases hlt : k < n
      · have hc : wr.cell? ⟨g, k, none⟩ = some (.int .u8 ((markN j k : Nat) : Int)) := by rw [hq]; simpa using h'.cell k hlt
        clear hq
        have hlti : (k : Int) < (n : Int) := by omega
        go_wp2_with fail
        go_quiet ((go_at_call 106; exact Calls.quiet_of_same (mark_any _ _ _ (by omega) (by omega) (by omega) (by omega))))
        go_wp2
        go_roundw
        case rel => exact ⟨k + 1, by omega, by go_num, _, by rw [HQ.out, World.drewN_drewN]⟩
        case measure => simp [intOf]; omega
      · clear hq
        go_wp2
        go_ret
        exact ⟨rfl, q, HQ.out⟩
end Go.Proofs.YtloaefcgcniacaaGreatDoor
