import Derived.Test.YtloaefcgcniacaaGreatDoorKf
import Derived.Deep.QuietTactic
import Derived.BigQuiet
namespace Go.Proofs.YtloaefcgcniacaaGreatDoor
open Go.RowKit

theorem or_spell (a b c d : Nat) (ha : a < 256) (hb : b < 256) (hc : c < 256) (hd : d < 256) :
    bits BinOp.or IntKind.u32 (bits BinOp.or IntKind.u32 (bits BinOp.or IntKind.u32 ((a : Int) * 16777216) ((b : Int) * 65536)) ((c : Int) * 256)) (d : Int) = ((a * 16777216 + b * 65536 + c * 256 + d : Nat) : Int) := by
  have e1 : (a : Int) * 16777216 = ((a * 16777216 : Nat) : Int) := by simp
  have e2 : (b : Int) * 65536 = ((b * 65536 : Nat) : Int) := by simp
  have e3 : (c : Int) * 256 = ((c * 256 : Nat) : Int) := by simp
  have o : ∀ (x y i : Nat), y < 2 ^ i → x * 2 ^ i ||| y = x * 2 ^ i + y := by
    intro x y i h
    have := Nat.shiftLeft_add_eq_or_of_lt h x
    rw [Nat.shiftLeft_eq] at this
    exact this.symm
  have o1 : a * 16777216 ||| b * 65536 = a * 16777216 + b * 65536 := by
    have := o a (b * 65536) 24 (by omega)
    simpa using this
  have o2 : (a * 16777216 + b * 65536) ||| c * 256 = a * 16777216 + b * 65536 + c * 256 := by
    have := o (a * 256 + b) (c * 256) 16 (by omega)
    have e : (a * 256 + b) * 2 ^ 16 = a * 16777216 + b * 65536 := by omega
    rw [e] at this
    exact this
  have o3 : (a * 16777216 + b * 65536 + c * 256) ||| d = a * 16777216 + b * 65536 + c * 256 + d := by
    have := o (a * 65536 + b * 256 + c) d 8 (by omega)
    have e : (a * 65536 + b * 256 + c) * 2 ^ 8 = a * 16777216 + b * 65536 + c * 256 := by omega
    rw [e] at this
    exact this
  rw [e1, e2, e3, u32_or_nat _ _ (by omega) (by omega), o1, u32_or_nat _ _ (by omega) (by omega), o2, u32_or_nat _ _ (by omega) (by omega), o3]

set_option maxHeartbeats 1000000 in
theorem number_any (g off n cap a b c d : Nat) (w : World) (hn : 4 ≤ n) (hcap : n ≤ 1099511627776) (ha : a < 256) (hb : b < 256) (hc : c < 256) (hd : d < 256)
    (c0 : w.cell? ⟨g, off, none⟩ = some (.int .u8 (a : Int))) (c1 : w.cell? ⟨g, off + 1, none⟩ = some (.int .u8 (b : Int)))
    (c2 : w.cell? ⟨g, off + 2, none⟩ = some (.int .u8 (c : Int))) (c3 : w.cell? ⟨g, off + 3, none⟩ = some (.int .u8 (d : Int))) :
    Calls Tryz.prog 175 #[.slice (some ⟨g, off, none⟩) n cap] w fun e w' =>
      e = .returned (.int .u32 ((a * 16777216 + b * 65536 + c * 256 + d : Nat) : Int)) ∧ ∃ q, w' = w.drewN q := by
  have g0 : (0 : Int) < (n : Int) := by omega
  have g1 : (1 : Int) < (n : Int) := by omega
  have g2 : (2 : Int) < (n : Int) := by omega
  have g3 : (3 : Int) < (n : Int) := by omega
  go_enter Tryz.func175, Tryz.ntmps175
  go_wp2
  go_quiet (fail)
  go_wp2
  go_ret
  exact ⟨ret_int (or_spell a b c d ha hb hc hd), _, rfl⟩
end Go.Proofs.YtloaefcgcniacaaGreatDoor
