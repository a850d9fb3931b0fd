import Derived.Test.YtloaefcgcniacaaGreatDoorKd
namespace Go.Proofs.YtloaefcgcniacaaGreatDoor
open Go.RowKit

set_option maxHeartbeats 400000 in
theorem appendNumber_any (g cap n : Nat) (x : Int) (l : List Nat) (w : World) (hx0 : 0 ≤ x) (hx : x < 4294967296) (hO : OwnB w g cap l) (hn : l.length = n) (hb : n < 1099511627776) :
    Calls Tryz.prog 189 #[.slice (some ⟨g, 0, none⟩) n cap, .int .u32 x] w fun e w' =>
      ∃ g' cap', e = .returned (.slice (some ⟨g', 0, none⟩) (n + 4) cap') ∧ OwnB w' g' cap' (l ++ Lbx.four x.toNat) ∧ Went w w' g cap (n + 4) g' cap' := by
  obtain ⟨X, rfl⟩ := Int.eq_ofNat_of_zero_le hx0
  have HN : Hid (l.length = n) := hn
  clear hn
  go_enter Tryz.func189, Tryz.ntmps189
  go_wp2_with (at_builtin; go_loud (refine wpList_append_bytes rfl (.tmp 5) (.tmp 17) rfl g cap n l (hO.alloc _) HN.out ⟨w.heap.size, 0, none⟩ 4 4 (Lbx.four X) rfl rfl rfl ?hnews (by omega) ?_))
  case hnews =>
    intro j hj
    match j, hj with
    | 0, _ => simp [Addr.add_lit, Lbx.four]; omega
    | 1, _ => simp [Addr.add_lit, Lbx.four]
    | 2, _ => simp [Addr.add_lit, Lbx.four]
    | 3, _ => simp [Addr.add_lit, Lbx.four]
  intro g' cap' w' hO' hw'
  go_wp2
  go_ret
  exact ⟨g', cap', rfl, by simpa using hO', hw'.alloc_left⟩

end Go.Proofs.YtloaefcgcniacaaGreatDoor
