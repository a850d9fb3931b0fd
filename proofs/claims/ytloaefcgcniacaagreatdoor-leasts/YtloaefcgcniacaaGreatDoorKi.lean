import Derived.Test.YtloaefcgcniacaaGreatDoorKh
import Derived.Lib.ConvBytes
import Derived.Lib.SliceRun
namespace Go.Proofs.YtloaefcgcniacaaGreatDoor
open Go.RowKit

/-- The string of these bytes. -/
def bstr (l : List Nat) : ByteArray := ⟨(l.map UInt8.ofNat).toArray⟩

theorem bstr_size (l : List Nat) : (bstr l).size = l.length := by simp [bstr, ByteArray.size]

theorem bstr_toList (l : List Nat) : (bstr l).toList = l.map UInt8.ofNat := ByteArray.toList_mk _

theorem ofNat_back (l : List Nat) (hl : ∀ x ∈ l, x < 256) : (l.map UInt8.ofNat).map UInt8.toNat = l := by
  rw [List.map_map]
  have e : l.map (UInt8.toNat ∘ UInt8.ofNat) = l.map id := List.map_congr_left fun x hx => by
    have := hl x hx
    simp [Nat.mod_eq_of_lt this]
  rw [e, List.map_id]

theorem ofNat_inj {l m : List Nat} (hl : ∀ x ∈ l, x < 256) (hm : ∀ x ∈ m, x < 256) (h : l.map UInt8.ofNat = m.map UInt8.ofNat) : l = m := by
  rw [← ofNat_back l hl, ← ofNat_back m hm, h]

theorem run_str (w : World) (g off n cap : Nat) (l : List Nat) (hn : l.length = n) (hr : Rd w g off l) :
    (convert 66 9 (.slice (some ⟨g, off, none⟩) n cap)).run Tryz.prog w = .ok (.string (bstr l)) w := by
  have h := run_convert_bytes_arg (P := Tryz.prog) w 66 5 Tryz.underlying66 Tryz.underlying5 g off n cap (l.map fun x : Nat => (x : Int)) (by simpa using hn) (fun i hi => by
    rw [hr i (by omega)]
    have : i < l.length := by omega
    simp [this]) 9 Tryz.underlying9
  rw [h]
  have e : strOfNums (l.map fun x : Nat => (x : Int)) = bstr l := by
    unfold strOfNums bstr
    rw [List.map_map]
    have e2 : ((fun n : Int => UInt8.ofNat n.toNat) ∘ fun x : Nat => (x : Int)) = UInt8.ofNat := by
      funext x
      simp
    rw [e2]
  rw [e]

set_option maxHeartbeats 400000 in
theorem clone_any (g off n cap : Nat) (l : List Nat) (w : World) (hn : l.length = n) (hb : n < 1099511627776) (hr : Rd w g off l) (hg : g < w.heap.size) :
    Calls Tryz.prog 209 #[.slice (some ⟨g, off, none⟩) n cap] w fun e w' =>
      ∃ g' cap', e = .returned (.slice (some ⟨g', 0, none⟩) n cap') ∧ OwnB w' g' cap' l ∧ w.heap.size ≤ g' ∧ Below w.heap.size w w' := by
  have HN : Hid (l.length = n) := hn
  clear hn
  have hown : OwnB (w.alloc (.cells #[] 5)) w.heap.size 0 [] := ⟨#[], blk_new w [], rfl, by unfold maxLen; omega, by simp, rfl⟩
  have hr1 : Rd (w.alloc (.cells #[] 5)) g off l := hr.below ((Below.refl w.heap.size w).alloc (Nat.le_refl _) _) hg
  have hnil := fun w : World => Lib.run_eql_slice_nil (P := Tryz.prog) w 66 5 (some ⟨g, off, none⟩) n cap 0 0 Tryz.underlying66
  go_enter Tryz.func209, Tryz.ntmps209
  go_wp2_with (at_builtin; go_loud (refine wpList_append_bytes rfl (.tmp 5) (.tmp 6) rfl w.heap.size 0 0 [] hown rfl ⟨g, off, none⟩ n cap l HN.out rfl rfl (fun j hj => by rw [Addr.add_lit]; exact hr1 j (by rw [HN.out]; exact hj)) (by omega) ?_))
  intro g' cap' w' hO' hw'
  go_wp2
  go_ret
  have h1 : w.heap.size ≤ g' := hw'.at (by simp) (Nat.le_refl _)
  exact ⟨g', cap', rfl, hO', h1, ((Below.refl _ _).alloc (Nat.le_refl _) _).trans (hw'.below (by simp) (Nat.le_refl _))⟩

def sameB (l m : List Nat) : Bool := decide (l = m)

theorem bstr_beq (l m : List Nat) (hl : ∀ x ∈ l, x < 256) (hm : ∀ x ∈ m, x < 256) : ((bstr l).toList == (bstr m).toList) = sameB l m := by
  unfold sameB
  rw [bstr_toList, bstr_toList]
  by_cases h : l = m
  · subst h
    simp
  · have : ¬ l.map UInt8.ofNat = m.map UInt8.ofNat := fun e => h (ofNat_inj hl hm e)
    simp [h, this]

theorem ret_bool {a b : Bool} (h : a = b) : Ending.returned (.bool a) = .returned (.bool b) := by rw [h]

set_option maxHeartbeats 400000 in
theorem equal_any (g off n cap g2 off2 n2 cap2 : Nat) (l m : List Nat) (w : World) (hn : l.length = n) (hn2 : m.length = n2) (hl : ∀ x ∈ l, x < 256) (hm : ∀ x ∈ m, x < 256)
    (hr : Rd w g off l) (hr2 : Rd w g2 off2 m) :
    Calls Tryz.prog 208 #[.slice (some ⟨g, off, none⟩) n cap, .slice (some ⟨g2, off2, none⟩) n2 cap2] w fun e w' => e = .returned (.bool (sameB l m)) ∧ w' = w := by
  have h1 := run_str w g off n cap l hn hr
  have h2 := run_str w g2 off2 n2 cap2 m hn2 hr2
  clear hn hn2
  go_enter Tryz.func208, Tryz.ntmps208
  go_wp2
  go_ret
  exact ⟨ret_bool (bstr_beq l m hl hm), rfl⟩

/-- what the tag of the first fifty bytes makes of them -/
def retag (K : Nat) (l : List Nat) : List Nat := l ++ Lbx.four (Lbx.sumBy K (2 :: l)) ++ Lbx.four (Lbx.sumBy K (3 :: l))

theorem retag_lt (K : Nat) (l : List Nat) (hl : ∀ x ∈ l, x < 256) : ∀ x ∈ retag K l, x < 256 := by
  intro x hx
  simp only [retag, List.mem_append] at hx
  rcases hx with (hx | hx) | hx
  · exact hl x hx
  · exact Lbx.four_lt _ x hx
  · exact Lbx.four_lt _ x hx

theorem Rd.take {w : World} {g off : Nat} {l : List Nat} (h : Rd w g off l) (k : Nat) : Rd w g off (l.take k) := by
  intro i hi
  have hi' : i < l.length := by simp at hi; omega
  have hik : i < k := by simp at hi; omega
  rw [h i hi']
  simp [hik]

set_option maxHeartbeats 400000 in
theorem tagFits_any (key : Int) (g off cap : Nat) (l : List Nat) (w : World) (hk0 : 0 ≤ key) (hk : key < 4294967296) (hn : l.length = 58) (hcap : 58 ≤ cap) (hl : ∀ x ∈ l, x < 256) (hr : Rd w g off l) (hg : g < w.heap.size) :
    Calls Tryz.prog 192 #[.int .u32 key, .slice (some ⟨g, off, none⟩) 58 cap] w fun e w' => e = .returned (.bool (sameB (retag key.toNat (l.take 50)) l)) ∧ Below w.heap.size w w' := by
  have HN : Hid (l.length = 58) := hn
  clear hn
  have hl5 : (l.take 50).length = 50 := by rw [List.length_take, HN.out]; rfl
  have HL : Hid ((l.take 50).length = 50) := hl5
  have hlt : ∀ x ∈ l.take 50, x < 256 := fun x hx => hl x (List.mem_of_mem_take hx)
  have hrt := hr.take 50
  clear hl5
  go_enter Tryz.func192, Tryz.ntmps192
  go_wp2_with fail
  refine (clone_any _ _ _ _ (l.take 50) _ HL.out (by omega) hrt hg).mono ?_
  rintro e w1 ⟨g1, c1, rfl, hO1, hg1, hw1⟩
  go_wp2_with fail
  refine (appendTag_any _ _ 50 _ (l.take 50) _ (by omega) (by omega) hO1 HL.out (by omega) hlt).mono ?_
  rintro e w2 ⟨g2, c2, rfl, hO2, hw2⟩
  have hb2 : Below w.heap.size w w2 := hw1.trans (hw2.below hw1.size hg1)
  have hr2 : Rd w2 g off l := hr.below hb2 hg
  go_wp2_with fail
  refine (equal_any _ _ _ _ _ _ _ _ _ l _ ?h1 HN.out ?h2 hl hO2.rd hr2).mono ?_
  case h1 => simp [Lbx.four_length, HL.out]
  case h2 => exact retag_lt _ _ hlt
  rintro e w3 ⟨rfl, rfl⟩
  go_wp2
  go_ret
  exact ⟨ret_bool (by unfold retag; rw [List.append_assoc]), hb2⟩
end Go.Proofs.YtloaefcgcniacaaGreatDoor
