import Derived.Test.YtloaefcgcniacaaGreatDoorBb
namespace Go.Proofs.YtloaefcgcniacaaGreatDoor
open Go.RowKit
set_option linter.unusedVariables false

/-- A list that came out, with no spare room: nil, or a block of its own. -/
def FullB (w : World) (p : Option Addr) (n : Nat) (l : List Nat) : Prop :=
  (p = none ∧ n = 0 ∧ l = []) ∨ ∃ g, p = some ⟨g, 0, none⟩ ∧ n = l.length ∧ Blk w g l

theorem FullB.len {w : World} {p : Option Addr} {n : Nat} {l : List Nat} (h : FullB w p n l) : l.length = n := by
  rcases h with ⟨_, h1, h2⟩ | ⟨g, _, h, _⟩
  · rw [h1, h2]; rfl
  · exact h.symm
theorem FullB.below {w w' : World} {p : Option Addr} {n : Nat} {l : List Nat} (h : FullB w p n l) (hb : Below w.heap.size w w') : FullB w' p n l := by
  rcases h with h | ⟨g, h1, h2, h3⟩
  · exact .inl h
  · exact .inr ⟨g, h1, h2, h3.below hb h3.lt⟩

theorem run_append_fresh (w : World) (ty : TypeId) (p : Option Addr) (n : Nat) (l : List Nat) (hF : FullB w p n l) (a : Addr) (m c : Nat) (news : List Nat) (hm : news.length = m) (hm0 : 0 < m)
    (hnews : ∀ j, j < m → w.cell? (a.add j) = some (.int .u8 ((news[j]?.getD 0 : Nat) : Int))) (hb : n + m ≤ 140737488355328) :
    ∃ cap' w', (Builtin.append_ #[66, 66] ty #[.slice p n n, .slice (some a) m c]).run Tryz.prog w = .ok (.slice (some ⟨w.heap.size, 0, none⟩) (n + m) cap') w' ∧
      OwnB w' w.heap.size cap' (l ++ news) ∧ Below w.heap.size w w' ∧ w'.heap.size = w.heap.size + 1 := by
  obtain ⟨i0, hi, hz0, hz1, hz2⟩ := info_parts info5
  have hnews' : ∀ j u, (news.map byteV)[j]? = some u → w.cell? (a.add j) = some u := by
    intro j u hu
    by_cases hj : j < m
    · rw [hnews j hj, ← hu]
      have : j < news.length := by omega
      simp [byteV, this]
    · rw [List.getElem?_eq_none (by simp; omega)] at hu
      cases hu
  have hl' : (news.map byteV).length = m * i0.size := by rw [hz1]; simpa using hm
  have hcont : ∀ (old : Nat), old < n + m → l.length = n →
      OwnB (w.drew.alloc (.cells ((l.map byteV).toArray ++ (news.map byteV).toArray ++ Builtin.zeroCells (Value.int .u8 0).cells (grownCap w (n + m) old 5 - (n + m))) 5)) w.heap.size (grownCap w (n + m) old 5) (l ++ news) := by
    intro old ho hn
    have hge := grownCap_ge w (n + m) old 5
    have hcm : grownCap w (n + m) old 5 ≤ maxLen := grownCap_le_maxLen w (n + m) old 5 (by unfold maxLen; omega)
    refine ⟨_, heap_alloc_new w.drew _, ?_, hcm, by simp; omega, ?_⟩
    · simp only [Array.size_append, List.size_toArray, size_zeroCells, List.length_map]
      simp [Value.cells]
      omega
    · simp only [Array.toList_append, List.append_assoc]
      rw [← List.append_assoc, ← List.map_append]
      have : (l ++ news).length = ((l ++ news).map byteV).length := by simp
      rw [this]
      exact List.take_left
  rcases hF with ⟨rfl, rfl, rfl⟩ | ⟨g, rfl, hn, hB⟩
  · have hr := run_append_nil (P := Tryz.prog) w 66 ty 5 i0 _ Tryz.underlying66 hi hz0 a m c (news.map byteV) hl' hnews' (by omega) (by omega) (by rw [hz2]; omega)
    have hc := hcont 0 (by omega) rfl
    simp only [Nat.zero_add, List.nil_append, List.map_nil, Array.empty_append] at hc hr ⊢
    exact ⟨_, _, hr, hc, ⟨rfl, rfl, rfl, by simp, fun k hk => Below.heap_alloc w.drew _ k hk⟩, by simp⟩
  · have holds : ∀ j u, (l.map byteV)[j]? = some u → w.cell? ((⟨g, 0, none⟩ : Addr).add j) = some u := by
      intro j u hu
      have hj : j < l.length := by
        have := (List.getElem?_eq_some_iff.1 hu).1
        simpa using this
      have := hB.cell j hj
      rw [← hu, Addr.add_lit, Nat.zero_add, this]
      simp [hj, byteV]
    have hr := run_append_grow (P := Tryz.prog) w 66 ty 5 i0 _ Tryz.underlying66 hi hz0 ⟨g, 0, none⟩ n n (l.map byteV) (by rw [hz1]; simpa using hn.symm) holds a m c (news.map byteV) hl' hnews' (by omega) (by omega) (growslice_fits (by omega) (by rw [hz2]; omega))
    exact ⟨_, _, hr, hcont n (by omega) hn.symm, ⟨rfl, rfl, rfl, by simp, fun k hk => Below.heap_alloc w.drew _ k hk⟩, by simp⟩

theorem wpList_append_fresh {w : World} {ops : Array Oper} {rest : List Oper} {o : Oper} {a : Act} {Q : Exit → Act → World → Prop} (hgd : o.guard = none) (s x : Operand)
    (ho : o.op = .call { callee := .builtin .append, args := #[s, x], argTypes := #[66, 66] })
    (p : Option Addr) (n : Nat) (l : List Nat) (hF : FullB w p n l) (ad : Addr) (m c : Nat) (news : List Nat) (hm : news.length = m) (hm0 : 0 < m)
    (hs : a.eval s = .slice p n n) (hx : a.eval x = .slice (some ad) m c)
    (hnews : ∀ j, j < m → w.cell? (ad.add j) = some (.int .u8 ((news[j]?.getD 0 : Nat) : Int))) (hb : n + m ≤ 140737488355328) (G : Nat) (hG : w.heap.size = G)
    (h : ∀ cap' w', OwnB w' G cap' (l ++ news) → Below G w w' → w'.heap.size = G + 1 → wpList Tryz.prog ops Q rest (a.put o.dst (.slice (some ⟨G, 0, none⟩) (n + m) cap')) w') : wpList Tryz.prog ops Q (o :: rest) a w := by
  subst hG
  refine wpList_plain hgd fun _ hK => ?_
  obtain ⟨cap', w', hr, h2, h3, h4⟩ := run_append_fresh w o.type p n l hF ad m c news hm hm0 hnews hb
  unfold Oper.wp execOp
  simp only [ho, resolve, invoke, builtin, Sem.run_bind, Sem.run_pure, Result.andThen_ok, List.map_toArray, List.map_cons, List.map_nil, hs, hx, hr]
  exact hK _ _ (h cap' w' h2 h3 h4)

def marksL (j n : Nat) : List Nat := (List.range n).map (markN j)
theorem marksL_length (j n : Nat) : (marksL j n).length = n := by simp [marksL]
theorem marksL_get (j n k : Nat) (h : k < n) : (marksL j n)[k]?.getD 0 = markN j k := Lbx.map_range_get (markN j) n k h
theorem marksL_succ (j n : Nat) : marksL j (n + 1) = marksL j n ++ [markN j n] := by
  unfold marksL
  rw [List.range_succ, List.map_append]
  rfl

end Go.Proofs.YtloaefcgcniacaaGreatDoor
