import Derived.Test.YtloaefcgcniacaaKc
namespace Go.Proofs.Ytloaefcgcniacaa
open Go.RowKit

/-- Block g is a row of 'cap' bytes of the call's own, of which the first are l. -/
def OwnB (w : World) (g cap : Nat) (l : List Nat) : Prop :=
  ∃ cur : Array Value, w.heap[g]? = some (.cells cur 5 (0, 0)) ∧ cur.size = cap ∧ cap ≤ maxLen ∧ l.length ≤ cap ∧ cur.toList.take l.length = l.map byteV

theorem OwnB.lt {w : World} {g cap : Nat} {l : List Nat} (h : OwnB w g cap l) : g < w.heap.size := by
  obtain ⟨cur, hg, _⟩ := h
  exact (Array.getElem?_eq_some_iff.1 hg).1
theorem OwnB.below {w w' : World} {g cap B : Nat} {l : List Nat} (h : OwnB w g cap l) (hb : Below B w w') (hg : g < B) : OwnB w' g cap l := by
  obtain ⟨cur, h1, h2⟩ := h
  exact ⟨cur, (hb.block g hg).trans h1, h2⟩
theorem OwnB.grown {w w' : World} {g cap : Nat} {l : List Nat} {r : Option Nat} (h : OwnB w g cap l) (hb : w.grownBy w' r) (hg : some g ≠ r) : OwnB w' g cap l := by
  have hlt := h.lt
  obtain ⟨cur, h1, h2⟩ := h
  exact ⟨cur, (hb.block g hlt hg).trans h1, h2⟩
theorem OwnB.alloc {w : World} {g cap : Nat} {l : List Nat} (h : OwnB w g cap l) (o : Obj) : OwnB (w.alloc o) g cap l := by
  have hlt := h.lt
  obtain ⟨cur, h1, h2⟩ := h
  exact ⟨cur, (Below.heap_alloc _ _ _ hlt).trans h1, h2⟩
theorem OwnB.rd {w : World} {g cap : Nat} {l : List Nat} (h : OwnB w g cap l) : Rd w g 0 l := by
  obtain ⟨cur, h1, h2, h3, h4, h5⟩ := h
  intro i hi
  have e : cur.toList[i]? = some (byteV (l[i]?.getD 0)) := by
    have := congrArg (fun x => x[i]?) h5
    simp only [List.getElem?_take, hi, if_true, List.getElem?_map] at this
    rw [this]
    simp [hi]
  simp only [World.cell?, h1, Nat.zero_add]
  simpa [byteV] using e
theorem Blk.own {w : World} {g : Nat} {l : List Nat} (h : Blk w g l) (hm : l.length ≤ maxLen) : OwnB w g l.length l :=
  ⟨_, h, by simp [blkOf], hm, Nat.le_refl _, by
    have e : l.length = (l.map byteV).length := by simp
    simp only [blkOf]
    rw [e]
    exact List.take_length⟩
/-- With no spare room the block is just the bytes. -/
theorem OwnB.blk {w : World} {g cap : Nat} {l : List Nat} (h : OwnB w g cap l) (hc : l.length = cap) : Blk w g l := by
  obtain ⟨cur, h1, h2, h3, h4, h5⟩ := h
  unfold Blk
  rw [h1]
  have e : cur = blkOf l := by
    apply Array.toList_inj.1
    rw [List.take_of_length_le (by rw [Array.length_toList]; omega)] at h5
    rw [h5]
    simp [blkOf]
  rw [e]
theorem OwnB.frozen {w : World} {g cap : Nat} {l : List Nat} (h : OwnB w g cap l) (i : Nat) : w.frozen? ⟨g, i, none⟩ = false := by
  obtain ⟨cur, h1, _⟩ := h
  simp [World.frozen?, h1]

theorem byteV_one (l : List Nat) : ∀ u ∈ l.map byteV, u.oneCell' = true := by
  intro u hu
  obtain ⟨x, _, rfl⟩ := List.mem_map.1 hu
  rfl

/-- 'append(b, news...)' of bytes to a row of the call's own. -/
theorem run_append_bytes (w : World) (ty : TypeId) (g cap n : Nat) (l : List Nat) (hO : OwnB w g cap l) (hn : l.length = n) (a : Addr) (m c : Nat) (news : List Nat) (hm : news.length = m)
    (hnews : ∀ j, j < m → w.cell? (a.add j) = some (.int .u8 ((news[j]?.getD 0 : Nat) : Int))) (hb : n + m ≤ 140737488355328) :
    ∃ g' cap' w', (Builtin.append_ #[22, 22] ty #[.slice (some ⟨g, 0, none⟩) n cap, .slice (some a) m c]).run Try.prog w = .ok (.slice (some ⟨g', 0, none⟩) (n + m) cap') w' ∧
      OwnB w' g' cap' (l ++ news) ∧ w.grownBy w' (some g) ∧ (n + m ≤ cap ∧ g' = g ∧ cap' = cap ∨ cap < n + m ∧ w.heap.size = g' ∧ Below w.heap.size w w') := by
  obtain ⟨i0, hi, hz0, hz1, hz2⟩ := info_parts info5
  have hnews' : ∀ j u, (news.map byteV)[j]? = some u → w.cell? (a.add j) = some u := by
    intro j u hu
    by_cases hj : j < m
    · rw [hnews j hj, ← hu]
      have : j < news.length := by omega
      simp [byteV, this]
    · rw [List.getElem?_eq_none (by simp; omega)] at hu
      cases hu
  have hl' : (news.map byteV).length = m * i0.size := by rw [hz1]; simpa using hm
  have hrd := hO.rd
  obtain ⟨cur, h1, h2, h3, h4, h5⟩ := hO
  have h63 : n + m ≤ 9223372036854775807 := by omega
  by_cases hroom : n + m ≤ cap
  · have hfit : n * i0.size + (news.map byteV).length ≤ cur.size := by rw [hz1]; simp; omega
    have hr := run_append_room (P := Try.prog) w 22 ty 5 i0 Try.underlying22 hi g n cap cur h1 a m c (news.map byteV) hl' hnews' (byteV_one _) hroom hfit
    refine ⟨g, cap, _, hr, ?_, ?_, .inl ⟨hroom, rfl, rfl⟩⟩
    · refine ⟨_, setRow_heap w g cur _ 5 _ h1, ?_, h3, by simp; omega, ?_⟩
      · simp only [List.size_toArray, List.length_append, List.length_take, List.length_drop, Array.length_toList, List.length_map, hz1]
        omega
      · subst hn
        rw [hz1, Nat.mul_one, h5]
        have : (l ++ news).length = (l.map byteV ++ news.map byteV).length := by simp
        rw [this, List.map_append]
        exact List.take_left
    · exact ⟨rfl, rfl, rfl, by simp, fun k _ hk => setRow_other w g k _ (fun e => hk (by simp [e]))⟩
  · have holds : ∀ j u, (l.map byteV)[j]? = some u → w.cell? ((⟨g, 0, none⟩ : Addr).add j) = some u := by
      intro j u hu
      have hj : j < l.length := by
        have := (List.getElem?_eq_some_iff.1 hu).1
        simpa using this
      have := hrd j hj
      rw [← hu, Addr.add_lit, this]
      simp [hj, byteV]
    have hr := run_append_grow (P := Try.prog) w 22 ty 5 i0 _ Try.underlying22 hi hz0 ⟨g, 0, none⟩ n cap (l.map byteV) (by rw [hz1]; simpa using hn) holds a m c (news.map byteV) hl' hnews' (by omega) (by omega) (growslice_fits (by omega) (by rw [hz2]; omega))
    have hge := grownCap_ge w (n + m) cap 5
    have hcm : grownCap w (n + m) cap 5 ≤ maxLen := grownCap_le_maxLen w (n + m) cap 5 (by unfold maxLen; omega)
    refine ⟨w.heap.size, _, _, hr, ?_, ⟨rfl, rfl, rfl, by simp, fun k hk _ => Below.heap_alloc w.drew _ k hk⟩, .inr ⟨by omega, rfl, ⟨rfl, rfl, rfl, by simp, fun k hk => Below.heap_alloc w.drew _ k hk⟩⟩⟩
    refine ⟨_, heap_alloc_new w.drew _, ?_, hcm, by simp; omega, ?_⟩
    · simp only [Array.size_append, List.size_toArray, size_zeroCells, List.length_map]
      simp [Value.cells]
      omega
    · simp only [Array.toList_append, List.append_assoc]
      rw [← List.append_assoc, ← List.map_append]
      have : (l ++ news).length = ((l ++ news).map byteV).length := by simp
      rw [this]
      exact List.take_left

/-- How an append has left the row: where it was, or in new memory. -/
def Went (w w' : World) (g cap need g' cap' : Nat) : Prop :=
  w.grownBy w' (some g) ∧ (need ≤ cap ∧ g' = g ∧ cap' = cap ∨ cap < need ∧ w.heap.size ≤ g')

theorem grownBy_trans {a b c : World} {r : Option Nat} (h : a.grownBy b r) (k : b.grownBy c r) : a.grownBy c r :=
  ⟨k.os.trans h.os, k.tape.trans h.tape, k.output.trans h.output, Nat.le_trans h.size k.size, fun i hi hn => (k.block i (Nat.lt_of_lt_of_le hi h.size) hn).trans (h.block i hi hn)⟩
theorem grownBy_of_below {a b : World} (r : Option Nat) (h : Below a.heap.size a b) : a.grownBy b r :=
  ⟨h.os, h.tape, h.output, h.size, fun i hi _ => h.block i hi⟩

theorem grownBy_new {a b c : World} {r : Option Nat} {g : Nat} (h : a.grownBy b r) (k : b.grownBy c (some g)) (hg : a.heap.size ≤ g) : a.grownBy c r :=
  ⟨k.os.trans h.os, k.tape.trans h.tape, k.output.trans h.output, Nat.le_trans h.size k.size,
    fun i hi hn => (k.block i (Nat.lt_of_lt_of_le hi h.size) (fun e => by cases e; omega)).trans (h.block i hi hn)⟩

theorem Went.trans {w w1 w2 : World} {g cap n1 g1 cap1 n2 g2 cap2 : Nat} (h1 : Went w w1 g cap n1 g1 cap1) (h2 : Went w1 w2 g1 cap1 n2 g2 cap2) (hn : n1 ≤ n2) : Went w w2 g cap n2 g2 cap2 := by
  obtain ⟨a1, b1⟩ := h1
  obtain ⟨a2, b2⟩ := h2
  rcases b1 with ⟨c1, rfl, rfl⟩ | ⟨c1, d1⟩
  · refine ⟨grownBy_trans a1 a2, ?_⟩
    rcases b2 with ⟨c2, rfl, rfl⟩ | ⟨c2, d2⟩
    · exact .inl ⟨c2, rfl, rfl⟩
    · exact .inr ⟨c2, Nat.le_trans a1.size d2⟩
  · refine ⟨grownBy_new a1 a2 d1, ?_⟩
    rcases b2 with ⟨c2, rfl, rfl⟩ | ⟨c2, d2⟩
    · exact .inr ⟨by omega, d1⟩
    · exact .inr ⟨by omega, Nat.le_trans a1.size d2⟩

/-- What lies below B, where the row lies from B on. -/
theorem Went.below {B : Nat} {w w1 : World} {g cap n g1 cap1 : Nat} (h : Went w w1 g cap n g1 cap1) (hB : B ≤ w.heap.size) (hg : B ≤ g) : Below B w w1 :=
  (Below.refl B w).grown h.1 hB (fun k e => by cases e; exact hg)
theorem Went.at {w w1 : World} {g cap n g1 cap1 B : Nat} (h : Went w w1 g cap n g1 cap1) (hB : B ≤ w.heap.size) (hg : B ≤ g) : B ≤ g1 := by
  rcases h.2 with ⟨_, rfl, _⟩ | ⟨_, h2⟩
  · exact hg
  · omega
theorem Went.room {w w1 : World} {g cap n g1 cap1 : Nat} (h : Went w w1 g cap n g1 cap1) (hn : n ≤ cap) : g1 = g ∧ cap1 = cap := by
  rcases h.2 with ⟨_, h1, h2⟩ | ⟨h2, _⟩
  · exact ⟨h1, h2⟩
  · omega
theorem Went.alloc_left {w w1 : World} {g cap n g1 cap1 : Nat} {o : Obj} (h : Went (w.alloc o) w1 g cap n g1 cap1) : Went w w1 g cap n g1 cap1 := by
  refine ⟨grownBy_trans (World.grownBy_alloc w o _) h.1, ?_⟩
  rcases h.2 with h2 | ⟨h2, h3⟩
  · exact .inl h2
  · exact .inr ⟨h2, by simp at h3; omega⟩

theorem wpList_append_bytes {w : World} {ops : Array Oper} {rest : List Oper} {o : Oper} {a : Act} {Q : Exit → Act → World → Prop} (hgd : o.guard = none) (s x : Operand)
    (ho : o.op = .call { callee := .builtin .append, args := #[s, x], argTypes := #[22, 22] })
    (g cap n : Nat) (l : List Nat) (hO : OwnB w g cap l) (hn : l.length = n) (ad : Addr) (m c : Nat) (news : List Nat) (hm : news.length = m)
    (hs : a.eval s = .slice (some ⟨g, 0, none⟩) n cap) (hx : a.eval x = .slice (some ad) m c)
    (hnews : ∀ j, j < m → w.cell? (ad.add j) = some (.int .u8 ((news[j]?.getD 0 : Nat) : Int))) (hb : n + m ≤ 140737488355328)
    (h : ∀ g' cap' w', OwnB w' g' cap' (l ++ news) → Went w w' g cap (n + m) g' cap' →
      wpList Try.prog ops Q rest (a.put o.dst (.slice (some ⟨g', 0, none⟩) (n + m) cap')) w') : wpList Try.prog ops Q (o :: rest) a w := by
  refine wpList_plain hgd fun _ hK => ?_
  obtain ⟨g', cap', w', hr, h2, h3, h4⟩ := run_append_bytes w o.type g cap n l hO hn ad m c news hm hnews hb
  unfold Oper.wp execOp
  simp only [ho, resolve, invoke, builtin, Sem.run_bind, Sem.run_pure, Result.andThen_ok, List.map_toArray, List.map_cons, List.map_nil, hs, hx, hr]
  refine hK _ _ (h g' cap' w' h2 ⟨h3, ?_⟩)
  rcases h4 with h4 | ⟨h4, h5, _⟩
  · exact .inl h4
  · exact .inr ⟨h4, Nat.le_of_eq h5⟩

end Go.Proofs.Ytloaefcgcniacaa
