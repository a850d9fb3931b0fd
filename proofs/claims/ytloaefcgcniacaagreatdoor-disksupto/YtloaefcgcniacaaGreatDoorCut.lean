import Derived.StillTail
import Derived.OrdersHeld
import Derived.Deep.RegionHeld
namespace Go.Proofs.YtloaefcgcniacaaGreatDoor
set_option linter.unusedVariables false

def CutQ (P : Program) (ops : Array Oper) (Q : Exit → Act → World → Prop) (tail : List Oper) : Exit → Act → World → Prop
  | .normal, a, w => wpList P ops Q tail a w
  | e, a, w => Q e a w

theorem oper_wp_to {P : Program} {Q Q' : Exit → Act → World → Prop} {o : Oper} {a : Act} {w : World} {K K' : Act → World → Prop} (h : ∀ a w, K a w → K' a w) (hp : ∀ c a w, Q' (.panic c) a w → Q (.panic c) a w) (ho : LetsOut Q' → LetsOut Q) (hh : o.wp P a w K Q') : o.wp P a w K' Q := by
  unfold Oper.wp at *
  generalize (execOp a.eval o).run P w = r at *
  cases r with
  | ok n w' =>
    cases n <;> simp only [Oper.upon] at hh ⊢ <;>
      first
        | exact h _ _ hh
        | exact Calls.mono hh (fun e w'' he => by cases e <;> first | exact h _ _ he | exact hp _ _ _ he | exact ho he)
        | exact Rows.mono hh (fun _ _ he => h _ _ he)
  | halt x w' => cases x <;> simp only [Oper.upon] at hh ⊢ <;> first | exact hp _ _ _ hh | exact hh

theorem wpOp_to {P : Program} {Q Q' : Exit → Act → World → Prop} {ops ops' : Array Oper} {i : Nat} {o : Oper} {a : Act} {w : World} {K K' : Act → World → Prop} (hi : ops[i]? = some o) (hi' : ops'[i]? = some o) (hg : Region.wanted o (yielded ops' a.tmps) = Region.wanted o (yielded ops a.tmps)) (h : ∀ a w, K a w → K' a w) (hp : ∀ c a w, Q' (.panic c) a w → Q (.panic c) a w) (ho : LetsOut Q' → LetsOut Q)
    (hh : wpOp P ops' Q' i K a w) : wpOp P ops Q i K' a w := by
  unfold wpOp at *
  simp only [hi, hi', hg] at *
  split
  · rename_i hw
    simp only [hw, if_true] at hh
    exact hh.imp (oper_wp_to h hp ho) (fun x => ⟨x.1, ho x.2⟩)
  · rename_i hw
    simp only [hw] at hh
    exact h _ _ hh

theorem wpAny_more {P : Program} {md : Region.Mode} {ops : Array Oper} {Q : Exit → Act → World → Prop} : ∀ (f g : Nat) (listed : Array Bool) (a : Act) (w : World), wpAny P md ops Q f listed a w → wpAny P md ops Q (f + g) listed a w
  | 0, 0, _, _, _, h => h
  | 0, g + 1, _, _, _, h => by
    rw [Nat.zero_add]
    exact ⟨fun _ => h.2, fun i hi => by rw [h.1] at hi; cases hi⟩
  | f + 1, g, listed, a, w, h => by
    rw [show f + 1 + g = (f + g) + 1 by omega]
    exact ⟨h.1, fun i hi => wpOp_mono (fun a' w' h' => wpAny_more f g _ a' w' h') (h.2 i hi)⟩

/-- Each operation of the head waits for earlier ones alone, and its guard, if it has one, is of the head. -/
def plainHead (l : List Oper) : Bool := (List.range l.length).all fun i => match l[i]? with
  | some o => (match o.guard with | none => true | some (j, _) => decide (j < l.length)) && o.after.all fun e => decide (e.on < i)
  | none => true

theorem plainHead_at {l : List Oper} (h : plainHead l = true) {i : Nat} {o : Oper} (hi : l[i]? = some o) : (∀ j b, o.guard = some (j, b) → j < l.length) ∧ ∀ e ∈ o.after, e.on < i := by
  have h1 := List.all_eq_true.1 h i (List.mem_range.2 (List.getElem?_eq_some_iff.1 hi).1)
  simp only [hi, Bool.and_eq_true] at h1
  refine ⟨fun j b hg => ?_, fun e he => by simpa using (Array.all_eq_true'.1 h1.2) e he⟩
  have h2 := h1.1
  rw [hg] at h2
  simpa using h2

theorem wanted_head {l : List Oper} {n : Nat} {o : Oper} {tmps : Array Value} (h : ∀ j b, o.guard = some (j, b) → j < n) : Region.wanted o (yielded (l.take n).toArray tmps) = Region.wanted o (yielded l.toArray tmps) := by
  unfold Region.wanted
  cases hg : o.guard with
  | none => rfl
  | some jb =>
    obtain ⟨j, b⟩ := jb
    have hj := h j b hg
    have ht : (l.take n).toArray[j]? = l.toArray[j]? := by simp [hj]
    simp only [yielded, ht]

section
variable {P : Program} {Q : Exit → Act → World → Prop} {l : List Oper} {n : Nat} {listed lh : Array Bool}

structure Same (n : Nat) (listed lh : Array Bool) : Prop where
  size : lh.size = n
  eq : ∀ i, i < n → lh.getD i true = listed.getD i true

theorem Same.set (h : Same n listed lh) (i : Nat) (hs : i < listed.size) (hi : i < n) : Same n (listed.setIfInBounds i true) (lh.setIfInBounds i true) := by
  refine ⟨by simp [h.size], fun j hj => ?_⟩
  have hz := h.size
  by_cases e : i = j
  · subst e
    simp [hs, show i < lh.size by omega]
  · rw [getD_set_ne true e, getD_set_ne true e]; exact h.eq j hj

theorem getD_two {listed : Array Bool} {i : Nat} (hi : i < listed.size) : listed.getD i false = listed.getD i true := by simp [hi]

theorem ready_head (h : Same n listed lh) (hp : plainHead (l.take n) = true) (hn : n < l.length) (hz : listed.size = l.length) {i : Nat} (hi : i < n) : i ∈ Region.ready .any (l.take n).toArray lh ↔ i ∈ Region.ready .any l.toArray listed := by
  have hzl := h.size
  have ht : (l.take n).toArray[i]? = l.toArray[i]? := by simp [hi]
  rw [mem_ready, mem_ready, h.eq i hi, ht]
  refine and_congr_right fun _ => ?_
  constructor
  · rintro ⟨o, h1, h2⟩
    refine ⟨o, h1, fun e he hb => ?_⟩
    have h3 := (plainHead_at hp (by have := ht.trans h1; simpa using this)).2 e he
    have := h2 e he hb
    rwa [getD_two (by omega), h.eq _ (by omega), ← getD_two (by omega)] at this
  · rintro ⟨o, h1, h2⟩
    refine ⟨o, h1, fun e he hb => ?_⟩
    have h3 := (plainHead_at hp (by have := ht.trans h1; simpa using this)).2 e he
    have := h2 e he hb
    rwa [getD_two (by omega), h.eq _ (by omega), ← getD_two (by omega)]

theorem none_ready (hp : plainHead (l.take n) = true) (hn : n < l.length) (hz : listed.size = l.length) (h0 : ∀ i, i < n → i ∉ Region.ready .any l.toArray listed) : ∀ i, i < n → listed.getD i true = true := by
  intro i
  induction i using Nat.strongRecOn with
  | _ i ih =>
    intro hi
    cases hl : listed.getD i true with
    | true => rfl
    | false =>
      refine absurd (mem_ready.2 ⟨hl, l[i], by simp, fun e he _ => ?_⟩) (h0 i hi)
      have h3 := (plainHead_at (l := l.take n) hp (i := i) (o := l[i]) (by simp [hi])).2 e he
      rw [getD_two (by omega)]
      exact ih e.on h3 (by omega)

theorem listed_head (hn : n < l.length) (inv : HeadInv .any l.toArray n listed) (h : ∀ i, i < n → listed.getD i true = true) : listed = Array.replicate n true ++ Array.replicate (l.length - n) false := by
  have hz : listed.size = l.length := by simpa using inv.size
  apply Array.ext
  · simp [hz]; omega
  · intro i h1 h2
    rcases Nat.lt_or_ge i n with hi | hi
    · have := h i hi
      rw [Array.getElem_append_left (by simpa using hi)]
      simpa [h1] using this
    · have := inv.tail i hi (by simpa using (by omega : i < l.length))
      rw [Array.getElem_append_right (by simpa using hi)]
      simpa [h1] using this

/-- A region whose last operations come one behind the other, behind all of the head: the head alone, in whatever order, then these. -/
theorem wpAny_cut (hn : n < l.length) (hs : Region.sinkB .any l.toArray n = true) (hc : Region.chainB .any l.toArray n = true) (hp : plainHead (l.take n) = true) (hseq : Region.seqB .any l.toArray (l.length - n) n (Array.replicate n true ++ Array.replicate (l.length - n) false) = true) :
    ∀ (f : Nat) (listed lh : Array Bool) (a : Act) (w : World), HeadInv .any l.toArray n listed → Same n listed lh →
      wpAny P .any (l.take n).toArray (CutQ P l.toArray Q (l.drop n)) f lh a w → wpAny P .any l.toArray Q (f + (l.length - n)) listed a w := by
  have hdl : (l.drop n).length = l.length - n := by simp
  have hQo : LetsOut (CutQ P l.toArray Q (l.drop n)) → LetsOut Q := fun ⟨a, w, h⟩ => ⟨a, w, h⟩
  have fin : ∀ (listed lh : Array Bool) (a : Act) (w : World), HeadInv .any l.toArray n listed → Same n listed lh → Region.ready .any (l.take n).toArray lh = [] → CutQ P l.toArray Q (l.drop n) .normal a w → wpAny P .any l.toArray Q (l.length - n) listed a w := by
    intro listed lh a w inv sm h0 h
    have hz : listed.size = l.length := by simpa using inv.size
    have hall := none_ready hp hn hz (fun i hi hr => by have := (ready_head sm hp hn hz hi).2 hr; rw [h0] at this; cases this)
    have hl := listed_head hn inv hall
    have := wpAny_of_seq (P := P) (md := .any) (Q' := Q) (l.drop n) n listed a w (fun j => by simp [List.getElem?_drop]) (by rw [hdl, hl]; exact hseq) h
    rwa [hdl] at this
  intro f
  induction f with
  | zero =>
    intro listed lh a w inv sm h
    rw [Nat.zero_add]
    exact fin listed lh a w inv sm h.1 h.2
  | succ f ih =>
    intro listed lh a w inv sm h
    have hz : listed.size = l.length := by simpa using inv.size
    by_cases h0 : Region.ready .any (l.take n).toArray lh = []
    · have := wpAny_more _ (f + 1) _ _ _ (fin listed lh a w inv sm h0 (h.1 h0))
      rwa [Nat.add_comm] at this
    · obtain ⟨i0, r0, hi0⟩ := List.exists_cons_of_ne_nil h0
      have hm0 : i0 ∈ Region.ready .any (l.take n).toArray lh := by rw [hi0]; exact List.mem_cons_self
      have hlt : ∀ i, i ∈ Region.ready .any (l.take n).toArray lh → i < n := fun i hi => by
        obtain ⟨_, o, ho, _⟩ := mem_ready.1 hi
        have := (Array.getElem?_eq_some_iff.1 ho).1
        simp at this
        omega
      have hi0n := hlt i0 hm0
      have hr0 := (ready_head sm hp hn hz hi0n).1 hm0
      have htw : ∀ t, n ≤ t → t ∉ Region.ready .any l.toArray listed := tail_waits hs hc (by simpa using hn) inv _ i0 rfl hi0n (mem_ready.1 hr0).1
      rw [show f + 1 + (l.length - n) = (f + (l.length - n)) + 1 by omega]
      refine ⟨fun e => (by rw [e] at hr0; cases hr0), fun i hi => ?_⟩
      have hin : i < n := by
        rcases Nat.lt_or_ge i n with h | h
        · exact h
        · exact absurd hi (htw i h)
      have hih := (ready_head sm hp hn hz hin).2 hi
      have hsome : l.toArray[i]? = some l[i] := by simp
      have hsomeH : (l.take n).toArray[i]? = some l[i] := by simp [hin]
      exact wpOp_to hsome hsomeH (wanted_head (fun j b hg => by have := (plainHead_at hp (by simpa using hsomeH)).1 j b hg; rw [List.length_take] at this; omega)) (fun a' w' h' => ih _ _ a' w' (inv.set hi hin) (sm.set i (by omega) hin) h') (fun _ _ _ h => h) hQo (h.2 i hih)

theorem wp_region_cut_held {S : World → Prop} {id : Nat} {a : Act} {w : World} (n : Nat) (hm : P.follows .mixedOrders = true) (hn : n < l.length) (hs : Region.sinkB .any l.toArray n = true) (hc : Region.chainB .any l.toArray n = true) (hp : plainHead (l.take n) = true) (hseq : Region.seqB .any l.toArray (l.length - n) n (Array.replicate n true ++ Array.replicate (l.length - n) false) = true)
    (h : wpAnyH P .any (l.take n).toArray (CutQ P l.toArray Q (l.drop n)) S n (Array.replicate n false) a w.drew) : (Code.region id l.toArray true).wp P Q a w := by
  refine wp_region_any hm ?_
  have := wpAny_cut (P := P) (Q := Q) hn hs hc hp hseq n (Array.replicate l.length false) (Array.replicate n false) a w.drew ⟨by simp, fun j oj _ hl => (by rw [getD_replicate_false] at hl; cases hl), fun t _ ht => getD_in (by simpa using ht) (getD_replicate_false _ _)⟩ ⟨by simp, fun i hi => by simp [hi, show i < l.length by omega]⟩ (wpAny_of_held _ _ _ _ h)
  rw [show n + (l.length - n) = l.length by omega] at this
  simpa using this

/-- From where some of the head have come up. -/
theorem wpAny_cut_held {S : World → Prop} {fuel : Nat} {listed lh : Array Bool} {a : Act} {w : World} (n f : Nat) (hn : n < l.length) (hs : Region.sinkB .any l.toArray n = true) (hc : Region.chainB .any l.toArray n = true) (hp : plainHead (l.take n) = true) (hseq : Region.seqB .any l.toArray (l.length - n) n (Array.replicate n true ++ Array.replicate (l.length - n) false) = true)
    (inv : HeadInv .any l.toArray n listed) (hfu : fuel = f + (l.length - n)) (hlh : lh = (listed.toList.take n).toArray)
    (h : wpAnyH P .any (l.take n).toArray (CutQ P l.toArray Q (l.drop n)) S f lh a w) : wpAny P .any l.toArray Q fuel listed a w := by
  subst hfu
  subst hlh
  have hz : listed.size = l.length := by simpa using inv.size
  refine wpAny_cut hn hs hc hp hseq f listed _ a w inv ⟨by simp; omega, fun i hi => ?_⟩ (wpAny_of_held _ _ _ _ h)
  have h1 : i < listed.size := by omega
  have h2 : i < min n listed.size := by omega
  simp [Array.getD, h1, dif_pos h2]

/-- The takes of 'wpAnyH_take', with the operation as the list has it. -/
theorem held_take {S : World → Prop} {md : Region.Mode} {l : List Oper} {i : Nat} {oi : Oper} {v : Value} {fuel : Nat} {listed : Array Bool} {a : Act} {w : World} (hi : l[i]? = some oi)
    (hs : Region.noSelect l.toArray = true) (hf : Region.free md l.toArray listed i = true) (hr : (Region.ready md l.toArray listed).contains i = true)
    (hQ : ∀ c a w, Q (.panic c) (a.put oi.dst v) w → Q (.panic c) a w) (hy : YieldsIf P l.toArray S oi v a) (hS : S w)
    (h : wpAnyH P md l.toArray Q S fuel (listed.setIfInBounds i true) (a.put oi.dst v) w) : wpAnyH P md l.toArray Q S (fuel + 1) listed a w :=
  wpAnyH_take (by simpa using hi) hs hf hr hQ hy hS h

theorem held_skip {S : World → Prop} {md : Region.Mode} {l : List Oper} {i : Nat} {oi : Oper} {fuel : Nat} {listed : Array Bool} {a : Act} {w : World} (hi : l[i]? = some oi)
    (hs : Region.noSelect l.toArray = true) (hf : Region.free md l.toArray listed i = true) (hr : (Region.ready md l.toArray listed).contains i = true)
    (hQ : ∀ c a w, Q (.panic c) (a.put oi.dst undef) w → Q (.panic c) a w) (hy : Region.wanted oi (yielded l.toArray a.tmps) = false) (hS : S w)
    (h : wpAnyH P md l.toArray Q S fuel (listed.setIfInBounds i true) (a.put oi.dst undef) w) : wpAnyH P md l.toArray Q S (fuel + 1) listed a w :=
  wpAnyH_take (by simpa using hi) hs hf hr hQ (.inr ⟨hy, rfl⟩) hS h

theorem held_one {S : World → Prop} {md : Region.Mode} {l : List Oper} {i : Nat} {o : Oper} {fuel : Nat} {listed : Array Bool} {a : Act} {w : World} (hi : l[i]? = some o) (hr : Region.ready md l.toArray listed = [i])
    (h : ∀ K' : Act → World → Prop, Shut (∀ a w, S w → (S w → wpAnyH P md l.toArray Q S fuel (listed.setIfInBounds i true) a w) → K' a w) → if Region.wanted o (yielded l.toArray a.tmps) = true then Oper.wp P o a w K' Q else K' (a.put o.dst undef) w) :
    wpAnyH P md l.toArray Q S (fuel + 1) listed a w :=
  wpAnyH_ready hr (by simp) (AllReadyH.cons (by simpa using hi) h AllReadyH.nil)
end
end Go.Proofs.YtloaefcgcniacaaGreatDoor
