import Derived.Test.YtloaefcgcniacaaGreatDoorEA3
import Derived.Deep.RegionHeld3
namespace Go.Proofs.YtloaefcgcniacaaGreatDoor
open Go.RowKit
set_option linter.unusedVariables false

/-- Which of n things the number c speaks of. -/
def pickN (c : Int) (n : Nat) : Nat := ((if c < 0 then -(c + 1) else c) % (n : Int)).toNat
theorem pickN_lt (c : Int) (n : Nat) (h : 0 < n) : pickN c n < n := by
  unfold pickN
  have h1 := Int.emod_lt_of_pos (if c < 0 then -(c + 1) else c) (show (0 : Int) < n by omega)
  have h2 := Int.emod_nonneg (if c < 0 then -(c + 1) else c) (show (n : Int) ≠ 0 by omega)
  omega
set_option maxHeartbeats 400000 in
theorem pick_any (c : Int) (n : Nat) (w : World) (hn : 0 < n) (hc : fits c) (hn2 : n ≤ 5000000000) : Calls Tryz.prog 91 #[.int .i64 c, .int .i64 (n : Int)] w fun e w' => e = .returned (.int .i64 (pickN c n : Nat)) ∧ w' = w := by
  obtain ⟨hc1, hc2⟩ := hc
  have hnn : ((n : Int) == 0) = false := by rw [beq_eq_false_iff_ne]; omega
  by_cases h : c < 0
  · go_enter Tryz.func91, Tryz.ntmps91
    go_wp2
    go_ret
    refine ⟨ret_int ?_, rfl⟩
    unfold pickN
    rw [if_pos h, Int.toNat_of_nonneg (Int.emod_nonneg _ (by omega)), ← Int.tmod_eq_emod_of_nonneg (by omega), Int.neg_tmod]
  · go_enter Tryz.func91, Tryz.ntmps91
    go_wp2
    go_ret
    refine ⟨ret_int ?_, rfl⟩
    unfold pickN
    rw [if_neg (by omega), Int.toNat_of_nonneg (Int.emod_nonneg _ (by omega)), ← Int.tmod_eq_emod_of_nonneg (by omega)]

/-- The cells of the World's row of disks. -/
def plCells (qs : List Pl) : List Value := qs.flatMap fun q => [.pointer (some ⟨q.x, 0, none⟩), .pointer (some ⟨q.h, 0, none⟩), .pointer (some ⟨q.r, 0, none⟩)]
theorem plCells_length (qs : List Pl) : (plCells qs).length = qs.length * 3 := by
  induction qs with
  | nil => rfl
  | cons q qs ih => simp [plCells] at ih ⊢; omega
theorem plCells_at (qs : List Pl) (i : Nat) (q : Pl) (h : qs[i]? = some q) : (plCells qs)[i * 3]? = some (.pointer (some ⟨q.x, 0, none⟩)) ∧ (plCells qs)[i * 3 + 1]? = some (.pointer (some ⟨q.h, 0, none⟩)) ∧ (plCells qs)[i * 3 + 2]? = some (.pointer (some ⟨q.r, 0, none⟩)) := by
  induction qs generalizing i with
  | nil => cases h
  | cons q' qs ih =>
    have e : plCells (q' :: qs) = [.pointer (some ⟨q'.x, 0, none⟩), .pointer (some ⟨q'.h, 0, none⟩), .pointer (some ⟨q'.r, 0, none⟩)] ++ plCells qs := rfl
    rw [e]
    cases i with
    | zero =>
      cases h
      exact ⟨rfl, rfl, rfl⟩
    | succ i =>
      obtain ⟨h1, h2, h3⟩ := ih i h
      refine ⟨?_, ?_, ?_⟩ <;> rw [List.getElem?_append_right (by simp; omega)]
      · rw [show (i + 1) * 3 - [Value.pointer (some ⟨q'.x, 0, none⟩), .pointer (some ⟨q'.h, 0, none⟩), .pointer (some ⟨q'.r, 0, none⟩)].length = i * 3 by simp; omega]; exact h1
      · rw [show (i + 1) * 3 + 1 - [Value.pointer (some ⟨q'.x, 0, none⟩), .pointer (some ⟨q'.h, 0, none⟩), .pointer (some ⟨q'.r, 0, none⟩)].length = i * 3 + 1 by simp; omega]; exact h2
      · rw [show (i + 1) * 3 + 2 - [Value.pointer (some ⟨q'.x, 0, none⟩), .pointer (some ⟨q'.h, 0, none⟩), .pointer (some ⟨q'.r, 0, none⟩)].length = i * 3 + 2 by simp; omega]; exact h3
theorem plCells_set (qs : List Pl) (i : Nat) (q q' : Pl) (h : qs[i]? = some q) (h1 : q'.x = q.x) (h2 : q'.h = q.h) (h3 : q'.r = q.r) : plCells (qs.set i q') = plCells qs := by
  induction qs generalizing i with
  | nil => cases h
  | cons q0 qs ih =>
    cases i with
    | zero =>
      cases h
      simp [plCells, h1, h2, h3]
    | succ i =>
      have := ih i h
      simp only [plCells, List.set_cons_succ, List.flatMap_cons] at this ⊢
      rw [this]

/-- All that the script has made. -/
structure Wd (w : World) (base base2 WB N n : Nat) (qs : List Pl) (F : Nat → Nat → Prop) (d s : Value) : Prop where
  bk : BooksD w base WB N d s
  row : w.ownsRow base2 159 3 d qs.length (plCells qs)
  pl : ∀ (i : Nat) (q : Pl), qs[i]? = some q → PlateAt w base2 (F i) q ∧ Fine q n
  dis : ∀ (i j k : Nat), i ≠ j → i < qs.length → j < qs.length → F i k → ¬ F j k
  rw_ : ∀ (i k : Nat), i < qs.length → F i k → d.ownBlock ≠ some k
  b1 : base ≤ base2
  b2 : base2 ≤ w.heap.size
  cnt : qs.length ≤ n

theorem ownsRow_T205 {w : World} {base2 n : Nat} {d : Value} {xs : List Value} (h : w.ownsRow base2 159 3 d n xs) (k : Nat) (hk : d.ownBlock = some k) : base2 ≤ k ∧ OkT w k ∧ k < w.heap.size := by
  rcases h.2 with ⟨hv, _⟩ | ⟨g, cap, cur, hv, hb, hg, _⟩
  · rw [hv] at hk; cases hk
  · rw [hv] at hk
    cases hk
    exact ⟨hb, ⟨_, _, _, hg, by decide, by decide⟩, (Array.getElem?_eq_some_iff.1 hg).1⟩

theorem PlateAt.ok {w : World} {base : Nat} {F : Nat → Prop} {q : Pl} (h : PlateAt w base F q) (k : Nat) (hk : F k) : base ≤ k ∧ OkT w k := by
  obtain ⟨_, _, _, _, d, _⟩ := h
  exact d.ok k hk

theorem Wd.down {w w' : World} {base base2 WB N n : Nat} {qs : List Pl} {F : Nat → Nat → Prop} {d s : Value} (h : Wd w base base2 WB N n qs F d s) (hb : Below w.heap.size w w') : Wd w' base base2 WB N n qs F d s :=
  ⟨h.bk.down hb, ownsRow_chg h.row (Chg.of_below hb (fun _ => False)) (fun _ _ h => h), fun i q hi => ⟨(h.pl i q hi).1.below hb, (h.pl i q hi).2⟩, h.dis, h.rw_, h.b1, Nat.le_trans h.b2 hb.size, h.cnt⟩

theorem Wd.told {w w' : World} {base base2 WB N n : Nat} {qs : List Pl} {F : Nat → Nat → Prop} {d s : Value} (h : Wd w base base2 WB N n qs F d s) (i : Nat) (q : Pl) (hi : qs[i]? = some q) (c : RCall) (hb : c.b.size ≤ 2000000) (ht : Told w w' base base2 WB N (F i) q c d s) :
    ∃ N' F', N' ≤ N + 1 ∧ Wd w' base base2 WB N' (n + 1) (qs.set i (q.act c)) F' d s ∧ Below base w w' ∧ (∀ k, k < base2 → OkT w k → w'.heap[k]? = w.heap[k]?) := by
  obtain ⟨F1, N', hpl, hsub, hN, hbk, hc, hbel⟩ := ht
  obtain ⟨e1, e2, e3, _, _⟩ := act_ids q c
  have hil : i < qs.length := (List.getElem?_eq_some_iff.1 hi).1
  have hlt : ∀ j k, j < qs.length → F j k → k < w.heap.size ∧ OkT w k ∧ base2 ≤ k := fun j k hj hk => by
    have := (h.pl j _ (List.getElem?_eq_getElem hj)).1.ok k hk
    exact ⟨this.2.lt, this.2, this.1⟩
  refine ⟨N', fun j => if j = i then F1 else F j, hN, ⟨hbk, ?_, fun j qj hj => ?_, fun j m k hjm hj hm hk hk2 => ?_, fun j k hj hk => ?_, h.b1, Nat.le_trans h.b2 hc.size, by simpa using Nat.le_succ_of_le h.cnt⟩, hbel, fun k hk hok => ?_⟩
  · rw [plCells_set qs i q _ hi e1 e2 e3, List.length_set]
    refine ownsRow_chg h.row hc (fun k hk s => ?_)
    rcases s with s | s
    · exact h.rw_ i k hil s hk
    · exact s (ownsRow_T205 h.row k hk).2.1
  · by_cases e : j = i
    · subst e
      rw [List.getElem?_set_self hil] at hj
      cases hj
      simp only [if_true]
      exact ⟨hpl, (h.pl j q hi).2.act c hb⟩
    · rw [List.getElem?_set_ne (fun e' => e e'.symm)] at hj
      simp only [e, if_false]
      refine ⟨(h.pl j qj hj).1.chg hc (fun k hk s => ?_), (h.pl j qj hj).2.mono (by omega)⟩
      have hjl : j < qs.length := (List.getElem?_eq_some_iff.1 hj).1
      rcases s with s | s
      · exact h.dis j i k e hjl hil hk s
      · exact s (hlt j k hjl hk).2.1
  · rw [List.length_set] at hj hm
    by_cases e : j = i
    · subst e
      have e' : m ≠ j := fun x => hjm x.symm
      simp only [if_true] at hk
      simp only [e', if_false] at hk2
      rcases hsub k hk with hk | hk
      · exact h.dis j m k hjm hj hm hk hk2
      · have := (hlt m k hm hk2).1
        omega
    · simp only [e, if_false] at hk
      by_cases e' : m = i
      · subst e'
        simp only [if_true] at hk2
        rcases hsub k hk2 with hk2 | hk2
        · exact h.dis j m k hjm hj hm hk hk2
        · have := (hlt j k hj hk).1
          omega
      · simp only [e', if_false] at hk2
        exact h.dis j m k hjm hj hm hk hk2
  · rw [List.length_set] at hj
    intro hd
    by_cases e : j = i
    · subst e
      simp only [if_true] at hk
      rcases hsub k hk with hk | hk
      · exact h.rw_ j k hj hk hd
      · have := (ownsRow_T205 h.row k hd).2.2
        omega
    · simp only [e, if_false] at hk
      exact h.rw_ j k hj hk hd
  · refine hc.block k (by have := h.b2; omega) (fun s => ?_)
    rcases s with s | s
    · have := (hlt i k hil s).2.2
      omega
    · exact s hok
end Go.Proofs.YtloaefcgcniacaaGreatDoor

namespace Go.Proofs.YtloaefcgcniacaaGreatDoor
open Go.RowKit
set_option linter.unusedVariables false

/-- Behind a step. -/
def Stepped (w w' : World) (base base2 WB N n : Nat) : Prop :=
  ∃ N' qs F d s, N' ≤ N + 1 ∧ Wd w' base base2 WB N' (n + 1) qs F d s ∧ Below base w w' ∧ (∀ k, k < base2 → OkT w k → w'.heap[k]? = w.heap[k]?)

theorem Wd.mono {w : World} {base base2 WB N n m : Nat} {qs : List Pl} {F : Nat → Nat → Prop} {d s : Value} (h : Wd w base base2 WB N n qs F d s) (hm : n ≤ m) : Wd w base base2 WB N m qs F d s :=
  ⟨h.bk, h.row, fun i q hi => ⟨(h.pl i q hi).1, (h.pl i q hi).2.mono hm⟩, h.dis, h.rw_, h.b1, h.b2, Nat.le_trans h.cnt hm⟩
theorem Wd.cells {w : World} {base base2 WB N n : Nat} {qs : List Pl} {F : Nat → Nat → Prop} {d s : Value} (h : Wd w base base2 WB N n qs F d s) : w.cell? ⟨WB, 0, none⟩ = some d ∧ w.frozen? ⟨WB, 0, none⟩ = false := by
  obtain ⟨lv, xs, _, hwb, _⟩ := h.bk
  constructor
  · simp [World.cell?, hwb]
  · simp [World.frozen?, hwb]
theorem Wd.none_or {w : World} {base base2 WB N n : Nat} {qs : List Pl} {F : Nat → Nat → Prop} {d s : Value} (h : Wd w base base2 WB N n qs F d s) : (qs = [] ∧ ∃ p cap, d = .slice p 0 cap) ∨ ∃ gd cap, d = .slice (some ⟨gd, 0, none⟩) qs.length cap ∧ 0 < qs.length ∧ ∀ i q, qs[i]? = some q → w.cell? ⟨gd, i * 3, none⟩ = some (.pointer (some ⟨q.x, 0, none⟩)) ∧ w.cell? ⟨gd, i * 3 + 1, none⟩ = some (.pointer (some ⟨q.h, 0, none⟩)) ∧ w.cell? ⟨gd, i * 3 + 2, none⟩ = some (.pointer (some ⟨q.r, 0, none⟩)) := by
  rcases h.row.2 with ⟨hv, h0⟩ | ⟨g, cap, cur, hv, hb, hg, hnc, hcm, hcs, htake⟩
  · exact .inl ⟨List.length_eq_zero_iff.1 h0, none, 0, hv⟩
  · by_cases h0 : 0 < qs.length
    · refine .inr ⟨g, cap, hv, h0, fun i q hi => ?_⟩
      obtain ⟨e1, e2, e3⟩ := plCells_at qs i q hi
      have hc : ∀ t u, (plCells qs)[t]? = some u → w.cell? ⟨g, t, none⟩ = some u := fun t u hu => by
        rw [← htake, List.getElem?_take] at hu
        split at hu
        · simp only [World.cell?, hg]
          simpa using hu
        · cases hu
      exact ⟨hc _ _ e1, hc _ _ e2, hc _ _ e3⟩
    · have e0 : qs = [] := List.length_eq_zero_iff.1 (by omega)
      subst e0
      exact .inl ⟨rfl, _, cap, hv⟩

theorem stepped_of {w V w1 w2 : World} {base base2 WB N n : Nat} {qs : List Pl} {F : Nat → Nat → Prop} {d s : Value} (hbV : Below w.heap.size w V) (hw : Wd w base base2 WB N n qs F d s) (i : Nat) (q : Pl) (hi : qs[i]? = some q) (c : RCall) (hb : c.b.size ≤ 2000000) (ht : Told V w1 base base2 WB N (F i) q c d s) (hb2 : Below w1.heap.size w1 w2) : Stepped w w2 base base2 WB N n := by
  obtain ⟨N', F', hN, hW, hbel, hkp⟩ := (hw.down hbV).told i q hi c hb ht
  have h1 := hw.b1
  have h2 := hw.b2
  have hz := hbV.size
  have hz1 := hbel.size
  refine ⟨N', _, F', d, s, hN, hW.down hb2, ((hbV.mono (by omega)).trans hbel).trans (hb2.mono (by omega)), fun k hk hok => ?_⟩
  have e1 := hbV.block k (by omega)
  have hok' : OkT V k := by
    obtain ⟨cur, t, fz, e, r⟩ := hok
    exact ⟨cur, t, fz, e1.trans e, r⟩
  exact (hb2.block k (by omega)).trans ((hkp k hk hok').trans e1)

theorem same_told {V w1 : World} {base base2 WB N n : Nat} {F : Nat → Prop} {q : Pl} {c : RCall} {d s : Value} (ht : Told V w1 base base2 WB N F q c d s) (hq : Fine q n) (hn : n + 1 < 900000) (hb : c.b.size ≤ 2000000) :
    Calls Tryz.prog 97 #[.agg #[.pointer (some ⟨q.x, 0, none⟩), .pointer (some ⟨q.h, 0, none⟩), .pointer (some ⟨q.r, 0, none⟩)]] w1 fun e w' => e = .returned (.bool true) ∧ Below w1.heap.size w1 w' := by
  obtain ⟨F', N', hpl, _⟩ := ht
  obtain ⟨e1, e2, e3, _, _⟩ := act_ids q c
  have := same_any (q.act c) (n + 1) base2 F' w1 hpl (hq.act c hb) hn
  rw [e1, e2, e3] at this
  exact this

theorem told_cel {V w1 : World} {base base2 WB N B : Nat} {F : Nat → Prop} {q : Pl} {c : RCall} {d s : Value} {k : Nat} {t : TypeId} {cs : Array Value} (ht : Told V w1 base base2 WB N F q c d s) (h : Cel V k t cs) (hF : ∀ k, F k → k < B) (hk : B ≤ k) (h1 : t ≠ 83) (h2 : t ≠ 53) : Cel w1 k t cs := by
  obtain ⟨_, _, _, _, _, _, hc, _⟩ := ht
  refine (hc.block k h.lt (fun x => ?_)).trans h
  rcases x with x | x
  · have := hF k x; omega
  · exact x (h.okT h1 h2)

theorem told_takes {V w1 : World} {base base2 WB N : Nat} {F F' : Nat → Prop} {q : Pl} {c : RCall} {d s : Value} (hB : BooksD V base WB N d s) (hpl : PlateAt w1 base2 F' (q.act c)) (hsub : ∀ k, F' k → F k ∨ V.heap.size ≤ k) (hc : Chg V w1 (Own F V)) (hlow : ∀ k, F k → base2 ≤ k) (h1 : base ≤ base2) (h2 : base2 ≤ V.heap.size) : Told V w1 base base2 WB N F q c d s :=
  ⟨F', N, hpl, hsub, by omega, hB.chg hc, hc.mono (fun k _ hk => .inl hk.1), hc.below (fun k hk => by have := hlow k hk.1; omega) (by omega)⟩

set_option maxRecDepth 20000 in
set_option maxHeartbeats 1000000 in
theorem disks_append (base base2 WB N n : Nat) (qs : List Pl) (F : Nat → Nat → Prop) (dV sV : Value) (a b c d e0 : Int) (s : ByteArray) (w : World) (h : Wd w base base2 WB N n qs F dV sV) (hn : n < 800000) (hN : N < 1000000) (hs : s.size ≤ 2000000) (ha : fits a) :
    Calls Tryz.prog 39 #[.pointer (some ⟨WB, 0, none⟩), .agg #[.int .i64 5, .int .i64 a, .int .i64 b, .int .i64 c, .int .i64 d, .int .i64 e0, .string s]] w fun e w' => e = .returned (.bool true) ∧ Stepped w w' base base2 WB N n := by
  have HW := (show Hid _ from h)
  clear h
  have hb0 : Below w.heap.size w (w.alloc (Obj.cells (opC 5 a b c d e0 s) 56)) := (Below.refl _ _).alloc (Nat.le_refl _) _
  have hp0 : Cel (w.alloc (Obj.cells (opC 5 a b c d e0 s) 56)) w.heap.size 56 (opC 5 a b c d e0 s) := Cel.new _ _ _
  have hz0 : (w.alloc (Obj.cells (opC 5 a b c d e0 s) 56)).heap.size = w.heap.size + 1 := by simp
  have hW0 := HW.out.down hb0
  obtain ⟨k0, kf⟩ := hW0.cells
  rcases hW0.none_or with ⟨rfl, pp, cp, rfl⟩ | ⟨gd, cap, rfl, hpos, hcells⟩
  · clear hp0
    have hfin : Stepped w (w.alloc (Obj.cells (opC 5 a b c d e0 s) 56)) base base2 WB N n := ⟨N, [], F, _, _, by omega, hW0.mono (by omega), hb0.mono (by have := hW0.b1; have := HW.out.b2; omega), fun k hk _ => hb0.block k (by have := HW.out.b2; omega)⟩
    simp only [opC] at *
    go_enter Tryz.func39, Tryz.ntmps39
    go_wp2
    go_ret
    exact ⟨rfl, hfin⟩
  · have hpn : ((qs.length : Int) == 0) = false := by rw [beq_eq_false_iff_ne]; omega
    have hcnt := HW.out.cnt
    have hi : qs[pickN a qs.length]? = some (qs[pickN a qs.length]'(pickN_lt a _ hpos)) := List.getElem?_eq_getElem _
    have hil := pickN_lt a qs.length hpos
    have hili : ((pickN a qs.length : Nat) : Int) < (qs.length : Int) := by omega
    obtain ⟨x0, x1, x2⟩ := hcells _ _ hi
    have HCELL := (show Hid _ from hcells)
    have HA := (show Hid _ from ha)
    have HI := (show Hid _ from hi)
    have HW0 := (show Hid _ from hW0)
    obtain ⟨o0, o1, o2, o3, o4, o5, o6⟩ := hp0.op
    have HP0 := (show Hid _ from hp0)
    clear hcells ha hW0 hp0
    generalize (qs[pickN a qs.length]'(pickN_lt a _ hpos)) = q at *
    have HPK : Hid (∀ w, Calls Tryz.prog 91 #[.int .i64 a, .int .i64 (qs.length : Int)] w fun e w' => e = .returned (.int .i64 (pickN a qs.length : Nat)) ∧ w' = w) := fun w => pick_any a qs.length w hpos HA.out (by omega)
    have HX : Hid (pickN a qs.length < qs.length) := hil
    generalize pickN a qs.length = i at *
    simp only [opC] at *
    go_enter Tryz.func39, Tryz.ntmps39
    go_wp2_with fail
    generalize (w.alloc (Obj.cells #[.int .i64 5, .int .i64 a, .int .i64 b, .int .i64 c, .int .i64 d, .int .i64 e0, .string s] 56)) = W0 at *
    have hn1 := World.new_ne W0 ⟨WB, 0, none⟩ k0
    have hn2 := World.new_ne W0 ⟨w.heap.size, 1, none⟩ o1
    have hn3 := World.new_ne W0 ⟨gd, i * 3, none⟩ x0
    simp only at hn1 hn2 hn3
    go_region_held3 (fun w' => w'.cell? ⟨WB, 0, none⟩ = some (.slice (some ⟨gd, 0, none⟩) qs.length cap) ∧ w'.cell? ⟨w.heap.size, 1, none⟩ = some (.int .i64 a) ∧ w'.cell? ⟨gd, i * 3, none⟩ = some (.pointer (some ⟨q.x, 0, none⟩)) ∧ w'.cell? ⟨gd, i * 3 + 1, none⟩ = some (.pointer (some ⟨q.h, 0, none⟩)) ∧ w'.cell? ⟨gd, i * 3 + 2, none⟩ = some (.pointer (some ⟨q.r, 0, none⟩))) (go_keep) (first | (go_at_call 91; refine (HPK.out _).mono ?_; rintro e w' ⟨rfl, hw'⟩; have hw2 := hw'.symm; clear hw'; subst hw2))
    all_goals
      have hAA : Below W0.heap.size W0 (W0.alloc (Obj.cells #[.pointer (some ⟨q.x, 0, none⟩), .pointer (some ⟨q.h, 0, none⟩), .pointer (some ⟨q.r, 0, none⟩)] 159)).drew := ((Below.refl _ _).alloc (Nat.le_refl _) _).drew
      have hPV : Cel (W0.alloc (Obj.cells #[.pointer (some ⟨q.x, 0, none⟩), .pointer (some ⟨q.h, 0, none⟩), .pointer (some ⟨q.r, 0, none⟩)] 159)).drew (w.heap.size + 1) 159 (plC q) := by
        have := Cel.new W0 159 (plC q)
        rw [hz0] at this
        exact this
      have hOV : Cel (W0.alloc (Obj.cells #[.pointer (some ⟨q.x, 0, none⟩), .pointer (some ⟨q.h, 0, none⟩), .pointer (some ⟨q.r, 0, none⟩)] 159)).drew w.heap.size 56 (opC 5 a b c d e0 s) := Cel.below HP0.out hAA (Cel.lt HP0.out)
      have hbV : Below w.heap.size w (W0.alloc (Obj.cells #[.pointer (some ⟨q.x, 0, none⟩), .pointer (some ⟨q.h, 0, none⟩), .pointer (some ⟨q.r, 0, none⟩)] 159)).drew := hb0.trans (hAA.mono (by omega))
      clear hAA o0 o1 o2 o3 o4 o5 o6 x0 x1 x2 k0 kf
      generalize (W0.alloc (Obj.cells #[.pointer (some ⟨q.x, 0, none⟩), .pointer (some ⟨q.h, 0, none⟩), .pointer (some ⟨q.r, 0, none⟩)] 159)).drew = V at *
      have hWV := HW.out.down hbV
      have hpq := HW.out.pl i q HI.out
      have hlow : ∀ k, F i k → base2 ≤ k ∧ k < w.heap.size := fun k hk => ⟨(hpq.1.ok k hk).1, (hpq.1.ok k hk).2.lt⟩
      have hpV := hpq.1.below hbV
      obtain ⟨p0, p1, p2⟩ := hPV.pl
      obtain ⟨o0, o1, o2, o3, o4, o5, o6⟩ := hOV.op
      have HPV := (show Hid _ from hPV)
      have HOV := (show Hid _ from hOV)
      have hz := hbV.size
      clear hPV hOV
      have hb2 := HW.out.b2
      have hb1 := HW.out.b1
      go_wp2_with fail
      clear p0 p1 p2 o0 o1 o2 o3 o4 o5 o6
      refine (takes_append q n base2 (F i) a b c d e0 s _ hpV hpq.2 (by omega) hs (by omega)).mono ?_
      rintro e w1 ⟨rfl, F', hpl, hsub, hc⟩
      have ht := told_takes hWV.bk hpl hsub hc (fun k hk => (hlow k hk).1) hb1 (by omega)
      have hP1 : Cel w1 (w.heap.size + 1) 159 (plC q) := told_cel ht HPV.out (fun k hk => (hlow k hk).2) (by omega) (by decide) (by decide)
      obtain ⟨p0, p1, p2⟩ := hP1.pl
      clear hpl hsub hc hP1
      go_wp2_with fail
      clear p0 p1 p2
      refine (same_told ht hpq.2 (by omega) hs).mono ?_
      rintro e w2 ⟨rfl, hb9⟩
      have hfin := stepped_of hbV HW.out i q HI.out _ hs ht hb9
      go_wp2
      go_ret
      exact ⟨rfl, hfin⟩
end Go.Proofs.YtloaefcgcniacaaGreatDoor
