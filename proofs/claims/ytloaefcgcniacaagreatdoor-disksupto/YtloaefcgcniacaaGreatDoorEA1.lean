import Derived.Test.YtloaefcgcniacaaGreatDoorDy
import Derived.Test.YtloaefcgcniacaaGreatDoorDA4
namespace Go.Proofs.YtloaefcgcniacaaGreatDoor
open Go.RowKit
set_option linter.unusedVariables false

/-- No number of what the disk holds is near its end. -/
structure Good (σ : Dk) : Prop where
  L : fits σ.L
  ca : small σ.ca
  wr : small σ.wr
  cn : 0 ≤ σ.cn ∧ σ.cn ≤ 4294967295
  bs : σ.bs.length ≤ 2000000
  logs : σ.logs.length < 1000000
  lsz : ∀ l ∈ σ.logs, l.length ≤ 2000000
  fr : ∀ i, (σ.fr i).length < 1000000
  fsz : ∀ i, ∀ l ∈ σ.fr i, l.length ≤ 2000000
  Z : σ.Z < 1000

/-- Behind a call that is done, and behind one that is forbidden. -/
def Dk.yes (σ : Dk) : Dk := ⟨σ.S, less σ.L, σ.ca + 1, σ.wr, σ.cn, σ.bs, σ.logs, σ.fr, σ.kp, σ.Z⟩
def Dk.no (σ : Dk) : Dk := ⟨σ.S, less σ.L, σ.ca + 1, σ.wr + 1, σ.cn, σ.bs, σ.logs, σ.fr, σ.kp, σ.Z⟩

theorem NoB.tyD {w : World} {S : Nat → Prop} (h : ∀ k, S k → TyD w k) : NoB w S := fun k hk cur fz e => (h k hk).not e (by decide) (by decide) (by decide)

section
variable {w w' : World} {base : Nat} {F S : Nat → Prop} {x h g gz : Nat} {σ : Dk} {bd lg : Value} {zs : List (Value × Int)}

theorem DP.tyG (d : DP w base F x h g gz σ bd lg zs) : TyD w g := ⟨_, _, _, d.st, .inl rfl⟩
theorem DP.tyZ (d : DP w base F x h g gz σ bd lg zs) : TyD w gz := ⟨_, _, _, d.za, .inr (.inl rfl)⟩
theorem DP.tyL (d : DP w base F x h g gz σ bd lg zs) (k : Nat) (hk : lg.ownBlock = some k) : TyD w k := by
  obtain ⟨_, _, cur, hb⟩ := d.log.own k hk
  exact ⟨_, _, _, hb, .inr (.inr rfl)⟩
theorem DP.tyF (d : DP w base F x h g gz σ bd lg zs) (i : Nat) (c : Value × Int) (hi : zs[i]? = some c) (k : Nat) (hk : c.1.ownBlock = some k) : TyD w k := by
  obtain ⟨_, _, cur, hb⟩ := (d.zr i c hi).1.own k hk
  exact ⟨_, _, _, hb, .inr (.inr rfl)⟩
theorem DP.zv (d : DP w base F x h g gz σ bd lg zs) : ∀ (i : Nat) (c : Value × Int), zs[i]? = some c → ∃ p n cap, c.1 = .slice p n cap := fun i c hi => by
  obtain ⟨p, cap, e⟩ := (d.zr i c hi).1.form
  exact ⟨p, _, cap, e⟩
theorem DP.ne (d : DP w base F x h g gz σ bd lg zs) : g ≠ gz := st_z_ne d.st d.za

/-- What is as it was behind a change of the state's block and the zones' alone. -/
theorem DP.keepRows (d : DP w base F x h g gz σ bd lg zs) (hc : Chg w w' S) (hg : ∀ k, S k → k = g ∨ k = gz) :
    RowG w' base F lg σ.logs ∧ (∀ (i : Nat) (c : Value × Int), zs[i]? = some c → RowG w' base F c.1 (σ.fr i)) ∧ DkAt w' x g ∧ HdAt w' h g ∧ BytesV w' bd σ.bs ∧ (∀ k, F k → k ≠ g → k ≠ gz → OkT w' k) := by
  have hT : ∀ k, S k → TyD w k := fun k hk => by
    rcases hg k hk with rfl | rfl
    · exact d.tyG
    · exact d.tyZ
  have hnb := NoB.tyD hT
  have hrow : ∀ {v : Value} {ls : List (List Nat)}, RowG w base F v ls → RowG w' base F v ls := fun hr => hr.chgB hc hnb (fun k hk s => by
    rcases hg k s with e | e
    · exact row_ne_state hr d.st (by decide) k hk e
    · exact row_ne_state hr d.za (by decide) k hk e)
  refine ⟨hrow d.log, fun i c hi => hrow (d.zr i c hi).1, Cel.chg d.dk hc (fun s => (hT _ s).not d.dk (by decide) (by decide) (by decide)), Cel.chg d.hd hc (fun s => (hT _ s).not d.hd (by decide) (by decide) (by decide)), d.bs.chg hc hnb, fun k hk h1 h2 => (d.ok k hk).2.chg hc (fun s => ?_)⟩
  rcases hg k s with e | e
  · exact h1 e
  · exact h2 e

/-- The state's block alone was changed, and there only the numbers of power and calls. -/
theorem DP.count (d : DP w base F x h g gz σ bd lg zs) (hc : Chg w w' (fun k => k = g)) (L ca wr : Int) (hs : StAt w' g σ.S L ca wr (.slice (some ⟨gz, 0, none⟩) zs.length zs.length) σ.cn bd lg) :
    DP w' base F x h g gz ⟨σ.S, L, ca, wr, σ.cn, σ.bs, σ.logs, σ.fr, σ.kp, σ.Z⟩ bd lg zs := by
  obtain ⟨h1, h2, h3, h4, h5, h6⟩ := d.keepRows hc (fun k hk => .inl hk)
  have hz : ZAt w' gz zs := Cel.chg d.za hc (fun e => d.ne e.symm)
  exact ⟨h3, h4, hs, h5, h1, hz, d.zl, fun i c hi => ⟨h2 i c hi, (d.zr i c hi).2⟩, d.a1, d.a2, d.f0, d.f2, d.f3, d.f4, fun k hk => ⟨(d.ok k hk).1, by
    by_cases e : k = g
    · subst e; exact Cel.okT hs (by decide) (by decide)
    · by_cases e2 : k = gz
      · subst e2; exact Cel.okT hz (by decide) (by decide)
      · exact h6 k hk e e2⟩⟩

theorem d_size (d : DP w base F x h g gz σ bd lg zs) (q : Good σ) (hL : σ.L ≠ 0) (z : Int) :
    Calls Tryz.prog 148 #[.pointer (some ⟨x, 0, none⟩), .int .i64 z] w fun e w' => Chg w w' (fun k => k = g) ∧
      ((¬ (0 ≤ z ∧ z < (σ.Z : Int)) ∧ e = .returned (.tuple #[.int .i64 0, .bool false]) ∧ DP w' base F x h g gz σ.no bd lg zs) ∨
       (∃ i : Nat, z = (i : Int) ∧ i < σ.Z ∧ e = .returned (.tuple #[.int .i64 ((σ.fr i).length : Nat), .bool true]) ∧ DP w' base F x h g gz σ.yes bd lg zs)) := by
  refine (dSize_on x g gz σ.S σ.L σ.ca σ.wr σ.cn z bd lg zs w d.dk d.st d.za hL q.L q.ca q.wr d.zv).mono ?_
  rintro e w' ⟨hc, h | ⟨i, p, n, cap, k, hz, hi, he, hs⟩⟩
  · exact ⟨hc, .inl ⟨by rw [← d.zl]; exact h.1, h.2.1, d.count hc _ _ _ h.2.2⟩⟩
  · refine ⟨hc, .inr ⟨i, hz, by rw [← d.zl]; exact (List.getElem?_eq_some_iff.1 hi).1, ?_, d.count hc _ _ _ hs⟩⟩
    obtain ⟨p', cap', e'⟩ := (d.zr i _ hi).1.form
    simp only [Value.slice.injEq] at e'
    rw [he, e'.2.1]

theorem d_read (d : DP w base F x h g gz σ bd lg zs) (q : Good σ) (hL : σ.L ≠ 0) (z s : Int) :
    Calls Tryz.prog 147 #[.pointer (some ⟨x, 0, none⟩), .int .i64 z, .int .i64 s] w fun e w' => Chg w w' (fun k => k = g) ∧
      (((¬ ∃ (i j : Nat) (l : List Nat), z = (i : Int) ∧ s = (j : Int) ∧ i < σ.Z ∧ (σ.fr i)[j]? = some l) ∧ e = .returned (.tuple #[.slice none 0 0, .bool false]) ∧ DP w' base F x h g gz σ.no bd lg zs) ∨
       (∃ (i j : Nat) (l : List Nat), z = (i : Int) ∧ s = (j : Int) ∧ i < σ.Z ∧ (σ.fr i)[j]? = some l ∧ ∃ g', e = .returned (.tuple #[.slice (some ⟨g', 0, none⟩) l.length l.length, .bool true]) ∧ w.heap.size ≤ g' ∧ Blk w' g' l ∧ DP w' base F x h g gz σ.yes bd lg zs)) := by
  have hls : ((List.range zs.length).map σ.fr).length = zs.length := by simp
  have hat : ∀ (i : Nat) (fs : List (List Nat)), ((List.range zs.length).map σ.fr)[i]? = some fs → fs = σ.fr i := fun i fs hi => by
    rw [List.getElem?_map] at hi
    obtain ⟨j, hj, rfl⟩ := Option.map_eq_some_iff.1 hi
    have := (List.getElem?_eq_some_iff.1 hj).2
    simp at this
    rw [this]
  refine (dRead_on base x g gz σ.S σ.L σ.ca σ.wr σ.cn z s bd lg zs ((List.range zs.length).map σ.fr) w d.dk d.st d.za hL q.L q.ca q.wr hls (fun i c fs hi hf => by
    rw [hat i fs hf]
    exact (d.zr i c hi).1.rowB (fun k hk => (d.ok k hk).1)) (fun i fs hf l hl => by rw [hat i fs hf] at hl; exact q.fsz i l hl)).mono ?_
  rintro e w' ⟨hc, h | ⟨l, ⟨i, j, fs, hz, hs, hi, hf, hj⟩, g', he, hg, hB, hS⟩⟩
  · refine ⟨hc, .inl ⟨fun ⟨i, j, l, hz, hs, hi, hj⟩ => h.1 ⟨l, i, j, σ.fr i, hz, hs, by rw [d.zl]; exact hi, ?_, hj⟩, h.2.1, d.count hc _ _ _ h.2.2⟩⟩
    rw [← d.zl] at hi
    simp [hi]
  · exact ⟨hc, .inr ⟨i, j, l, hz, hs, by rw [← d.zl]; exact hi, by rw [← hat i fs hf]; exact hj, g', he, hg, hB, d.count hc _ _ _ hS⟩⟩

theorem d_anchored (d : DP w base F x h g gz σ bd lg zs) (q : Good σ) (hL : σ.L ≠ 0) :
    Calls Tryz.prog 125 #[.pointer (some ⟨x, 0, none⟩)] w fun e w' => Chg w w' (fun k => k = g) ∧ ∃ g', e = .returned (.tuple #[.int .i64 σ.cn, .slice (some ⟨g', 0, none⟩) σ.bs.length σ.bs.length, .bool true]) ∧ Blk w' g' σ.bs ∧ w.heap.size ≤ g' ∧ DP w' base F x h g gz σ.yes bd lg zs := by
  refine (dAnchored_on x g σ.S σ.L σ.ca σ.wr σ.cn _ bd lg σ.bs w d.dk d.st d.bs q.bs hL q.L q.ca).mono ?_
  rintro e w' ⟨g', he, hB, hg, hS, hc⟩
  exact ⟨hc, g', he, hB, hg, d.count hc _ _ _ hS⟩

/-- The state's block and the zones' were changed. -/
theorem DP.zones (d : DP w base F x h g gz σ bd lg zs) (hc : Chg w w' (fun k => k = g ∨ k = gz)) (L ca wr : Int) (zs' : List (Value × Int)) (fr : Nat → List (List Nat)) (kp : Nat → Int) (hl : zs'.length = zs.length) (hs : StAt w' g σ.S L ca wr (.slice (some ⟨gz, 0, none⟩) zs.length zs.length) σ.cn bd lg) (hz : ZAt w' gz zs')
    (hr : ∀ (i : Nat) (c : Value × Int), zs'[i]? = some c → ((∃ c', zs[i]? = some c' ∧ c'.1 = c.1 ∧ fr i = σ.fr i) ∨ (c.1 = .slice none 0 0 ∧ fr i = [])) ∧ c.2 = kp i) :
    DP w' base F x h g gz ⟨σ.S, L, ca, wr, σ.cn, σ.bs, σ.logs, fr, kp, σ.Z⟩ bd lg zs' := by
  obtain ⟨h1, h2, h3, h4, h5, h6⟩ := d.keepRows hc (fun k hk => hk)
  have hown : ∀ (i : Nat) (c : Value × Int) (k : Nat), zs'[i]? = some c → c.1.ownBlock = some k → ∃ c', zs[i]? = some c' ∧ c'.1.ownBlock = some k := fun i c k hi hk => by
    rcases (hr i c hi).1 with ⟨c', e1, e2, _⟩ | ⟨e, _⟩
    · exact ⟨c', e1, by rw [e2]; exact hk⟩
    · rw [e] at hk; cases hk
  refine ⟨h3, h4, by rw [hl]; exact hs, h5, h1, hz, by rw [hl]; exact d.zl, fun i c hi => ⟨?_, (hr i c hi).2⟩, fun i c k hi hk => ?_, fun i j c c2 k hij hi hj hk hk2 => ?_, d.f0, d.f2, d.f3, fun i c k hi hk => ?_, fun k hk => ⟨(d.ok k hk).1, ?_⟩⟩
  · rcases (hr i c hi).1 with ⟨c', e1, e2, e3⟩ | ⟨e, e3⟩
    · have := h2 i c' e1
      rw [e2] at this
      rw [show (⟨σ.S, L, ca, wr, σ.cn, σ.bs, σ.logs, fr, kp, σ.Z⟩ : Dk).fr i = σ.fr i from e3]
      exact this
    · rw [show (⟨σ.S, L, ca, wr, σ.cn, σ.bs, σ.logs, fr, kp, σ.Z⟩ : Dk).fr i = [] from e3, e]
      exact RowG.nil _ _ _
  · obtain ⟨c', e1, e2⟩ := hown i c k hi hk
    exact d.a1 i c' k e1 e2
  · obtain ⟨c', e1, e2⟩ := hown i c k hi hk
    obtain ⟨c2', e3, e4⟩ := hown j c2 k hj hk2
    exact d.a2 i j c' c2' k hij e1 e3 e2 e4
  · obtain ⟨c', e1, e2⟩ := hown i c k hi hk
    exact d.f4 i c' k e1 e2
  · by_cases e : k = g
    · subst e; exact Cel.okT hs (by decide) (by decide)
    · by_cases e2 : k = gz
      · subst e2; exact Cel.okT hz (by decide) (by decide)
      · exact h6 k hk e e2

theorem d_reset (d : DP w base F x h g gz σ bd lg zs) (q : Good σ) (hL : σ.L ≠ 0) (z : Int) :
    Calls Tryz.prog 94 #[.pointer (some ⟨x, 0, none⟩), .int .i64 z] w fun e w' => Chg w w' (fun k => k = g ∨ k = gz) ∧
      ((¬ (0 ≤ z ∧ z < (σ.Z : Int)) ∧ e = .returned (.bool false) ∧ DP w' base F x h g gz σ.no bd lg zs) ∨
       (∃ i : Nat, z = (i : Int) ∧ i < σ.Z ∧ e = .returned (.bool true) ∧ ∃ zs', DP w' base F x h g gz ⟨σ.S, less σ.L, σ.ca + 1, σ.wr, σ.cn, σ.bs, σ.logs, fun j => if j = i then [] else σ.fr j, fun j => if j = i then 0 else σ.kp j, σ.Z⟩ bd lg zs')) := by
  refine (dReset_on x g gz σ.S σ.L σ.ca σ.wr σ.cn z bd lg zs w d.dk d.st d.za hL q.L q.ca q.wr).mono ?_
  rintro e w' ⟨hc, h | ⟨i, hz, hi, he, hs, hZ⟩⟩
  · refine ⟨hc, .inl ⟨by rw [← d.zl]; exact h.1, h.2.1, ?_⟩⟩
    exact d.zones hc _ _ _ zs σ.fr σ.kp rfl h.2.2.1 h.2.2.2 (fun i c hi => ⟨.inl ⟨c, hi, rfl, rfl⟩, (d.zr i c hi).2⟩)
  · refine ⟨hc, .inr ⟨i, hz, by rw [← d.zl]; exact hi, he, zs.set i (.slice none 0 0, 0), ?_⟩⟩
    refine d.zones hc _ _ _ _ _ _ (by simp) hs hZ (fun j c hj => ?_)
    by_cases e : j = i
    · subst e
      rw [List.getElem?_set_self hi] at hj
      cases hj
      simp
    · rw [List.getElem?_set_ne (fun e' => e e'.symm)] at hj
      exact ⟨.inl ⟨c, hj, rfl, if_neg e⟩, by rw [if_neg e]; exact (d.zr j c hj).2⟩

theorem d_flush (d : DP w base F x h g gz σ bd lg zs) (q : Good σ) (hL : σ.L ≠ 0) :
    Calls Tryz.prog 96 #[.pointer (some ⟨x, 0, none⟩)] w fun e w' => Chg w w' (fun k => k = g ∨ k = gz) ∧ e = .returned (.bool true) ∧ ∃ zs', DP w' base F x h g gz ⟨σ.S, less σ.L, σ.ca + 1, σ.wr, σ.cn, σ.bs, σ.logs, σ.fr, fun j => ((σ.fr j).length : Nat), σ.Z⟩ bd lg zs' := by
  refine (dFlush_on x g gz σ.S σ.L σ.ca σ.wr σ.cn bd lg zs w d.dk d.st d.za hL q.L q.ca (by rw [d.zl]; exact q.Z) d.zv).mono ?_
  rintro e w' ⟨he, hc, hs, hZ⟩
  refine ⟨hc, he, flushZ zs, ?_⟩
  refine d.zones hc _ _ _ _ _ _ (flushZ_length zs) hs hZ (fun j c hj => ?_)
  unfold flushZ at hj
  rw [List.getElem?_map] at hj
  obtain ⟨c', e1, rfl⟩ := Option.map_eq_some_iff.1 hj
  refine ⟨.inl ⟨c', e1, rfl, rfl⟩, ?_⟩
  obtain ⟨p, cap, e⟩ := (d.zr j c' e1).1.form
  simp [e, lenV]
end
end Go.Proofs.YtloaefcgcniacaaGreatDoor

namespace Go.Proofs.YtloaefcgcniacaaGreatDoor
open Go.RowKit
set_option linter.unusedVariables false

/-- The blocks of a disk behind a call: those that it had, and some that were made. -/
def Ext (F : Nat → Prop) (w w' : World) (k : Nat) : Prop := (F k ∨ w.heap.size ≤ k) ∧ OkT w' k

section
variable {w w' : World} {base : Nat} {F : Nat → Prop} {x h g gz : Nat} {σ : Dk} {bd lg : Value} {zs : List (Value × Int)}

theorem OkB.okT {w : World} {k : Nat} (h : OkB w k) : OkT w k := by
  obtain ⟨cur, fz, h⟩ := h
  exact ⟨cur, 5, fz, h, by decide, by decide⟩
theorem RowG.okT {w : World} {base : Nat} {F : Nat → Prop} {v : Value} {ls : List (List Nat)} (h : RowG w base F v ls) (k : Nat) (hk : v.ownBlock = some k) : OkT w k := by
  obtain ⟨_, _, cur, hb⟩ := h.own k hk
  exact ⟨_, _, _, hb, by decide, by decide⟩

theorem d_advance (d : DP w base F x h g gz σ bd lg zs) (q : Good σ) (hL : σ.L ≠ 0) (l : List Nat) (p : Option Addr) (c : Nat) (hb : ByV w p l) (hl : l.length ≤ 2000000) (hbase : base ≤ w.heap.size) :
    Calls Tryz.prog 146 #[.pointer (some ⟨x, 0, none⟩), .slice p l.length c] w fun e w' => Chg w w' (fun k => k = g) ∧ e = .returned (.bool (decide (σ.cn < 4294967295 ∧ (l.length : Int) ≤ 32))) ∧
      (¬ (σ.cn < 4294967295 ∧ (l.length : Int) ≤ 32) → DP w' base F x h g gz σ.no bd lg zs) ∧
      (σ.cn < 4294967295 ∧ (l.length : Int) ≤ 32 → ∃ bd', DP w' base (Ext F w w') x h g gz ⟨σ.S, less σ.L, σ.ca + 1, σ.wr, σ.cn + 1, l, σ.logs, σ.fr, σ.kp, σ.Z⟩ bd' lg zs) := by
  refine (dAdvance_on x g σ.S σ.L σ.ca σ.wr σ.cn _ bd lg l p c w d.dk d.st hb hl hL q.L q.ca q.wr q.cn).mono ?_
  rintro e w' ⟨he, hc, hno, hyes⟩
  refine ⟨hc, he, fun hn => d.count hc _ _ _ (hno hn), fun hy => ?_⟩
  obtain ⟨g', hg', hB, hs⟩ := hyes hy
  obtain ⟨h1, h2, h3, h4, h5, h6⟩ := d.keepRows hc (fun k hk => .inl hk)
  have hz : ZAt w' gz zs := Cel.chg d.za hc (fun e => d.ne e.symm)
  have hin : ∀ k, F k → Ext F w w' k := fun k hk => ⟨.inl hk, by
    by_cases e : k = g
    · subst e; exact Cel.okT hs (by decide) (by decide)
    · by_cases e2 : k = gz
      · subst e2; exact Cel.okT hz (by decide) (by decide)
      · exact h6 k hk e e2⟩
  refine ⟨.slice (some ⟨g', 0, none⟩) l.length l.length, h3, h4, hs, .inr ⟨g', rfl, hB⟩, h1.mono (fun k hk _ => hin k hk), hz, d.zl, fun i c hi => ⟨(h2 i c hi).mono (fun k hk _ => hin k hk), (d.zr i c hi).2⟩, d.a1, d.a2, ⟨hin _ d.f0.1, hin _ d.f0.2.1, hin _ d.f0.2.2.1, hin _ d.f0.2.2.2⟩, fun k hk => ?_, fun k hk => hin k (d.f3 k hk), fun i c k hi hk => hin k (d.f4 i c k hi hk), fun k hk => ⟨?_, hk.2⟩⟩
  · cases hk
    exact ⟨.inr hg', OkB.okT ⟨_, _, hB⟩⟩
  · rcases hk.1 with hk | hk
    · exact (d.ok k hk).1
    · omega

/-- Is the frame taken? -/
def appB (σ : Dk) (z : Int) (n : Nat) : Prop := ∃ i : Nat, z = (i : Int) ∧ i < σ.Z ∧ n = 58 ∧ ((σ.fr i).length : Int) < σ.S

theorem d_append_no (d : DP w base F x h g gz σ bd lg zs) (q : Good σ) (hL : σ.L ≠ 0) (z : Int) (p : Option Addr) (n c : Nat) (hno : ¬ appB σ z n) :
    Calls Tryz.prog 144 #[.pointer (some ⟨x, 0, none⟩), .int .i64 z, .slice p n c] w fun e w' => Chg w w' (fun k => k = g) ∧ e = .returned (.tuple #[.int .i64 0, .bool false]) ∧ DP w' base F x h g gz σ.no bd lg zs := by
  by_cases hin : 0 ≤ z ∧ z < (zs.length : Int)
  · by_cases hn : n = 58
    · obtain ⟨i, rfl⟩ := Int.eq_ofNat_of_zero_le hin.1
      have hil : i < zs.length := by omega
      have hic : zs[i]? = some zs[i] := List.getElem?_eq_getElem hil
      obtain ⟨pf, cap, hf⟩ := (d.zr i _ hic).1.form
      have hi2 : zs[i]? = some (.slice pf (σ.fr i).length cap, zs[i].2) := by rw [hic, ← hf]
      refine (dAppend_no3 x g gz σ.S σ.L σ.ca σ.wr σ.cn i pf (σ.fr i).length cap zs[i].2 bd lg zs p n c w d.dk d.st d.za hL q.L q.ca q.wr hi2 hn (fun hlt => hno ⟨i, rfl, by rw [← d.zl]; exact hil, hn, hlt⟩)).mono ?_
      rintro e w' ⟨he, hc, hs⟩
      exact ⟨hc, he, d.count hc _ _ _ hs⟩
    · refine (dAppend_no2 x g gz σ.S σ.L σ.ca σ.wr σ.cn z bd lg zs p n c w d.dk d.st d.za hL q.L q.ca q.wr hin hn).mono ?_
      rintro e w' ⟨he, hc, hs⟩
      exact ⟨hc, he, d.count hc _ _ _ hs⟩
  · refine (dAppend_no1 x g gz σ.S σ.L σ.ca σ.wr σ.cn z bd lg zs p n c w d.dk d.st d.za hL q.L q.ca q.wr hin).mono ?_
    rintro e w' ⟨he, hc, hs⟩
    exact ⟨hc, he, d.count hc _ _ _ hs⟩

theorem d_append_yes (d : DP w base F x h g gz σ bd lg zs) (q : Good σ) (hL : σ.L ≠ 0) (i : Nat) (l : List Nat) (p : Option Addr) (c : Nat) (hb : ByV w p l) (hi : i < σ.Z) (hl : l.length = 58) (hr : ((σ.fr i).length : Int) < σ.S) (hbase : base ≤ w.heap.size) :
    Calls Tryz.prog 144 #[.pointer (some ⟨x, 0, none⟩), .int .i64 (i : Int), .slice p l.length c] w fun e w' => Chg w w' (fun k => F k ∧ TyD w k) ∧ e = .returned (.tuple #[.int .i64 ((σ.fr i).length : Int), .bool true]) ∧
      ∃ lg' zs', DP w' base (Ext F w w') x h g gz ⟨σ.S, less σ.L, σ.ca + 1, σ.wr, σ.cn, σ.bs, σ.logs ++ [l], fun j => if j = i then σ.fr i ++ [l] else σ.fr j, σ.kp, σ.Z⟩ bd lg' zs' := by
  have hil : i < zs.length := by rw [d.zl]; exact hi
  have hic : zs[i]? = some zs[i] := List.getElem?_eq_getElem hil
  have hrow := (d.zr i _ hic).1
  refine (dAppend_yes base x g gz i F σ.S σ.L σ.ca σ.wr σ.cn bd lg zs zs[i].1 zs[i].2 (σ.fr i) σ.logs l p c w d.dk d.st d.za hL q.L q.ca hic hrow d.log (fun k hk => d.a1 i _ k hic hk) hb hl hr (q.fr i) q.logs hbase).mono ?_
  rintro e w' ⟨he, hc, fv', lg', hs, hz, hrf, hrl, hof, hol, hdd⟩
  have hT : ∀ k, (k = g ∨ k = gz ∨ zs[i].1.ownBlock = some k ∨ lg.ownBlock = some k) → F k ∧ TyD w k := fun k hk => by
    rcases hk with rfl | rfl | hk | hk
    · exact ⟨d.f0.2.2.1, d.tyG⟩
    · exact ⟨d.f0.2.2.2, d.tyZ⟩
    · exact ⟨d.f4 i _ k hic hk, d.tyF i _ hic k hk⟩
    · exact ⟨d.f3 k hk, d.tyL k hk⟩
  have hnb : NoB w (fun k => k = g ∨ k = gz ∨ zs[i].1.ownBlock = some k ∨ lg.ownBlock = some k) := NoB.tyD (fun k hk => (hT k hk).2)
  have hnx : ∀ {k : Nat} {t : TypeId} {cs : Array Value}, Cel w k t cs → t ≠ 106 → t ≠ 111 → t ≠ 66 → ¬ (k = g ∨ k = gz ∨ zs[i].1.ownBlock = some k ∨ lg.ownBlock = some k) := fun hk t1 t2 t3 s => (hT _ s).2.not hk t1 t2 t3
  have hold : ∀ k, F k → ¬ (k = g ∨ k = gz ∨ zs[i].1.ownBlock = some k ∨ lg.ownBlock = some k) → Ext F w w' k := fun k hk hs => ⟨.inl hk, (d.ok k hk).2.chg hc hs⟩
  have hbyt : ∀ k, F k ∨ w.heap.size ≤ k → OkB w' k → Ext F w w' k := fun k hk hB => ⟨hk, hB.okT⟩
  have hrj : ∀ (j : Nat) (cj : Value × Int), j ≠ i → zs[j]? = some cj → ∀ k, cj.1.ownBlock = some k → ¬ (k = g ∨ k = gz ∨ zs[i].1.ownBlock = some k ∨ lg.ownBlock = some k) := fun j cj e hj k hk s => by
    rcases s with s | s | s | s
    · exact row_ne_state (d.zr j cj hj).1 d.st (by decide) k hk s
    · exact row_ne_state (d.zr j cj hj).1 d.za (by decide) k hk s
    · exact d.a2 j i cj _ k e hj hic hk s
    · exact d.a1 j cj k hj hk s
  refine ⟨hc.mono (fun k _ hk => hT k hk), he, lg', zs.set i (fv', zs[i].2), Cel.chg d.dk hc (hnx d.dk (by decide) (by decide) (by decide)), Cel.chg d.hd hc (hnx d.hd (by decide) (by decide) (by decide)), by simpa using hs, d.bs.chg hc hnb, hrl.mono hbyt, hz, by simpa using d.zl, fun j cj hj => ?_, fun j cj k hj hk => ?_, fun j m cj cm k hjm hj hm hk hk2 => ?_,
    ⟨hold _ d.f0.1 (hnx d.dk (by decide) (by decide) (by decide)), hold _ d.f0.2.1 (hnx d.hd (by decide) (by decide) (by decide)), ⟨.inl d.f0.2.2.1, Cel.okT hs (by decide) (by decide)⟩, ⟨.inl d.f0.2.2.2, Cel.okT hz (by decide) (by decide)⟩⟩, fun k hk => ?_, fun k hk => ?_, fun j cj k hj hk => ?_, fun k hk => ⟨?_, hk.2⟩⟩
  · by_cases e : j = i
    · subst e
      rw [List.getElem?_set_self hil] at hj
      cases hj
      refine ⟨?_, (d.zr j _ hic).2⟩
      simp only [if_true]
      exact hrf.mono hbyt
    · rw [List.getElem?_set_ne (fun e' => e e'.symm)] at hj
      refine ⟨?_, (d.zr j cj hj).2⟩
      simp only [e, if_false]
      exact ((d.zr j cj hj).1.chgB hc hnb (hrj j cj e hj)).mono (fun k hk hB => hbyt k (.inl hk) hB)
  · by_cases e : j = i
    · subst e
      rw [List.getElem?_set_self hil] at hj
      cases hj
      exact hdd k hk
    · rw [List.getElem?_set_ne (fun e' => e e'.symm)] at hj
      intro hk2
      rcases hol with ho | ⟨k', ho, hz'⟩
      · rw [ho] at hk2
        exact d.a1 j cj k hj hk hk2
      · rw [ho] at hk2
        cases hk2
        have := ((d.zr j cj hj).1.own _ hk).2.1
        omega
  · by_cases e : j = i
    · subst e
      rw [List.getElem?_set_self hil] at hj
      cases hj
      rw [List.getElem?_set_ne hjm] at hm
      rcases hof with ho | ⟨k', ho, hz'⟩
      · simp only at hk
        rw [ho] at hk
        exact d.a2 j m _ cm k hjm hic hm hk hk2
      · simp only at hk
        rw [ho] at hk
        cases hk
        have := ((d.zr m cm hm).1.own _ hk2).2.1
        omega
    · rw [List.getElem?_set_ne (fun e' => e e'.symm)] at hj
      by_cases e2 : m = i
      · subst e2
        rw [List.getElem?_set_self hil] at hm
        cases hm
        rcases hof with ho | ⟨k', ho, hz'⟩
        · simp only at hk2
          rw [ho] at hk2
          exact d.a2 j m cj _ k hjm hj hic hk hk2
        · simp only at hk2
          rw [ho] at hk2
          cases hk2
          have := ((d.zr j cj hj).1.own _ hk).2.1
          omega
      · rw [List.getElem?_set_ne (fun e' => e2 e'.symm)] at hm
        exact d.a2 j m cj cm k hjm hj hm hk hk2
  · rcases d.bs with ⟨e, _⟩ | ⟨gb, e, hB⟩
    · rw [e] at hk; cases hk
    · have hk' := hk
      rw [e] at hk
      cases hk
      exact hold gb (d.f2 gb hk') (fun s => (hT _ s).2.not hB (by decide) (by decide) (by decide))
  · refine ⟨?_, hrl.okT k hk⟩
    rcases hol with ho | ⟨k', ho, hz'⟩
    · rw [ho] at hk
      exact .inl (d.f3 k hk)
    · rw [ho] at hk
      cases hk
      exact .inr hz'
  · by_cases e : j = i
    · subst e
      rw [List.getElem?_set_self hil] at hj
      cases hj
      refine ⟨?_, hrf.okT k hk⟩
      rcases hof with ho | ⟨k', ho, hz'⟩
      · simp only at hk
        rw [ho] at hk
        exact .inl (d.f4 j _ k hic hk)
      · simp only at hk
        rw [ho] at hk
        cases hk
        exact .inr hz'
    · rw [List.getElem?_set_ne (fun e' => e e'.symm)] at hj
      exact hold k (d.f4 j cj k hj hk) (hrj j cj e hj k hk)
  · rcases hk.1 with hk | hk
    · exact (d.ok k hk).1
    · omega
end
end Go.Proofs.YtloaefcgcniacaaGreatDoor

namespace Go.Proofs.YtloaefcgcniacaaGreatDoor
open Go.RowKit
set_option linter.unusedVariables false

section
variable {w w' : World} {base : Nat} {F F' S : Nat → Prop} {x h g gz : Nat} {σ : Dk} {bd lg : Value} {zs : List (Value × Int)}

/-- Other blocks may be counted in, or out, if the disk's own stay. -/
theorem DP.to (d : DP w base F x h g gz σ bd lg zs) (hin : ∀ k, F k → ¬ TyR w k → F' k) (hok : ∀ k, F' k → base ≤ k ∧ OkT w k) : DP w base F' x h g gz σ bd lg zs where
  dk := d.dk
  hd := d.hd
  st := d.st
  bs := d.bs
  log := d.log.mono (fun k hk ⟨_, _, hb⟩ => hin k hk (fun t => t.not hb (by decide) (by decide)))
  za := d.za
  zl := d.zl
  zr := fun i c hi => ⟨(d.zr i c hi).1.mono (fun k hk ⟨_, _, hb⟩ => hin k hk (fun t => t.not hb (by decide) (by decide))), (d.zr i c hi).2⟩
  a1 := d.a1
  a2 := d.a2
  f0 := ⟨hin _ d.f0.1 (fun t => t.not d.dk (by decide) (by decide)), hin _ d.f0.2.1 (fun t => t.not d.hd (by decide) (by decide)), hin _ d.f0.2.2.1 (fun t => t.not d.st (by decide) (by decide)), hin _ d.f0.2.2.2 (fun t => t.not d.za (by decide) (by decide))⟩
  f2 := fun k hk => hin k (d.f2 k hk) (fun t => by
    rcases d.bs with ⟨e, _⟩ | ⟨gb, e, hB⟩
    · rw [e] at hk; cases hk
    · rw [e] at hk
      cases hk
      exact t.not hB (by decide) (by decide))
  f3 := fun k hk => hin k (d.f3 k hk) (fun t => by
    obtain ⟨_, _, cur, hb⟩ := d.log.own k hk
    exact t.not hb (by decide) (by decide))
  f4 := fun i c k hi hk => hin k (d.f4 i c k hi hk) (fun t => by
    obtain ⟨_, _, cur, hb⟩ := (d.zr i c hi).1.own k hk
    exact t.not hb (by decide) (by decide))
  ok := hok

/-- Behind a change of the document's disk. -/
theorem DP.ext (d : DP w base F x h g gz σ bd lg zs) (hc : Chg w w' S) (hS : ∀ k, S k → F k ∧ TyR w k) (hbase : base ≤ w.heap.size) : DP w' base (Ext F w w') x h g gz σ bd lg zs := by
  have d1 : DP w base (fun k => F k ∧ ¬ TyR w k) x h g gz σ bd lg zs := d.to (fun k h1 h2 => ⟨h1, h2⟩) (fun k hk => d.ok k hk.1)
  have hns : ∀ k, F k ∧ ¬ TyR w k → ¬ S k := fun k hk s => hk.2 (hS k s).2
  have d2 := d1.chg (w' := w') hc (fun k hk s => absurd s (hns k hk)) (fun k hk => (d.ok k hk.1).2.chg hc (hns k hk))
  refine d2.to (fun k hk _ => ⟨.inl hk.1, (d2.ok k hk).2⟩) (fun k hk => ⟨?_, hk.2⟩)
  rcases hk.1 with hk | hk
  · exact (d.ok k hk).1
  · omega

/-- Behind a call of the given disk. -/
theorem RP.to {r : Nat} {Z T C : Int} {B : ByteArray} {L : Int} {cs : List RCall} {ca wr : Int} {dv : Value} (d : RP w base F r Z T C B L cs ca wr dv) (hc : Chg w w' S) (hS : ∀ k, F k → S k → TyD w k) (hin : ∀ k, F k → OkT w' k → F' k) : RP w' base F' r Z T C B L cs ca wr dv := by
  have d1 := d.chg hc hS
  refine ⟨d1.ref, d1.don, hin _ d.f0 (Cel.okT d1.ref (by decide) (by decide)), fun k hk => hin k (d.f1 k hk) ?_⟩
  obtain ⟨_, _, cur, hb⟩ := d1.don.own k hk
  exact ⟨_, _, _, hb, by decide, by decide⟩
end

/-- The document's disk behind a call for which there was power. -/
def Pl.step (q : Pl) (c : RCall) : Pl :=
  if mayC q.cs q.Z q.S q.C q.B c = true then ⟨q.x, q.h, q.r, q.g, q.gz, q.Z, q.S, q.C, q.B, less q.L, q.cs ++ [c], q.ca + 1, q.wr⟩ else ⟨q.x, q.h, q.r, q.g, q.gz, q.Z, q.S, q.C, q.B, less q.L, q.cs, q.ca + 1, q.wr + 1⟩

theorem less_fits {L : Int} (h : fits L) : fits (less L) := by
  unfold fits at *
  unfold less
  split <;> omega

theorem Fine.mono {q : Pl} {n m : Nat} (h : Fine q n) (hm : n ≤ m) : Fine q m :=
  ⟨⟨h.ca.1, by have := h.ca.2; omega⟩, ⟨h.wr.1, by have := h.wr.2; omega⟩, by have := h.cs; omega, h.L, h.C, h.an, h.Z, h.B, h.b⟩

theorem Fine.step {q : Pl} {n : Nat} (h : Fine q n) (c : RCall) (hb : c.b.size ≤ 2000000) : Fine (q.step c) (n + 1) := by
  unfold Pl.step
  have h1 := h.ca
  have h2 := h.wr
  have h3 := h.cs
  split
  · rename_i hm
    refine ⟨⟨by simp only; omega, by simp only; omega⟩, ⟨h2.1, by simp only; omega⟩, by simp; omega, less_fits h.L, h.C, ?_, h.Z, h.B, fun c' hc' => ?_⟩
    · simp only [anchC_add]
      unfold anStep
      split
      · rename_i h7
        unfold mayC at hm
        simp only [h7] at hm
        simp at hm
        omega
      · exact h.an
    · rcases List.mem_append.1 hc' with hc' | hc'
      · exact h.b c' hc'
      · rw [List.mem_singleton.1 hc']; exact hb
  · exact ⟨⟨by simp only; omega, by simp only; omega⟩, ⟨by simp only; omega, by simp only; omega⟩, by simp only; omega, less_fits h.L, h.C, h.an, h.Z, h.B, h.b⟩

theorem Fine.good {q : Pl} {n : Nat} (h : Fine q n) (hn : n < 900000) : Good q.dk := by
  have h1 := h.ca
  have h2 := h.wr
  have h3 := h.cs
  refine ⟨h.L, ⟨h1.1, by show q.ca < _; omega⟩, ⟨h2.1, by show q.wr < _; omega⟩, ⟨?_, h.an⟩, h.anch, ?_, h.log, fun i => ?_, fun i => h.frames i, ?_⟩
  · have := (anchC_le q.C q.B q.cs).1
    have := h.C.1
    show 0 ≤ (anchC q.C q.B q.cs).1
    omega
  · show ((logC q.cs).map sbytes).length < _
    rw [List.length_map]
    have := logC_length q.cs
    omega
  · show ((framesOfC q.cs i).map sbytes).length < _
    rw [List.length_map]
    have := framesOfC_length q.cs i
    omega
  · show q.Z < 1000
    have := h.Z
    omega

theorem Pl.step_x (q : Pl) (c : RCall) : (q.step c).x = q.x ∧ (q.step c).h = q.h ∧ (q.step c).r = q.r ∧ (q.step c).g = q.g ∧ (q.step c).gz = q.gz := by
  unfold Pl.step
  split <;> exact ⟨rfl, rfl, rfl, rfl, rfl⟩

theorem plate_do (q : Pl) (n : Nat) (c : RCall) (base : Nat) (F : Nat → Prop) (dv bd lg : Value) (zs : List (Value × Int)) (w : World) (d : DP w base F q.x q.h q.g q.gz (q.step c).dk bd lg zs) (r : RP w base F q.r q.Z q.S q.C q.B q.L q.cs q.ca q.wr dv) (hq : Fine q n) (hn : n < 900000) (hb : c.b.size ≤ 2000000) (hL : q.L ≠ 0) (hbase : base ≤ w.heap.size) :
    Calls Tryz.prog 95 #[.pointer (some ⟨q.r, 0, none⟩), .agg #[.int .i64 c.k, .int .i64 c.z, .int .i64 c.s, .string c.b]] w fun e w' => e = .returned (.bool (mayC q.cs q.Z q.S q.C q.B c)) ∧ Chg w w' (fun k => F k ∧ TyR w k) ∧ PlateAt w' base (Ext F w w') (q.step c) := by
  have h1 := hq.ca
  have h2 := hq.wr
  have h3 := hq.cs
  refine (rdo_any base q.r q.Z q.S q.C q.B q.L dv q.ca q.wr q.cs c w r.ref r.don (by omega) hq.C.1 hq.C.2 hb hL hq.L ⟨h1.1, by omega⟩ ⟨h2.1, by omega⟩ hbase).mono ?_
  rintro e w' ⟨he, hc, hno, hyes⟩
  have hT : ∀ k, (k = q.r ∨ dv.ownBlock = some k) → F k ∧ TyR w k := fun k hk => by
    rcases hk with rfl | hk
    · exact ⟨r.f0, _, _, _, r.ref, .inl rfl⟩
    · obtain ⟨_, _, cur, hb⟩ := r.don.own k hk
      exact ⟨r.f1 k hk, _, _, _, hb, .inr rfl⟩
  have d' := d.ext hc hT hbase
  obtain ⟨e1, e2, e3, e4, e5⟩ := q.step_x c
  refine ⟨he, hc.mono (fun k _ hk => hT k hk), ?_⟩
  cases hm : mayC q.cs q.Z q.S q.C q.B c with
  | false =>
    obtain ⟨hr, hd⟩ := hno hm
    refine ⟨dv, bd, lg, zs, by rw [e1, e2, e4, e5]; exact d', ?_⟩
    unfold Pl.step
    simp only [hm, Bool.false_eq_true, if_false]
    refine ⟨hr, hd, ⟨.inl r.f0, Cel.okT hr (by decide) (by decide)⟩, fun k hk => ⟨.inl (r.f1 k hk), ?_⟩⟩
    obtain ⟨_, _, cur, hb⟩ := hd.own k hk
    exact ⟨_, _, _, hb, by decide, by decide⟩
  | true =>
    obtain ⟨dv', hr, hd, ho⟩ := hyes hm
    refine ⟨dv', bd, lg, zs, by rw [e1, e2, e4, e5]; exact d', ?_⟩
    unfold Pl.step
    simp only [hm, if_true]
    refine ⟨hr, hd, ⟨.inl r.f0, Cel.okT hr (by decide) (by decide)⟩, fun k hk => ⟨?_, ?_⟩⟩
    · rcases ho with ho | ⟨k', ho, hz⟩
      · rw [ho] at hk
        exact .inl (r.f1 k hk)
      · rw [ho] at hk
        cases hk
        exact .inr hz
    · obtain ⟨_, _, cur, hb⟩ := hd.own k hk
      exact ⟨_, _, _, hb, by decide, by decide⟩
end Go.Proofs.YtloaefcgcniacaaGreatDoor

namespace Go.Proofs.YtloaefcgcniacaaGreatDoor
open Go.RowKit
set_option linter.unusedVariables false

theorem step_no (q : Pl) (c : RCall) (h : mayC q.cs q.Z q.S q.C q.B c = false) : (q.step c).dk = q.dk.no := by
  unfold Pl.step
  rw [if_neg (by simp [h])]
  rfl
theorem step_yes (q : Pl) (c : RCall) (h : mayC q.cs q.Z q.S q.C q.B c = true) : q.step c = ⟨q.x, q.h, q.r, q.g, q.gz, q.Z, q.S, q.C, q.B, less q.L, q.cs ++ [c], q.ca + 1, q.wr⟩ := by
  unfold Pl.step
  rw [if_pos h]

theorem step_tell (q : Pl) (c : RCall) (h : mayC q.cs q.Z q.S q.C q.B c = true) (hk : c.k = 2 ∨ c.k = 3 ∨ c.k = 6) : (q.step c).dk = q.dk.yes := by
  rw [step_yes q c h]
  unfold Pl.dk Dk.yes
  simp only [anchC_add, logC_add, framesOfC_add, keptC_add, anStep, lgStep, frStep, kpStep]
  rcases hk with hk | hk | hk <;> simp [hk]

theorem step_reset (q : Pl) (i : Nat) (s : Int) (b : ByteArray) (h : mayC q.cs q.Z q.S q.C q.B ⟨4, i, s, b⟩ = true) :
    (q.step ⟨4, i, s, b⟩).dk = ⟨q.dk.S, less q.dk.L, q.dk.ca + 1, q.dk.wr, q.dk.cn, q.dk.bs, q.dk.logs, fun j => if j = i then [] else q.dk.fr j, fun j => if j = i then 0 else q.dk.kp j, q.dk.Z⟩ := by
  rw [step_yes q _ h]
  unfold Pl.dk
  simp only [anchC_add, logC_add, framesOfC_add, keptC_add, anStep, lgStep, frStep, kpStep]
  rw [Dk.mk.injEq]
  refine ⟨rfl, rfl, rfl, rfl, rfl, rfl, rfl, funext fun j => ?_, funext fun j => ?_, rfl⟩
  · by_cases e : j = i
    · subst e; simp
    · have : ¬ (i : Int) = (j : Int) := fun h => e (by omega)
      simp [e, this]
  · by_cases e : j = i
    · subst e; simp
    · have : ¬ (i : Int) = (j : Int) := fun h => e (by omega)
      simp [e, this]

theorem step_flush (q : Pl) (z s : Int) (b : ByteArray) :
    (q.step ⟨5, z, s, b⟩).dk = ⟨q.dk.S, less q.dk.L, q.dk.ca + 1, q.dk.wr, q.dk.cn, q.dk.bs, q.dk.logs, q.dk.fr, fun j => ((q.dk.fr j).length : Nat), q.dk.Z⟩ := by
  rw [step_yes q _ (by simp [mayC])]
  unfold Pl.dk
  simp only [anchC_add, logC_add, framesOfC_add, keptC_add, anStep, lgStep, frStep, kpStep]
  rw [Dk.mk.injEq]
  refine ⟨rfl, rfl, rfl, rfl, rfl, rfl, rfl, funext fun j => ?_, funext fun j => ?_, rfl⟩
  · simp
  · simp [kept_len]

theorem step_advance (q : Pl) (z s : Int) (b : ByteArray) (h : mayC q.cs q.Z q.S q.C q.B ⟨7, z, s, b⟩ = true) :
    (q.step ⟨7, z, s, b⟩).dk = ⟨q.dk.S, less q.dk.L, q.dk.ca + 1, q.dk.wr, q.dk.cn + 1, sbytes b, q.dk.logs, q.dk.fr, q.dk.kp, q.dk.Z⟩ := by
  rw [step_yes q _ h]
  unfold Pl.dk
  simp only [anchC_add, logC_add, framesOfC_add, keptC_add, anStep, lgStep, frStep, kpStep]
  simp

theorem step_append (q : Pl) (i : Nat) (s : Int) (b : ByteArray) (h : mayC q.cs q.Z q.S q.C q.B ⟨1, i, s, b⟩ = true) :
    (q.step ⟨1, i, s, b⟩).dk = ⟨q.dk.S, less q.dk.L, q.dk.ca + 1, q.dk.wr, q.dk.cn, q.dk.bs, q.dk.logs ++ [sbytes b], fun j => if j = i then q.dk.fr i ++ [sbytes b] else q.dk.fr j, q.dk.kp, q.dk.Z⟩ := by
  rw [step_yes q _ h]
  unfold Pl.dk
  simp only [anchC_add, logC_add, framesOfC_add, keptC_add, anStep, lgStep, frStep, kpStep]
  rw [Dk.mk.injEq]
  refine ⟨rfl, rfl, rfl, rfl, by simp, by simp, by simp, funext fun j => ?_, funext fun j => ?_, rfl⟩
  · by_cases e : j = i
    · subst e; simp
    · have : ¬ (i : Int) = (j : Int) := fun h => e (by omega)
      simp [e, this]
  · by_cases e : j = i
    · subst e; simp
    · have : ¬ (i : Int) = (j : Int) := fun h => e (by omega)
      simp [this]

theorem may_append (q : Pl) (z s : Int) (b : ByteArray) : mayC q.cs q.Z q.S q.C q.B ⟨1, z, s, b⟩ = true ↔ appB q.dk z b.size := by
  unfold mayC appB
  have hf : ∀ i : Nat, (q.dk.fr i).length = (framesOfC q.cs i).length := fun i => by show ((framesOfC q.cs i).map sbytes).length = _; rw [List.length_map]
  have hz : q.dk.Z = q.Z := rfl
  have hS : q.dk.S = q.S := rfl
  by_cases hzz : z < 0 ∨ (q.Z : Int) ≤ z
  · simp [hzz]
    intro i hi hlt
    omega
  · simp [hzz]
    obtain ⟨i, hi⟩ := Int.eq_ofNat_of_zero_le (a := z) (by omega)
    subst hi
    constructor
    · rintro ⟨h1, h2⟩
      exact ⟨i, rfl, by omega, by omega, by rw [hf, hS]; exact h2⟩
    · rintro ⟨j, h1, h2, h3, h4⟩
      have : j = i := by omega
      subst this
      rw [hf, hS] at h4
      exact ⟨by omega, h4⟩
theorem may_read (q : Pl) (z s : Int) (b : ByteArray) : mayC q.cs q.Z q.S q.C q.B ⟨2, z, s, b⟩ = true ↔ ∃ (i j : Nat) (l : List Nat), z = (i : Int) ∧ s = (j : Int) ∧ i < q.dk.Z ∧ (q.dk.fr i)[j]? = some l := by
  unfold mayC
  have hz : q.dk.Z = q.Z := rfl
  have hf : ∀ i : Nat, (q.dk.fr i).length = (framesOfC q.cs i).length := fun i => by show ((framesOfC q.cs i).map sbytes).length = _; rw [List.length_map]
  by_cases hzz : z < 0 ∨ (q.Z : Int) ≤ z
  · simp [hzz]
    intro i hi j hj hlt
    omega
  · simp [hzz]
    obtain ⟨i, hi⟩ := Int.eq_ofNat_of_zero_le (a := z) (by omega)
    subst hi
    constructor
    · rintro ⟨h1, h2⟩
      obtain ⟨j, hj⟩ := Int.eq_ofNat_of_zero_le h1
      subst hj
      have hlt : j < (q.dk.fr i).length := by rw [hf]; omega
      exact ⟨i, rfl, j, rfl, by omega, _, List.getElem?_eq_getElem hlt⟩
    · rintro ⟨i2, h1, j, h2, h3, l, h4⟩
      have : i2 = i := by omega
      subst this
      have := (List.getElem?_eq_some_iff.1 h4).1
      rw [hf] at this
      omega
theorem may_zone (q : Pl) (k z s : Int) (b : ByteArray) (hk : k = 3 ∨ k = 4) : mayC q.cs q.Z q.S q.C q.B ⟨k, z, s, b⟩ = decide (0 ≤ z ∧ z < (q.dk.Z : Int)) := by
  unfold mayC
  have hz : q.dk.Z = q.Z := rfl
  by_cases hzz : z < 0 ∨ (q.Z : Int) ≤ z
  · have : ¬ (0 ≤ z ∧ z < (q.dk.Z : Int)) := by omega
    rcases hk with rfl | rfl <;> simp [hzz, this]
  · have : (0 ≤ z ∧ z < (q.dk.Z : Int)) := by omega
    rcases hk with rfl | rfl <;> simp [hzz, this]
theorem may_adv (q : Pl) (z s : Int) (b : ByteArray) : mayC q.cs q.Z q.S q.C q.B ⟨7, z, s, b⟩ = decide (q.dk.cn < 4294967295 ∧ (b.size : Int) ≤ 32) := by
  unfold mayC
  simp only [Pl.dk]
  rfl
end Go.Proofs.YtloaefcgcniacaaGreatDoor

namespace Go.Proofs.YtloaefcgcniacaaGreatDoor
open Go.RowKit
set_option linter.unusedVariables false

/-- The document's disk behind a call, and whether it was done. -/
def Pl.act (q : Pl) (c : RCall) : Pl := if q.L = 0 then q else q.step c
def Pl.done (q : Pl) (c : RCall) : Bool := decide (q.L ≠ 0) && mayC q.cs q.Z q.S q.C q.B c

theorem act_off {q : Pl} {c : RCall} (h : q.L = 0) : q.act c = q ∧ q.done c = false := by simp [Pl.act, Pl.done, h]
theorem act_on {q : Pl} {c : RCall} (h : q.L ≠ 0) : q.act c = q.step c ∧ q.done c = mayC q.cs q.Z q.S q.C q.B c := by simp [Pl.act, Pl.done, h]
theorem act_ids (q : Pl) (c : RCall) : (q.act c).x = q.x ∧ (q.act c).h = q.h ∧ (q.act c).r = q.r ∧ (q.act c).g = q.g ∧ (q.act c).gz = q.gz := by
  unfold Pl.act
  split
  · exact ⟨rfl, rfl, rfl, rfl, rfl⟩
  · exact q.step_x c
theorem Fine.act {q : Pl} {n : Nat} (h : Fine q n) (c : RCall) (hb : c.b.size ≤ 2000000) : Fine (q.act c) (n + 1) := by
  unfold Pl.act
  split
  · exact h.mono (by omega)
  · exact h.step c hb

/-- Behind the given disk's part of a call. -/
structure Post (w w1 : World) (base : Nat) (F F1 : Nat → Prop) (q : Pl) (c : RCall) (bd lg : Value) (zs : List (Value × Int)) : Prop where
  chg : Chg w w1 (fun k => F k ∧ TyD w k)
  sub : ∀ k, F1 k → F k ∨ w.heap.size ≤ k
  sup : ∀ k, F k → OkT w1 k → F1 k
  dp : DP w1 base F1 q.x q.h q.g q.gz (q.act c).dk bd lg zs

theorem DP.down {w w' : World} {base : Nat} {F : Nat → Prop} {x h g gz : Nat} {σ : Dk} {bd lg : Value} {zs : List (Value × Int)} (d : DP w base F x h g gz σ bd lg zs) (hb : Below w.heap.size w w') : DP w' base F x h g gz σ bd lg zs :=
  d.chg (Chg.of_below hb (fun _ => False)) (fun _ _ h => h.elim) (fun k hk => (d.ok k hk).2.chg (Chg.of_below hb (fun _ => False)) (fun h => h))
theorem RP.down {w w' : World} {base : Nat} {F : Nat → Prop} {r : Nat} {Z T C : Int} {B : ByteArray} {L : Int} {cs : List RCall} {ca wr : Int} {dv : Value} (d : RP w base F r Z T C B L cs ca wr dv) (hb : Below w.heap.size w w') : RP w' base F r Z T C B L cs ca wr dv :=
  d.chg (Chg.of_below hb (fun _ => False)) (fun _ _ h => h.elim)

section
variable {w : World} {base : Nat} {F : Nat → Prop} {q : Pl} {bd lg : Value} {zs : List (Value × Int)}

theorem post_off (d : DP w base F q.x q.h q.g q.gz q.dk bd lg zs) {w1 : World} (c : RCall) (hL : q.L = 0) (hb : Below w.heap.size w w1) : Post w w1 base F F q c bd lg zs :=
  ⟨Chg.of_below hb _, fun k hk => .inl hk, fun k hk _ => hk, by rw [(act_off hL).1]; exact d.down hb⟩
theorem st_off (d : DP w base F q.x q.h q.g q.gz q.dk bd lg zs) (hL : q.L = 0) : StAt w q.g q.S 0 q.ca q.wr (.slice (some ⟨q.gz, 0, none⟩) zs.length zs.length) q.dk.cn bd lg := by
  have h := d.st
  rw [show q.dk.L = 0 from hL] at h
  exact h
theorem post_g (d : DP w base F q.x q.h q.g q.gz q.dk bd lg zs) {w1 : World} (c : RCall) (hL : q.L ≠ 0) {S : Nat → Prop} (hS : ∀ k, S k → k = q.g ∨ k = q.gz) (hc : Chg w w1 S) {bd' lg' : Value} {zs' : List (Value × Int)} (h : DP w1 base F q.x q.h q.g q.gz (q.step c).dk bd' lg' zs') : Post w w1 base F F q c bd' lg' zs' :=
  ⟨hc.mono (fun k _ hk => by
    rcases hS k hk with rfl | rfl
    · exact ⟨d.f0.2.2.1, d.tyG⟩
    · exact ⟨d.f0.2.2.2, d.tyZ⟩), fun k hk => .inl hk, fun k hk _ => hk, by rw [(act_on hL).1]; exact h⟩

theorem act_size (d : DP w base F q.x q.h q.g q.gz q.dk bd lg zs) (hq : Good q.dk) (z : Int) (c : RCall) (hc : c = ⟨3, z, 0, ByteArray.empty⟩) :
    Calls Tryz.prog 148 #[.pointer (some ⟨q.x, 0, none⟩), .int .i64 z] w fun e w1 => e = .returned (.tuple #[.int .i64 (if q.done c then ((framesOfC q.cs z).length : Int) else 0), .bool (q.done c)]) ∧ Post w w1 base F F q c bd lg zs := by
  by_cases hL : q.L = 0
  · refine (dSize_off q.x q.g _ _ _ _ z _ bd lg w d.dk (st_off d hL)).mono ?_
    rintro e w1 ⟨he, hb⟩
    exact ⟨by rw [(act_off hL).2]; exact he, post_off d c hL hb⟩
  · refine (d_size d hq hL z).mono ?_
    have hm : mayC q.cs q.Z q.S q.C q.B c = decide (0 ≤ z ∧ z < (q.dk.Z : Int)) := by rw [hc]; exact may_zone q 3 z 0 _ (.inl rfl)
    rintro e w1 ⟨hc1, ⟨h1, h2, h3⟩ | ⟨i, h1, h2, h3, h4⟩⟩
    · have hf : mayC q.cs q.Z q.S q.C q.B c = false := by rw [hm]; exact decide_eq_false h1
      exact ⟨by rw [(act_on hL).2, hf]; exact h2, post_g d c hL (fun k hk => .inl hk) hc1 (by rw [step_no q c hf]; exact h3)⟩
    · have hf : mayC q.cs q.Z q.S q.C q.B c = true := by rw [hm]; exact decide_eq_true ⟨by omega, by omega⟩
      refine ⟨?_, post_g d c hL (fun k hk => .inl hk) hc1 (by rw [step_tell q c hf (by rw [hc]; exact .inr (.inl rfl))]; exact h4)⟩
      rw [(act_on hL).2, hf, h3, h1]
      have : (q.dk.fr i).length = (framesOfC q.cs i).length := List.length_map _
      rw [this]
      rfl

theorem act_reset (d : DP w base F q.x q.h q.g q.gz q.dk bd lg zs) (hq : Good q.dk) (z : Int) (c : RCall) (hc : c = ⟨4, z, 0, ByteArray.empty⟩) :
    Calls Tryz.prog 94 #[.pointer (some ⟨q.x, 0, none⟩), .int .i64 z] w fun e w1 => e = .returned (.bool (q.done c)) ∧ ∃ zs', Post w w1 base F F q c bd lg zs' := by
  by_cases hL : q.L = 0
  · refine (dReset_off q.x q.g _ _ _ _ z _ bd lg w d.dk (st_off d hL)).mono ?_
    rintro e w1 ⟨he, hb⟩
    exact ⟨by rw [(act_off hL).2]; exact he, zs, post_off d c hL hb⟩
  · refine (d_reset d hq hL z).mono ?_
    have hm : mayC q.cs q.Z q.S q.C q.B c = decide (0 ≤ z ∧ z < (q.dk.Z : Int)) := by rw [hc]; exact may_zone q 4 z 0 _ (.inr rfl)
    rintro e w1 ⟨hc1, ⟨h1, h2, h3⟩ | ⟨i, h1, h2, h3, zs', h4⟩⟩
    · have hf : mayC q.cs q.Z q.S q.C q.B c = false := by rw [hm]; exact decide_eq_false h1
      exact ⟨by rw [(act_on hL).2, hf]; exact h2, zs, post_g d c hL (fun k hk => hk) hc1 (by rw [step_no q c hf]; exact h3)⟩
    · have hf : mayC q.cs q.Z q.S q.C q.B c = true := by rw [hm]; exact decide_eq_true ⟨by omega, by omega⟩
      refine ⟨by rw [(act_on hL).2, hf]; exact h3, zs', post_g d c hL (fun k hk => hk) hc1 ?_⟩
      subst hc h1
      rw [step_reset q i 0 _ hf]
      exact h4

theorem act_flush (d : DP w base F q.x q.h q.g q.gz q.dk bd lg zs) (hq : Good q.dk) (c : RCall) (hc : c = ⟨5, 0, 0, ByteArray.empty⟩) :
    Calls Tryz.prog 96 #[.pointer (some ⟨q.x, 0, none⟩)] w fun e w1 => e = .returned (.bool (q.done c)) ∧ ∃ zs', Post w w1 base F F q c bd lg zs' := by
  by_cases hL : q.L = 0
  · refine (dFlush_off q.x q.g _ _ _ _ _ bd lg w d.dk (st_off d hL)).mono ?_
    rintro e w1 ⟨he, hb⟩
    exact ⟨by rw [(act_off hL).2]; exact he, zs, post_off d c hL hb⟩
  · refine (d_flush d hq hL).mono ?_
    have hf : mayC q.cs q.Z q.S q.C q.B c = true := by rw [hc]; simp [mayC]
    rintro e w1 ⟨hc1, he, zs', h4⟩
    refine ⟨by rw [(act_on hL).2, hf]; exact he, zs', post_g d c hL (fun k hk => hk) hc1 ?_⟩
    subst hc
    rw [step_flush q 0 0 _]
    exact h4

theorem act_anchored (d : DP w base F q.x q.h q.g q.gz q.dk bd lg zs) (hq : Good q.dk) (c : RCall) (hc : c = ⟨6, 0, 0, ByteArray.empty⟩) :
    Calls Tryz.prog 125 #[.pointer (some ⟨q.x, 0, none⟩)] w fun e w1 => ((q.done c = false ∧ e = .returned (.tuple #[.int .i64 0, .slice none 0 0, .bool false])) ∨ (q.done c = true ∧ ∃ g', e = .returned (.tuple #[.int .i64 (anchC q.C q.B q.cs).1, .slice (some ⟨g', 0, none⟩) (sbytes (anchC q.C q.B q.cs).2).length (sbytes (anchC q.C q.B q.cs).2).length, .bool true]) ∧ Blk w1 g' (sbytes (anchC q.C q.B q.cs).2) ∧ w.heap.size ≤ g')) ∧ Post w w1 base F F q c bd lg zs := by
  by_cases hL : q.L = 0
  · refine (dAnchored_off q.x q.g _ _ _ _ _ bd lg w d.dk (st_off d hL)).mono ?_
    rintro e w1 ⟨he, hb⟩
    exact ⟨.inl ⟨(act_off hL).2, he⟩, post_off d c hL hb⟩
  · refine (d_anchored d hq hL).mono ?_
    have hf : mayC q.cs q.Z q.S q.C q.B c = true := by rw [hc]; simp [mayC]
    rintro e w1 ⟨hc1, g', he, hB, hg, h4⟩
    exact ⟨.inr ⟨by rw [(act_on hL).2, hf], g', he, hB, hg⟩, post_g d c hL (fun k hk => .inl hk) hc1 (by rw [step_tell q c hf (by rw [hc]; exact .inr (.inr rfl))]; exact h4)⟩

theorem act_read (d : DP w base F q.x q.h q.g q.gz q.dk bd lg zs) (hq : Good q.dk) (z s : Int) (c : RCall) (hc : c = ⟨2, z, s, ByteArray.empty⟩) :
    Calls Tryz.prog 147 #[.pointer (some ⟨q.x, 0, none⟩), .int .i64 z, .int .i64 s] w fun e w1 => ((q.done c = false ∧ e = .returned (.tuple #[.slice none 0 0, .bool false])) ∨ (q.done c = true ∧ ∃ (j : Nat) (t : ByteArray) (g' : Nat), s = (j : Int) ∧ (framesOfC q.cs z)[j]? = some t ∧ e = .returned (.tuple #[.slice (some ⟨g', 0, none⟩) (sbytes t).length (sbytes t).length, .bool true]) ∧ Blk w1 g' (sbytes t) ∧ w.heap.size ≤ g')) ∧ Post w w1 base F F q c bd lg zs := by
  by_cases hL : q.L = 0
  · refine (dRead_off q.x q.g _ _ _ _ z s _ bd lg w d.dk (st_off d hL)).mono ?_
    rintro e w1 ⟨he, hb⟩
    exact ⟨.inl ⟨(act_off hL).2, he⟩, post_off d c hL hb⟩
  · refine (d_read d hq hL z s).mono ?_
    have hm := may_read q z s ByteArray.empty
    rw [← hc] at hm
    rintro e w1 ⟨hc1, ⟨h1, h2, h3⟩ | ⟨i, j, l, h1, h2, h3, h4, g', h5, h6, h7, h8⟩⟩
    · have hf : mayC q.cs q.Z q.S q.C q.B c = false := by
        cases hh : mayC q.cs q.Z q.S q.C q.B c with
        | false => rfl
        | true => exact absurd (hm.1 hh) h1
      exact ⟨.inl ⟨by rw [(act_on hL).2, hf], h2⟩, post_g d c hL (fun k hk => .inl hk) hc1 (by rw [step_no q c hf]; exact h3)⟩
    · have hf : mayC q.cs q.Z q.S q.C q.B c = true := hm.2 ⟨i, j, l, h1, h2, h3, h4⟩
      have h4' : ((framesOfC q.cs z).map sbytes)[j]? = some l := by rw [h1]; exact h4
      rw [List.getElem?_map] at h4'
      obtain ⟨t, ht, hl⟩ := Option.map_eq_some_iff.1 h4'
      subst hl
      exact ⟨.inr ⟨by rw [(act_on hL).2, hf], j, t, g', h2, ht, h5, h7, h6⟩, post_g d c hL (fun k hk => .inl hk) hc1 (by rw [step_tell q c hf (by rw [hc]; exact .inl rfl)]; exact h8)⟩

theorem act_advance (d : DP w base F q.x q.h q.g q.gz q.dk bd lg zs) (hq : Good q.dk) (t : ByteArray) (p : Option Addr) (cap : Nat) (hb : ByV w p (sbytes t)) (ht : t.size ≤ 2000000) (hbase : base ≤ w.heap.size) (c : RCall) (hc : c = ⟨7, 0, 0, t⟩) :
    Calls Tryz.prog 146 #[.pointer (some ⟨q.x, 0, none⟩), .slice p t.size cap] w fun e w1 => e = .returned (.bool (q.done c)) ∧ ∃ F1 bd', Post w w1 base F F1 q c bd' lg zs := by
  by_cases hL : q.L = 0
  · refine (dAdvance_off q.x q.g _ _ _ _ _ bd lg p _ cap w d.dk (st_off d hL)).mono ?_
    rintro e w1 ⟨he, hb⟩
    exact ⟨by rw [(act_off hL).2]; exact he, F, bd, post_off d c hL hb⟩
  · have hl := sbytes_length t
    have hA := d_advance d hq hL (sbytes t) p cap hb (by rw [hl]; exact ht) hbase
    rw [hl] at hA
    refine hA.mono ?_
    have hm := may_adv q 0 0 t
    rw [← hc] at hm
    rintro e w1 ⟨hc1, he, hno, hyes⟩
    by_cases hy : q.dk.cn < 4294967295 ∧ (t.size : Int) ≤ 32
    · have hf : mayC q.cs q.Z q.S q.C q.B c = true := by rw [hm]; exact decide_eq_true hy
      obtain ⟨bd', h4⟩ := hyes hy
      refine ⟨by rw [(act_on hL).2, hm]; exact he, Ext F w w1, bd', hc1.mono (fun k _ hk => by subst hk; exact ⟨d.f0.2.2.1, d.tyG⟩), fun k hk => hk.1, fun k hk ho => ⟨.inl hk, ho⟩, ?_⟩
      rw [(act_on hL).1]
      subst hc
      rw [step_advance q 0 0 t hf]
      exact h4
    · have hf : mayC q.cs q.Z q.S q.C q.B c = false := by rw [hm]; exact decide_eq_false hy
      exact ⟨by rw [(act_on hL).2, hm]; exact he, F, bd, post_g d c hL (fun k hk => .inl hk) hc1 (by rw [step_no q c hf]; exact hno hy)⟩

theorem act_append (d : DP w base F q.x q.h q.g q.gz q.dk bd lg zs) (hq : Good q.dk) (z : Int) (t : ByteArray) (p : Option Addr) (cap : Nat) (hb : ByV w p (sbytes t)) (ht : t.size ≤ 2000000) (hbase : base ≤ w.heap.size) (c : RCall) (hc : c = ⟨1, z, 0, t⟩) :
    Calls Tryz.prog 144 #[.pointer (some ⟨q.x, 0, none⟩), .int .i64 z, .slice p t.size cap] w fun e w1 => e = .returned (.tuple #[.int .i64 (if q.done c then ((framesOfC q.cs z).length : Int) else 0), .bool (q.done c)]) ∧ ∃ F1 lg' zs', Post w w1 base F F1 q c bd lg' zs' := by
  by_cases hL : q.L = 0
  · refine (dAppend_off q.x q.g _ _ _ _ z _ bd lg p _ cap w d.dk (st_off d hL)).mono ?_
    rintro e w1 ⟨he, hb⟩
    exact ⟨by rw [(act_off hL).2]; exact he, F, lg, zs, post_off d c hL hb⟩
  · have hl := sbytes_length t
    have hm := may_append q z 0 t
    rw [← hc] at hm
    by_cases hy : appB q.dk z t.size
    · have hf : mayC q.cs q.Z q.S q.C q.B c = true := hm.2 hy
      obtain ⟨i, hz, hi, h58, hr⟩ := hy
      have hA := d_append_yes d hq hL i (sbytes t) p cap hb hi (by rw [hl]; exact h58) hr hbase
      rw [hl] at hA
      rw [hz]
      refine hA.mono ?_
      rintro e w1 ⟨hc1, he, lg', zs', h4⟩
      refine ⟨?_, Ext F w w1, lg', zs', hc1, fun k hk => hk.1, fun k hk ho => ⟨.inl hk, ho⟩, ?_⟩
      · rw [(act_on hL).2, hf, he]
        have : (q.dk.fr i).length = (framesOfC q.cs i).length := List.length_map _
        rw [this]
        rfl
      · rw [(act_on hL).1]
        subst hc hz
        rw [step_append q i 0 t hf]
        exact h4
    · have hf : mayC q.cs q.Z q.S q.C q.B c = false := by
        cases hh : mayC q.cs q.Z q.S q.C q.B c with
        | false => rfl
        | true => exact absurd (hm.1 hh) hy
      refine (d_append_no d hq hL z p t.size cap hy).mono ?_
      rintro e w1 ⟨hc1, he, h3⟩
      exact ⟨by rw [(act_on hL).2, hf]; exact he, F, lg, zs, post_g d c hL (fun k hk => .inl hk) hc1 (by rw [step_no q c hf]; exact h3)⟩

theorem Ext.of {F : Nat → Prop} {w w' : World} {k : Nat} (hk : F k) (h : OkT w' k) : Ext F w w' k := ⟨.inl hk, h⟩

/-- Behind the document's part of the call. -/
theorem act_do {w0 : World} {F0 : Nat → Prop} {dv bd' lg' : Value} {zs' : List (Value × Int)} {n : Nat} (c : RCall) (hP : Post w0 w base F0 F q c bd' lg' zs') (r : RP w0 base F0 q.r q.Z q.S q.C q.B q.L q.cs q.ca q.wr dv) (hq : Fine q n) (hn : n < 900000) (hb : c.b.size ≤ 2000000) (hbase : base ≤ w.heap.size) :
    Calls Tryz.prog 95 #[.pointer (some ⟨q.r, 0, none⟩), .agg #[.int .i64 c.k, .int .i64 c.z, .int .i64 c.s, .string c.b]] w fun e w' => e = .returned (.bool (q.done c)) ∧ Chg w w' (fun k => F k ∧ TyR w k) ∧ PlateAt w' base (Ext F w w') (q.act c) := by
  have r1 : RP w base F q.r q.Z q.S q.C q.B q.L q.cs q.ca q.wr dv := r.to hP.chg (fun k _ hk => hk.2) hP.sup
  by_cases hL : q.L = 0
  · have h1 := r1.ref
    rw [hL] at h1
    refine (rdo_off q.r q.Z q.S q.C q.B dv q.ca q.wr c w h1).mono ?_
    rintro e w' ⟨he, hb'⟩
    have hd := hP.dp
    rw [(act_off hL).1] at hd
    have d2 := hd.down hb'
    have r2 := r1.down hb'
    refine ⟨by rw [(act_off hL).2]; exact he, Chg.of_below hb' _, ?_⟩
    rw [(act_off hL).1]
    refine ⟨dv, bd', lg', zs', d2.to (fun k hk _ => Ext.of hk (d2.ok k hk).2) (fun k hk => ⟨?_, hk.2⟩), r2.ref, r2.don, Ext.of r2.f0 (d2.ok _ r2.f0).2, fun k hk => Ext.of (r2.f1 k hk) (d2.ok _ (r2.f1 k hk)).2⟩
    rcases hk.1 with hk | hk
    · exact (d2.ok k hk).1
    · omega
  · have hd := hP.dp
    rw [(act_on hL).1] at hd
    rw [(act_on hL).1, (act_on hL).2]
    exact plate_do q n c base F dv bd' lg' zs' w hd r1 hq hn hb hL hbase
end
end Go.Proofs.YtloaefcgcniacaaGreatDoor
