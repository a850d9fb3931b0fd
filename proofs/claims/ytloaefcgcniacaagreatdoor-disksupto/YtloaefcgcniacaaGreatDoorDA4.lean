import Derived.Test.YtloaefcgcniacaaGreatDoorDA3
namespace Go.Proofs.YtloaefcgcniacaaGreatDoor
open Go.RowKit
set_option linter.unusedVariables false

/-- A block of bytes. -/
def OkB (w : World) (k : Nat) : Prop := ∃ cur fz, w.heap[k]? = some (Obj.cells cur 5 fz)

/-- A row of lists of bytes that all lie in blocks of F. -/
def RowG (w : World) (base : Nat) (F : Nat → Prop) (v : Value) (ls : List (List Nat)) : Prop := ∃ xs : List Value, w.ownsRow base 66 1 v ls.length xs ∧ ∀ (i : Nat) (l : List Nat), ls[i]? = some l → ∃ g, xs[i]? = some (Value.slice (some ⟨g, 0, none⟩) l.length l.length) ∧ F g ∧ Blk w g l
theorem RowG.rowB {w : World} {base : Nat} {F : Nat → Prop} {v : Value} {ls : List (List Nat)} (h : RowG w base F v ls) (hF : ∀ k, F k → base ≤ k) : RowB w base v ls := by
  obtain ⟨xs, h1, h2⟩ := h
  refine ⟨xs, h1, fun i l hi => ?_⟩
  obtain ⟨g, a, b, c⟩ := h2 i l hi
  exact ⟨g, a, hF g b, c⟩
theorem RowG.mono {w : World} {base : Nat} {F F' : Nat → Prop} {v : Value} {ls : List (List Nat)} (h : RowG w base F v ls) (hF : ∀ k, F k → OkB w k → F' k) : RowG w base F' v ls := by
  obtain ⟨xs, h1, h2⟩ := h
  refine ⟨xs, h1, fun i l hi => ?_⟩
  obtain ⟨g, a, b, c⟩ := h2 i l hi
  exact ⟨g, a, hF g b ⟨_, _, c⟩, c⟩
theorem RowG.chg {w w' : World} {S F : Nat → Prop} {base : Nat} {v : Value} {ls : List (List Nat)} (h : RowG w base F v ls) (hc : Chg w w' S) (hv : ∀ k, v.ownBlock = some k → ¬ S k) (hF : ∀ k, F k → ¬ S k) : RowG w' base F v ls := by
  obtain ⟨xs, h1, h2⟩ := h
  refine ⟨xs, ownsRow_chg h1 hc hv, fun i l hi => ?_⟩
  obtain ⟨g, a, b, c⟩ := h2 i l hi
  exact ⟨g, a, b, (hc.block g c.lt (hF g b)).trans c⟩
theorem RowG.chgB {w w' : World} {S F : Nat → Prop} {base : Nat} {v : Value} {ls : List (List Nat)} (h : RowG w base F v ls) (hc : Chg w w' S) (hS : NoB w S) (hv : ∀ k, v.ownBlock = some k → ¬ S k) : RowG w' base F v ls := by
  obtain ⟨xs, h1, h2⟩ := h
  refine ⟨xs, ownsRow_chg h1 hc hv, fun i l hi => ?_⟩
  obtain ⟨g, a, b, c⟩ := h2 i l hi
  exact ⟨g, a, b, c.chg hc hS⟩
theorem RowG.form {w : World} {base : Nat} {F : Nat → Prop} {v : Value} {ls : List (List Nat)} (h : RowG w base F v ls) : ∃ p cap, v = .slice p ls.length cap := by
  obtain ⟨xs, h1, _⟩ := h
  rcases h1.2 with ⟨hv, h0⟩ | ⟨g, cap, cur, hv, _⟩
  · exact ⟨none, 0, by rw [hv, h0]⟩
  · exact ⟨_, cap, hv⟩
theorem RowG.snoc {w : World} {base g gb cap n : Nat} {F : Nat → Prop} {ls : List (List Nat)} {l : List Nat} {xs : List Value} (h : w.ownsRow base 66 1 (.slice (some ⟨g, 0, none⟩) n cap) n (xs ++ [.slice (some ⟨gb, 0, none⟩) l.length l.length])) (hx : xs.length = ls.length)
    (hr : ∀ (i : Nat) (l : List Nat), ls[i]? = some l → ∃ g, xs[i]? = some (Value.slice (some ⟨g, 0, none⟩) l.length l.length) ∧ F g ∧ Blk w g l) (hgb : F gb) (hB : Blk w gb l) : RowG w base F (.slice (some ⟨g, 0, none⟩) n cap) (ls ++ [l]) := by
  have hl : (ls ++ [l]).length = n := by have := h.1; simp at this; simp; omega
  refine ⟨xs ++ [.slice (some ⟨gb, 0, none⟩) l.length l.length], by rw [hl]; exact h, fun i l' hi => ?_⟩
  by_cases hlt : i < ls.length
  · rw [List.getElem?_append_left hlt] at hi
    obtain ⟨g', h1, h2, h3⟩ := hr i l' hi
    exact ⟨g', by rw [List.getElem?_append_left (by omega)]; exact h1, h2, h3⟩
  · have : i = ls.length := by
      have := (List.getElem?_eq_some_iff.1 hi).1
      simp at this
      omega
    subst this
    simp at hi
    subst hi
    exact ⟨gb, by rw [← hx]; simp, hgb, hB⟩
theorem RowG.nil (w : World) (base : Nat) (F : Nat → Prop) : RowG w base F (.slice none 0 0) [] := ⟨[], World.ownsRow_nil _ _ _ _, fun i l hi => by simp at hi⟩
theorem RowG.own {w : World} {base : Nat} {F : Nat → Prop} {v : Value} {ls : List (List Nat)} (h : RowG w base F v ls) (k : Nat) (hk : v.ownBlock = some k) : base ≤ k ∧ k < w.heap.size ∧ ∃ cur, w.heap[k]? = some (Obj.cells cur 66 (0, 0)) := by
  obtain ⟨xs, h1, _⟩ := h
  rcases h1.2 with ⟨hv, _⟩ | ⟨g, cap, cur, hv, hb, hg, _⟩
  · rw [hv] at hk; cases hk
  · rw [hv] at hk
    cases hk
    exact ⟨hb, (Array.getElem?_eq_some_iff.1 hg).1, cur, hg⟩

/-- A block that is none of the books' rows, and no World. -/
def OkT (w : World) (k : Nat) : Prop := ∃ cur t fz, w.heap[k]? = some (Obj.cells cur t fz) ∧ t ≠ 83 ∧ t ≠ 53
theorem OkT.lt {w : World} {k : Nat} (h : OkT w k) : k < w.heap.size := by
  obtain ⟨_, _, _, h, _⟩ := h
  exact (Array.getElem?_eq_some_iff.1 h).1
theorem OkT.chg {w w' : World} {S : Nat → Prop} {k : Nat} (h : OkT w k) (hc : Chg w w' S) (hs : ¬ S k) : OkT w' k := by
  obtain ⟨cur, t, fz, h1, h2⟩ := h
  exact ⟨cur, t, fz, (hc.block k (Array.getElem?_eq_some_iff.1 h1).1 hs).trans h1, h2⟩
theorem Cel.okT {w : World} {g : Nat} {t : TypeId} {cs : Array Value} (h : Cel w g t cs) (h1 : t ≠ 83) (h2 : t ≠ 53) : OkT w g := ⟨cs, t, (0, 0), h, h1, h2⟩

/-- A disk of the script: where its parts lie, and what the document has of it. -/
structure Pl where
  x : Nat
  h : Nat
  r : Nat
  g : Nat
  gz : Nat
  Z : Nat
  S : Int
  C : Int
  B : ByteArray
  L : Int
  cs : List RCall
  ca : Int
  wr : Int

/-- No number of the disk is near its end. -/
structure Fine (q : Pl) (n : Nat) : Prop where
  ca : 0 ≤ q.ca ∧ q.ca ≤ n
  wr : 0 ≤ q.wr ∧ q.wr ≤ n
  cs : q.cs.length ≤ n
  L : fits q.L
  C : 0 ≤ q.C ∧ q.C ≤ 4294967295
  an : (anchC q.C q.B q.cs).1 ≤ 4294967295
  Z : q.Z ≤ 69
  B : q.B.size ≤ 2000000
  b : ∀ c ∈ q.cs, c.b.size ≤ 2000000

theorem BytesV.chg2 {w w' : World} {S : Nat → Prop} {v : Value} {l : List Nat} (h : BytesV w v l) (hc : Chg w w' S) (hS : ∀ k, v.ownBlock = some k → OkB w k → ¬ S k) : BytesV w' v l := by
  rcases h with h | ⟨g, h1, h2⟩
  · exact .inl h
  · exact .inr ⟨g, h1, (hc.block g h2.lt (hS g (by rw [h1]; rfl) ⟨_, _, h2⟩)).trans h2⟩

/-- A block of the given disk's that its calls change: its state, its zones, a row of frames. -/
def TyD (w : World) (k : Nat) : Prop := ∃ cur t fz, w.heap[k]? = some (Obj.cells cur t fz) ∧ (t = 106 ∨ t = 111 ∨ t = 66)
/-- A block of the document's disk. -/
def TyR (w : World) (k : Nat) : Prop := ∃ cur t fz, w.heap[k]? = some (Obj.cells cur t fz) ∧ (t = 206 ∨ t = 163)
theorem TyR.not {w : World} {k : Nat} {cur : Array Value} {t : TypeId} {fz : Nat × Nat} (h : TyR w k) (hk : w.heap[k]? = some (Obj.cells cur t fz)) (h1 : t ≠ 206) (h2 : t ≠ 163) : False := by
  obtain ⟨c, t', f, h3, h4⟩ := h
  rw [hk] at h3
  cases h3
  rcases h4 with h4 | h4
  · exact h1 h4
  · exact h2 h4
theorem TyD.not {w : World} {k : Nat} {cur : Array Value} {t : TypeId} {fz : Nat × Nat} (h : TyD w k) (hk : w.heap[k]? = some (Obj.cells cur t fz)) (h1 : t ≠ 106) (h2 : t ≠ 111) (h3 : t ≠ 66) : False := by
  obtain ⟨c, t', f, h4, h5⟩ := h
  rw [hk] at h4
  cases h4
  rcases h5 with h5 | h5 | h5
  · exact h1 h5
  · exact h2 h5
  · exact h3 h5

/-- What the given disk holds. -/
structure Dk where
  S : Int
  L : Int
  ca : Int
  wr : Int
  cn : Int
  bs : List Nat
  logs : List (List Nat)
  fr : Nat → List (List Nat)
  kp : Nat → Int
  Z : Nat

structure DP (w : World) (base : Nat) (F : Nat → Prop) (x h g gz : Nat) (σ : Dk) (bd lg : Value) (zs : List (Value × Int)) : Prop where
  dk : DkAt w x g
  hd : HdAt w h g
  st : StAt w g σ.S σ.L σ.ca σ.wr (.slice (some ⟨gz, 0, none⟩) zs.length zs.length) σ.cn bd lg
  bs : BytesV w bd σ.bs
  log : RowG w base F lg σ.logs
  za : ZAt w gz zs
  zl : zs.length = σ.Z
  zr : ∀ (i : Nat) (c : Value × Int), zs[i]? = some c → RowG w base F c.1 (σ.fr i) ∧ c.2 = σ.kp i
  a1 : ∀ (i : Nat) (c : Value × Int) (k : Nat), zs[i]? = some c → c.1.ownBlock = some k → lg.ownBlock ≠ some k
  a2 : ∀ (i j : Nat) (c d : Value × Int) (k : Nat), i ≠ j → zs[i]? = some c → zs[j]? = some d → c.1.ownBlock = some k → d.1.ownBlock ≠ some k
  f0 : F x ∧ F h ∧ F g ∧ F gz
  f2 : ∀ k, bd.ownBlock = some k → F k
  f3 : ∀ k, lg.ownBlock = some k → F k
  f4 : ∀ (i : Nat) (c : Value × Int) (k : Nat), zs[i]? = some c → c.1.ownBlock = some k → F k
  ok : ∀ k, F k → base ≤ k ∧ OkT w k

theorem DP.chg {w w' : World} {base : Nat} {F S : Nat → Prop} {x h g gz : Nat} {σ : Dk} {bd lg : Value} {zs : List (Value × Int)} (d : DP w base F x h g gz σ bd lg zs) (hc : Chg w w' S) (hS : ∀ k, F k → S k → TyR w k) (hok : ∀ k, F k → OkT w' k) : DP w' base F x h g gz σ bd lg zs where
  dk := Cel.chg d.dk hc (fun s => (hS _ d.f0.1 s).not d.dk (by decide) (by decide))
  hd := Cel.chg d.hd hc (fun s => (hS _ d.f0.2.1 s).not d.hd (by decide) (by decide))
  st := Cel.chg d.st hc (fun s => (hS _ d.f0.2.2.1 s).not d.st (by decide) (by decide))
  bs := d.bs.chg2 hc (fun k hk ⟨_, _, hb⟩ s => (hS k (d.f2 k hk) s).not hb (by decide) (by decide))
  log := by
    obtain ⟨xs, h1, h2⟩ := d.log
    refine ⟨xs, ownsRow_chg h1 hc (fun k hk s => ?_), fun i l hi => ?_⟩
    · obtain ⟨_, _, cur, hb⟩ := d.log.own k hk
      exact (hS k (d.f3 k hk) s).not hb (by decide) (by decide)
    · obtain ⟨g, e1, e2, e3⟩ := h2 i l hi
      exact ⟨g, e1, e2, (hc.block g e3.lt (fun s => (hS g e2 s).not e3 (by decide) (by decide))).trans e3⟩
  za := Cel.chg d.za hc (fun s => (hS _ d.f0.2.2.2 s).not d.za (by decide) (by decide))
  zl := d.zl
  zr := fun i c hi => by
    refine ⟨?_, (d.zr i c hi).2⟩
    obtain ⟨xs, h1, h2⟩ := (d.zr i c hi).1
    refine ⟨xs, ownsRow_chg h1 hc (fun k hk s => ?_), fun j l hj => ?_⟩
    · obtain ⟨_, _, cur, hb⟩ := (d.zr i c hi).1.own k hk
      exact (hS k (d.f4 i c k hi hk) s).not hb (by decide) (by decide)
    · obtain ⟨g, e1, e2, e3⟩ := h2 j l hj
      exact ⟨g, e1, e2, (hc.block g e3.lt (fun s => (hS g e2 s).not e3 (by decide) (by decide))).trans e3⟩
  a1 := d.a1
  a2 := d.a2
  f0 := d.f0
  f2 := d.f2
  f3 := d.f3
  f4 := d.f4
  ok := fun k hk => ⟨(d.ok k hk).1, hok k hk⟩

/-- The document's disk. -/
structure RP (w : World) (base : Nat) (F : Nat → Prop) (r : Nat) (Z S C : Int) (B : ByteArray) (L : Int) (cs : List RCall) (ca wr : Int) (dv : Value) : Prop where
  ref : RefAt w r Z S C B L dv ca wr
  don : DoneAt w base dv cs
  f0 : F r
  f1 : ∀ k, dv.ownBlock = some k → F k
theorem DoneAt.own {w : World} {base : Nat} {dv : Value} {cs : List RCall} (h : DoneAt w base dv cs) (k : Nat) (hk : dv.ownBlock = some k) : base ≤ k ∧ k < w.heap.size ∧ ∃ cur, w.heap[k]? = some (Obj.cells cur 163 (0, 0)) := by
  rcases h.2 with ⟨hv, _⟩ | ⟨g, cap, cur, hv, hb, hg, _⟩
  · rw [hv] at hk; cases hk
  · rw [hv] at hk
    cases hk
    exact ⟨hb, (Array.getElem?_eq_some_iff.1 hg).1, cur, hg⟩
theorem RP.chg {w w' : World} {base : Nat} {F S : Nat → Prop} {r : Nat} {Z T C : Int} {B : ByteArray} {L : Int} {cs : List RCall} {ca wr : Int} {dv : Value} (d : RP w base F r Z T C B L cs ca wr dv) (hc : Chg w w' S) (hS : ∀ k, F k → S k → TyD w k) : RP w' base F r Z T C B L cs ca wr dv where
  ref := Cel.chg d.ref hc (fun s => (hS _ d.f0 s).not d.ref (by decide) (by decide) (by decide))
  don := ownsRow_chg d.don hc (fun k hk s => by
    obtain ⟨_, _, cur, hb⟩ := d.don.own k hk
    exact (hS k (d.f1 k hk) s).not hb (by decide) (by decide) (by decide))
  f0 := d.f0
  f1 := d.f1

/-- What the document says that the given disk holds. -/
def Pl.dk (q : Pl) : Dk := ⟨q.S, q.L, q.ca, q.wr, (anchC q.C q.B q.cs).1, sbytes (anchC q.C q.B q.cs).2, (logC q.cs).map sbytes, fun i => (framesOfC q.cs i).map sbytes, fun i => ((keptC q.cs i).2 : Nat), q.Z⟩

/-- The disk that is given, and the document's: the one is as the other. -/
def PlateAt (w : World) (base : Nat) (F : Nat → Prop) (q : Pl) : Prop := ∃ (dv bd lg : Value) (zs : List (Value × Int)), DP w base F q.x q.h q.g q.gz q.dk bd lg zs ∧ RP w base F q.r q.Z q.S q.C q.B q.L q.cs q.ca q.wr dv

theorem PlateAt.chg {w w' : World} {base : Nat} {F S : Nat → Prop} {q : Pl} (h : PlateAt w base F q) (hc : Chg w w' S) (hS : ∀ k, F k → ¬ S k) : PlateAt w' base F q := by
  obtain ⟨dv, bd, lg, zs, h1, h2⟩ := h
  exact ⟨dv, bd, lg, zs, h1.chg hc (fun k hk s => absurd s (hS k hk)) (fun k hk => (h1.ok k hk).2.chg hc (hS k hk)), h2.chg hc (fun k hk s => absurd s (hS k hk))⟩
theorem PlateAt.below {w w' : World} {base : Nat} {F : Nat → Prop} {q : Pl} (h : PlateAt w base F q) (hb : Below w.heap.size w w') : PlateAt w' base F q :=
  h.chg (Chg.of_below hb (fun _ => False)) (fun _ _ h => h)
end Go.Proofs.YtloaefcgcniacaaGreatDoor

namespace Go.Proofs.YtloaefcgcniacaaGreatDoor
open Go.RowKit
set_option linter.unusedVariables false

theorem framesOfC_add (cs : List RCall) (c : RCall) (z : Int) : framesOfC (cs ++ [c]) z = frStep z (framesOfC cs z) c := by
  unfold framesOfC; rw [List.foldl_append]; rfl
theorem keptC_add (cs : List RCall) (c : RCall) (z : Int) : keptC (cs ++ [c]) z = kpStep z (keptC cs z) c := by
  unfold keptC; rw [List.foldl_append]; rfl
theorem anchC_add (C : Int) (B : ByteArray) (cs : List RCall) (c : RCall) : anchC C B (cs ++ [c]) = anStep (anchC C B cs) c := by
  unfold anchC; rw [List.foldl_append]; rfl
theorem logC_add (cs : List RCall) (c : RCall) : logC (cs ++ [c]) = lgStep (logC cs) c := by
  unfold logC; rw [List.foldl_append]; rfl

theorem kept_len_go (z : Int) : ∀ (cs : List RCall) (l : List ByteArray) (x : Nat × Nat), x.1 = l.length → (cs.foldl (kpStep z) x).1 = (cs.foldl (frStep z) l).length
  | [], _, _, h => h
  | c :: cs, l, x, h => by
    simp only [List.foldl_cons]
    refine kept_len_go z cs _ _ ?_
    unfold kpStep frStep
    split
    · rfl
    · split
      · simp [h]
      · split <;> exact h
theorem kept_len (cs : List RCall) (z : Int) : (keptC cs z).1 = (framesOfC cs z).length := kept_len_go z cs [] (0, 0) rfl

theorem frames_all_go (z : Int) (p : ByteArray → Prop) : ∀ (cs : List RCall) (l : List ByteArray), (∀ c ∈ cs, p c.b) → (∀ b ∈ l, p b) → ∀ b ∈ cs.foldl (frStep z) l, p b
  | [], _, _, h => h
  | c :: cs, l, hc, h => by
    simp only [List.foldl_cons]
    refine frames_all_go z p cs _ (fun c' hc' => hc c' (List.mem_cons_of_mem _ hc')) ?_
    unfold frStep
    intro b hb
    split at hb
    · cases hb
    · split at hb
      · rcases List.mem_append.1 hb with hb | hb
        · exact h b hb
        · rw [List.mem_singleton.1 hb]; exact hc c (List.mem_cons_self ..)
      · exact h b hb
theorem frames_all {cs : List RCall} (z : Int) {p : ByteArray → Prop} (hc : ∀ c ∈ cs, p c.b) : ∀ b ∈ framesOfC cs z, p b := frames_all_go z p cs [] hc (fun b hb => by cases hb)
theorem log_all_go (p : ByteArray → Prop) : ∀ (cs : List RCall) (l : List ByteArray), (∀ c ∈ cs, p c.b) → (∀ b ∈ l, p b) → ∀ b ∈ cs.foldl lgStep l, p b
  | [], _, _, h => h
  | c :: cs, l, hc, h => by
    simp only [List.foldl_cons]
    refine log_all_go p cs _ (fun c' hc' => hc c' (List.mem_cons_of_mem _ hc')) ?_
    unfold lgStep
    intro b hb
    split at hb
    · rcases List.mem_append.1 hb with hb | hb
      · exact h b hb
      · rw [List.mem_singleton.1 hb]; exact hc c (List.mem_cons_self ..)
    · exact h b hb
theorem log_all {cs : List RCall} {p : ByteArray → Prop} (hc : ∀ c ∈ cs, p c.b) : ∀ b ∈ logC cs, p b := log_all_go p cs [] hc (fun b hb => by cases hb)
theorem anch_all_go (p : ByteArray → Prop) : ∀ (cs : List RCall) (x : Int × ByteArray), (∀ c ∈ cs, p c.b) → p x.2 → p (cs.foldl anStep x).2
  | [], _, _, h => h
  | c :: cs, x, hc, h => by
    simp only [List.foldl_cons]
    refine anch_all_go p cs _ (fun c' hc' => hc c' (List.mem_cons_of_mem _ hc')) ?_
    unfold anStep
    split
    · exact hc c (List.mem_cons_self ..)
    · exact h
theorem anch_all {cs : List RCall} {C : Int} {B : ByteArray} {p : ByteArray → Prop} (hc : ∀ c ∈ cs, p c.b) (hB : p B) : p (anchC C B cs).2 := anch_all_go p cs (C, B) hc hB

theorem Fine.anch {q : Pl} {n : Nat} (h : Fine q n) : (sbytes (anchC q.C q.B q.cs).2).length ≤ 2000000 := by
  rw [sbytes_length]
  exact anch_all (p := fun b => b.size ≤ 2000000) h.b h.B
theorem Fine.log {q : Pl} {n : Nat} (h : Fine q n) : ∀ l ∈ (logC q.cs).map sbytes, l.length ≤ 2000000 := fun l hl => by
  obtain ⟨b, hb, rfl⟩ := List.mem_map.1 hl
  rw [sbytes_length]
  exact log_all (p := fun b => b.size ≤ 2000000) h.b b hb
theorem Fine.frames {q : Pl} {n : Nat} (h : Fine q n) (z : Int) : ∀ l ∈ (framesOfC q.cs z).map sbytes, l.length ≤ 2000000 := fun l hl => by
  obtain ⟨b, hb, rfl⟩ := List.mem_map.1 hl
  rw [sbytes_length]
  exact frames_all (p := fun b => b.size ≤ 2000000) z h.b b hb
end Go.Proofs.YtloaefcgcniacaaGreatDoor
