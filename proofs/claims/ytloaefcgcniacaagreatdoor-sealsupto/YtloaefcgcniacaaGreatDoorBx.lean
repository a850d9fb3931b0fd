import Derived.Test.YtloaefcgcniacaaGreatDoorBd
namespace Go.Proofs.YtloaefcgcniacaaGreatDoor
open Go.RowKit
set_option linter.unusedVariables false

theorem keep_far (base WB N n : Nat) (p : Option Addr) (xs : List Value) (d s : Value) (w0 w wr W3 w9 : World) (o : Obj) (pl : Option Addr) (cl g9 c9 : Nat) (hWB0 : WB < w0.heap.size)
    (hb0 : Below w0.heap.size w0 w) (hgr : w.grownBy wr (Value.ownBlock (.slice p n n))) (hwr3 : Below w.heap.size wr W3) (hs3 : W3.heap.size = w.heap.size + 7)
    (hwb3 : W3.heap[WB]? = some (Obj.cells #[d, s, .slice pl N cl] 53 (0, 0))) (hown3 : W3.ownsRow base 83 5 (.slice pl N cl) N xs) (hgrow : (W3.alloc o).drew.grownBy w9 (Value.slice pl N cl).ownBlock)
    (x : Nat) (hx0 : w0.heap.size ≤ x) (hx1 : x < w.heap.size) (hxp : ∀ a, p = some a → a.block ≠ x) (hx5 : ∃ cur fz, w.heap[x]? = some (Obj.cells cur 5 fz)) :
    (w9.setCell ⟨WB, 2, none⟩ (.slice (some ⟨g9, 0, none⟩) (N + 1) c9)).heap[x]? = w.heap[x]? := by
  obtain ⟨cur, fz, h1⟩ := hx5
  have h3 : W3.heap[x]? = some (Obj.cells cur 5 fz) := by
    rw [hwr3.block x hx1, hgr.block x hx1 ?_, h1]
    intro e
    cases p with
    | none => simp [Value.ownBlock] at e
    | some a =>
      have e2 : x = a.block := by simpa [Value.ownBlock] using e
      exact hxp a rfl e2.symm
  have hbA : Below W3.heap.size W3 (W3.alloc o).drew := ((Below.refl W3.heap.size W3).alloc (Nat.le_refl _) o).drew
  have hzA : (W3.alloc o).drew.heap.size = W3.heap.size + 1 := by simp
  have hne : some x ≠ (Value.slice pl N cl).ownBlock := by
    intro e
    rcases hown3.2 with ⟨h4, _⟩ | ⟨gl, cap, cur2, h4, _, h5, _⟩
    · cases h4
      simp [Value.ownBlock] at e
    · cases h4
      have e2 : x = gl := by simpa [Value.ownBlock] using e
      subst e2
      rw [h3] at h5
      cases h5
  rw [Below.heap_setCell _ _ _ _ (show x ≠ WB by omega), hgrow.block x (by omega) hne, hbA.block x (by omega), h3, h1]

theorem Mk.keep2 {w w' : World} {p : Option Addr} {n c j : Nat} (h : Mk w p n c j) (hk : ∀ (g : Nat) (cur : Array Value) (fz : Nat × Nat), p = some ⟨g, 0, none⟩ → w.heap[g]? = some (Obj.cells cur 5 fz) → w'.heap[g]? = some (Obj.cells cur 5 fz)) : Mk w' p n c j := by
  rcases h with h | ⟨g, cur, fz, h1, h2, h3, h4⟩
  · exact .inl h
  · exact .inr ⟨g, cur, fz, h1, h2, hk g cur fz h1 h3, h4⟩

theorem keep_end2 (base WB N n : Nat) (p : Option Addr) (xs : List Value) (d s : Value) (w0 w wr W3 w9 : World) (o : Obj) (pl : Option Addr) (cl g9 c9 c1 c2 c3 : Nat) (hn : n ≤ 300) (hbase : base ≤ WB) (hWB0 : WB < w0.heap.size)
    (hb0 : Below w0.heap.size w0 w) (hne0 : ∀ a, p = some a → w0.heap.size ≤ a.block) (hgr : w.grownBy wr (Value.ownBlock (.slice p n n))) (hsz : wr.heap.size = w.heap.size) (hwr3 : Below w.heap.size wr W3) (hs3 : W3.heap.size = w.heap.size + 7)
    (hwb3 : W3.heap[WB]? = some (Obj.cells #[d, s, .slice pl N cl] 53 (0, 0))) (hown3 : W3.ownsRow base 83 5 (.slice pl N cl) N xs) (hgrow : (W3.alloc o).drew.grownBy w9 (Value.slice pl N cl).ownBlock)
    (hown9 : w9.ownsRow base 83 5 (.slice (some ⟨g9, 0, none⟩) (N + 1) c9) (N + 1) (xs ++ [.slice p n n, .slice (some ⟨w.heap.size + 1 + 1, 0, none⟩) (n + 1) c1, .slice (some ⟨w.heap.size + 3 + 1, 0, none⟩) (n + 2) c2, .slice (some ⟨w.heap.size + 5 + 1, 0, none⟩) (n + 3) c3, .int .i64 (N : Int)]))
    (hent : ∀ j, j < N → Ent w0 xs j) (l : List Nat) (hFw : FullB w p n l) (hF : FullB wr p n (marksL N n)) (hO1 : OwnB W3 (w.heap.size + 1 + 1) c1 (marksL N (n + 1))) (hO2 : OwnB W3 (w.heap.size + 3 + 1) c2 (marksL N (n + 2))) (hO3 : OwnB W3 (w.heap.size + 5 + 1) c3 (marksL N (n + 3)))
    (x : Nat) (w2 : World) (hx0 : w0.heap.size ≤ x) (hx1 : x < w.heap.size) (hxp : ∀ a, p = some a → a.block ≠ x) (hx5 : ∃ cur fz, w.heap[x]? = some (Obj.cells cur 5 fz))
    (hw2 : ∀ k, k ≠ x → w2.heap[k]? = (w9.setCell ⟨WB, 2, none⟩ (.slice (some ⟨g9, 0, none⟩) (N + 1) c9)).heap[k]?) :
    Books w2 base WB (N + 1) := by
  have hz0 := hb0.size
  have hWB : WB < w.heap.size := by omega
  have hbA : Below W3.heap.size W3 (W3.alloc o).drew := ((Below.refl W3.heap.size W3).alloc (Nat.le_refl _) o).drew
  have hzA : (W3.alloc o).drew.heap.size = W3.heap.size + 1 := by simp
  have hgl : ∀ k cur fz t, W3.heap[k]? = some (Obj.cells cur t fz) → t ≠ 83 → some k ≠ (Value.slice pl N cl).ownBlock := by
    intro k cur fz t h1 h2 e
    rcases hown3.2 with ⟨h3, _⟩ | ⟨gl, cap, cur2, h3, _, h4, _⟩
    · cases h3
      simp [Value.ownBlock] at e
    · cases h3
      have e2 : k = gl := by simpa [Value.ownBlock] using e
      subst e2
      rw [h1] at h4
      cases h4
      exact h2 rfl
  have same3 : ∀ (k : Nat) (cur : Array Value) (fz : Nat × Nat), k ≠ x → W3.heap[k]? = some (Obj.cells cur 5 fz) → w2.heap[k]? = some (Obj.cells cur 5 fz) := by
    intro k cur fz hkx h1
    have hk : k < W3.heap.size := (Array.getElem?_eq_some_iff.1 h1).1
    have hkw : k ≠ WB := by
      intro e
      subst e
      rw [hwb3] at h1
      cases h1
    rw [hw2 k hkx, Below.heap_setCell _ _ _ _ hkw, hgrow.block k (by omega) (hgl k cur fz 5 h1 (by decide)), hbA.block k hk, h1]
  have same0 : ∀ (k : Nat) (cur : Array Value) (fz : Nat × Nat), w0.heap[k]? = some (Obj.cells cur 5 fz) → w2.heap[k]? = some (Obj.cells cur 5 fz) := by
    intro k cur fz h1
    have hk : k < w0.heap.size := (Array.getElem?_eq_some_iff.1 h1).1
    apply same3 _ _ _ (by omega)
    rw [hwr3.block k (by omega), hgr.block k (by omega) ?_, hb0.block k hk, h1]
    intro e
    cases p with
    | none => simp [Value.ownBlock] at e
    | some a =>
      have e2 : k = a.block := by simpa [Value.ownBlock] using e
      have := hne0 a rfl
      omega
  have hwb9 : (w9.setCell ⟨WB, 2, none⟩ (.slice (some ⟨g9, 0, none⟩) (N + 1) c9)).heap[WB]? = some (Obj.cells #[d, s, .slice (some ⟨g9, 0, none⟩) (N + 1) c9] 53 (0, 0)) := by
    have h1 : w9.heap[WB]? = some (Obj.cells #[d, s, .slice pl N cl] 53 (0, 0)) := by
      rw [hgrow.block WB (by omega) (hgl WB _ _ 53 hwb3 (by decide)), hbA.block WB (by omega), hwb3]
    have hlt : WB < w9.heap.size := (Array.getElem?_eq_some_iff.1 h1).1
    have hv := (Array.getElem?_eq_some_iff.1 h1).2
    unfold World.setCell
    rw [Array.getElem?_eq_getElem (by simpa using hlt), Array.getElem_modify]
    simp [hv]
  have hg9 : g9 ≠ WB := by
    intro e
    rcases hown9.2 with ⟨h3, _⟩ | ⟨gl, cap, cur2, h3, _, h4, _⟩
    · cases h3
    · cases h3
      rw [e] at h4
      have h1 : w9.heap[WB]? = some (Obj.cells #[d, s, .slice pl N cl] 53 (0, 0)) := by
        rw [hgrow.block WB (by omega) (hgl WB _ _ 53 hwb3 (by decide)), hbA.block WB (by omega), hwb3]
      rw [h1] at h4
      cases h4
  have hxl : xs.length = N * 5 := hown3.1
  have hwb2 : w2.heap[WB]? = some (Obj.cells #[d, s, .slice (some ⟨g9, 0, none⟩) (N + 1) c9] 53 (0, 0)) := by
    rw [hw2 WB (by omega)]
    exact hwb9
  have hx3 : ∃ cur fz, W3.heap[x]? = some (Obj.cells cur 5 fz) := by
    obtain ⟨cur, fz, h1⟩ := hx5
    refine ⟨cur, fz, ?_⟩
    rw [hwr3.block x hx1, hgr.block x hx1 ?_, h1]
    intro e
    cases p with
    | none => simp [Value.ownBlock] at e
    | some a =>
      have e2 : x = a.block := by simpa [Value.ownBlock] using e
      exact hxp a rfl e2.symm
  have hg9x : g9 ≠ x := by
    intro e
    rcases hown9.2 with ⟨h3, _⟩ | ⟨gl, cap, cur2, h3, _, h4, _⟩
    · cases h3
    · cases h3
      rw [e] at h4
      obtain ⟨cur, fz, h1⟩ := hx3
      rw [hgrow.block x (by omega) (hgl x cur fz 5 h1 (by decide)), hbA.block x (by omega), h1] at h4
      cases h4
  refine ⟨d, s, _, xs ++ [.slice p n n, .slice (some ⟨w.heap.size + 1 + 1, 0, none⟩) (n + 1) c1, .slice (some ⟨w.heap.size + 3 + 1, 0, none⟩) (n + 2) c2, .slice (some ⟨w.heap.size + 5 + 1, 0, none⟩) (n + 3) c3, .int .i64 (N : Int)], hbase, hwb2, ?_, ?_⟩
  · obtain ⟨h1, h2⟩ := hown9
    refine ⟨h1, ?_⟩
    rcases h2 with h2 | ⟨g, cap, cur, hv, hg, hh, r⟩
    · exact .inl h2
    · refine .inr ⟨g, cap, cur, hv, hg, ?_, r⟩
      have e : g = g9 := by cases hv; rfl
      rw [hw2 g (by rw [e]; exact hg9x), Below.heap_setCell _ _ _ _ (by rw [e]; exact hg9)]
      exact hh
  · intro j hj
    by_cases hjN : j < N
    · obtain ⟨pa, pb, pc, pd, na, ca, nb, cb, nc, cc, nd, cd, x0, x1, x2, x3, x4, m0, m1, m2, m3⟩ := hent j hjN
      exact ⟨pa, pb, pc, pd, na, ca, nb, cb, nc, cc, nd, cd, by rw [List.getElem?_append_left (by omega)]; exact x0, by rw [List.getElem?_append_left (by omega)]; exact x1, by rw [List.getElem?_append_left (by omega)]; exact x2, by rw [List.getElem?_append_left (by omega)]; exact x3, by rw [List.getElem?_append_left (by omega)]; exact x4,
        m0.keep same0, m1.keep same0, m2.keep same0, m3.keep same0⟩
    · have e : j = N := by omega
      subst e
      refine ⟨p, _, _, _, n, n, n + 1, c1, n + 2, c2, n + 3, c3, by rw [List.getElem?_append_right (by omega), hxl]; simp, by rw [List.getElem?_append_right (by omega), hxl]; simp, by rw [List.getElem?_append_right (by omega), hxl]; simp, by rw [List.getElem?_append_right (by omega), hxl]; simp, by rw [List.getElem?_append_right (by omega), hxl]; simp, ?_, (own_mk hO1 (by omega) c1).keep2 (fun g cur fz e h => same3 g cur fz (by cases e; omega) h), (own_mk hO2 (by omega) c2).keep2 (fun g cur fz e h => same3 g cur fz (by cases e; omega) h), (own_mk hO3 (by omega) c3).keep2 (fun g cur fz e h => same3 g cur fz (by cases e; omega) h)⟩
      rcases hF with ⟨rfl, rfl, _⟩ | ⟨g, rfl, hnl, hB⟩
      · exact .inl ⟨rfl, rfl, rfl⟩
      · have hgz := hB.lt
        have hB3 : Blk W3 g (marksL j n) := hB.below hwr3 (by omega)
        have hO := hB3.own (by rw [marksL_length]; unfold maxLen; omega)
        exact (own_mk hO (by omega) n).keep2 (fun g' cur fz e h => same3 g' cur fz (by cases e; exact hxp _ rfl) h)

set_option maxHeartbeats 2000000 in
theorem keep_any2 (base WB N n : Nat) (p : Option Addr) (l : List Nat) (w0 w : World) (hN : N < 1000000) (hn : n ≤ 300) (hB0 : Books w0 base WB N) (hb0 : Below w0.heap.size w0 w) (hF : FullB w p n l) (hl : ∀ x ∈ l, x < 256) (hne0 : ∀ a, p = some a → w0.heap.size ≤ a.block)
    (x : Nat) (hx0 : w0.heap.size ≤ x) (hx1 : x < w.heap.size) (hxp : ∀ a, p = some a → a.block ≠ x) (hx5 : ∃ cur fz, w.heap[x]? = some (Obj.cells cur 5 fz)) :
    Calls Tryz.prog 84 #[.pointer (some ⟨WB, 2, none⟩), .slice p n n] w fun e w' => e = .returned (.tuple #[]) ∧ (∀ w2 : World, (∀ k, k ≠ x → w2.heap[k]? = w'.heap[k]?) → Books w2 base WB (N + 1)) ∧ Below base w w' ∧ Keeps w w' ∧ w'.heap[x]? = w.heap[x]? := by
  have HX0 := (show Hid _ from hx0)
  have HX1 := (show Hid _ from hx1)
  have HXP := (show Hid _ from hxp)
  have HX5 := (show Hid _ from hx5)
  clear hx0 hx1 hxp hx5
  have hWB0 := hB0.wb
  have hz00 := hb0.size
  obtain ⟨d, s, lv, xs, hbase, hwb0, hown0, hent0⟩ := hB0
  have hwb : w.heap[WB]? = some (Obj.cells #[d, s, lv] 53 (0, 0)) := (hb0.block WB hWB0.2).trans hwb0
  have hown : w.ownsRow base 83 5 lv N xs := by
    refine hown0.kept (row := none) ⟨hb0.os, hb0.tape, hb0.output, hb0.size, fun k hk _ => hb0.block k hk⟩ ?_
    cases h : lv.ownBlock with
    | none => exact .inl rfl
    | some a => exact .inr (by simp)
  clear hwb0 hown0
  have hcl : w.cell? ⟨WB, 2, none⟩ = some lv := by simp [World.cell?, hwb]
  have hclf : w.frozen? ⟨WB, 2, none⟩ = false := by simp [World.frozen?, hwb]
  have hWB : WB < w.heap.size := World.block_lt_of_cell? w _ hcl
  have hne : ∀ a, p = some a → a.block ≠ WB := fun a ha => by have := hne0 a ha; omega
  have hent : True := trivial
  obtain ⟨pl, cl, hlv⟩ : ∃ pl cl, lv = .slice pl N cl := by
    rcases hown.2 with ⟨rfl, rfl⟩ | ⟨gl, cap, cur, rfl, _⟩
    · exact ⟨none, 0, rfl⟩
    · exact ⟨_, _, rfl⟩
  subst hlv
  have hrow : (Value.slice pl N cl).ownBlock = none ∨ (Value.slice pl N cl).ownBlock ≠ (Value.slice p n n).ownBlock := by
    rcases hown.2 with ⟨h1, _⟩ | ⟨gl, cap, cur, h1, _, h2, _⟩
    · cases h1
      exact .inl rfl
    · cases h1
      right
      rcases hF with ⟨rfl, _⟩ | ⟨g, rfl, _, h3⟩
      · simp [Value.ownBlock]
      · intro e
        have e2 : gl = g := by simpa [Value.ownBlock] using e
        subst e2
        unfold Blk at h3
        rw [h2] at h3
        cases h3
  have hLL : l.length = n := hF.len
  have HLL := (show Hid _ from hLL)
  clear hLL
  have hNi : (N : Int) ≤ 1000000 := by omega
  go_enter Tryz.func84, Tryz.ntmps84
  go_wp2
  go_loopw [6] (fun i wr => ∃ k : Nat, k ≤ n ∧ i = .int .i64 k ∧ FullB wr p n (Lbx.part (marksL N n) l k) ∧ w.grownBy wr (Value.ownBlock (.slice p n n)) ∧ wr.heap.size = w.heap.size) (fun i _ => n - (intOf i).toNat)
  case atStart =>
    refine ⟨0, Nat.zero_le _, rfl, ?_, grownBy_refl _ _, rfl⟩
    rw [Lbx.part_zero]
    exact hF
  case round =>
    obtain ⟨k, hk, rfl, hFk, hgr, hsz⟩ := hrel
    have hvl : (marksL N n).length = l.length := by rw [marksL_length, HLL.out]
    by_cases hlt : k < n
    · rcases hFk with ⟨_, h0, _⟩ | ⟨g, rfl, hnl, hBk⟩
      · omega
      · have hcell := hBk.cell k (by rw [← hnl]; exact hlt)
        have hfr := hBk.frozen k
        have hlti : (k : Int) < (n : Int) := by omega
        have HVL := (show Hid _ from hvl)
        have HNL := (show Hid _ from hnl)
        clear hvl hnl hF hown hent hcl hclf hne hent0 hwb
        go_wp2_with (go_at_call 106; refine (mark_any _ _ _ (by omega) (by omega) (by omega) (by omega)).mono ?_; rintro e w' ⟨rfl, hw'⟩; have hw2 := hw'.symm; clear hw'; subst hw2)
        go_roundw
        case rel =>
          refine ⟨k + 1, by omega, by go_num, ?_, grownBy_setCell hgr _ _, by simpa using hsz⟩
          refine .inr ⟨g, rfl, by rw [Lbx.part_length _ _ _ HVL.out, HLL.out], ?_⟩
          have hm := marksL_get N n k hlt
          rw [← Lbx.part_succ _ _ _ HVL.out (by rw [HLL.out]; exact hlt), hm]
          simpa using hBk.set k (markN N k)
        case measure => simp [intOf]; omega
    · have ek : Lbx.part (marksL N n) l k = marksL N n := by
        have e1 : k = l.length := by rw [HLL.out]; omega
        rw [e1, Lbx.part_all _ _ hvl]
      rw [ek] at hFk
      clear ek hvl
      have hpl : ∀ a, p = some a → a.block < w.heap.size := fun a ha => by rw [← hsz]; exact hFk.lt a ha
      have hX0 : XC (wr.alloc (Obj.cells #[.slice p n n, .slice none 0 0, .slice none 0 0, .slice none 0 0, .int .i64 (N : Int)] 83)) w.heap.size N (.slice p n n) (.slice none 0 0) (.slice none 0 0) (.slice none 0 0) := by
        rw [← hsz]
        exact ⟨⟨by simp, by simp, by simp, by simp, by simp⟩, fun i => by simp⟩
      have hA : Below w.heap.size wr (wr.alloc (Obj.cells #[.slice p n n, .slice none 0 0, .slice none 0 0, .slice none 0 0, .int .i64 (N : Int)] 83)) := (Below.refl _ _).alloc (by omega) _
      have hzA : (wr.alloc (Obj.cells #[.slice p n n, .slice none 0 0, .slice none 0 0, .slice none 0 0, .int .i64 (N : Int)] 83)).heap.size = w.heap.size + 1 := by simp [hsz]
      go_wp2_with fail
      generalize (wr.alloc (Obj.cells #[.slice p n n, .slice none 0 0, .slice none 0 0, .slice none 0 0, .int .i64 (N : Int)] 83)) = WA at *
      have hFA := hFk.far hA hpl
      refine (mark_any _ _ _ (by omega) (by omega) (by omega) (by omega)).mono ?_
      rintro e w' ⟨rfl, hw'⟩
      have hw2 := hw'.symm
      clear hw'
      subst hw2
      simp only [Int.toNat_natCast]
      have hb1 : Below (w.heap.size + 1) WA (WA.alloc (Obj.cells #[.int .u8 ((markN N n : Nat) : Int)] 5)) := (Below.refl _ _).alloc (by omega) _
      have hFA1 := hFA.far (hb1.mono (by omega)) hpl
      go_wp2_with (at_builtin; go_loud (refine wpList_append_fresh rfl (.tmp 29) (.tmp 33) rfl p n (marksL N n) hFA1 ⟨w.heap.size + 1, 0, none⟩ 1 1 [markN N n] rfl (by omega) rfl rfl ?hnews1 (by omega) (w.heap.size + 1 + 1) (by simp [hzA]) ?_))
      case hnews1 =>
        intro j hj
        match j, hj with
        | 0, _ => simp [Addr.add_lit, World.cell?_alloc_at, hzA]
      intro c1 w1 hO1 hbb1 hs1
      rw [← marksL_succ] at hO1
      have hX1 := hX0.below (hb1.trans (hbb1.mono (by omega))) (by omega)
      have hwr1 : Below w.heap.size wr w1 := hA.trans ((hb1.mono (by omega)).trans (hbb1.mono (by omega)))
      have hX1s := hX1.set1 (.slice (some ⟨w.heap.size + 1 + 1, 0, none⟩) (n + 1) c1)
      obtain ⟨⟨x0, x1, x2, x3, x4⟩, xf⟩ := hX1
      have hO1s := hO1.other ⟨w.heap.size, 1, none⟩ (.slice (some ⟨w.heap.size + 1 + 1, 0, none⟩) (n + 1) c1) (by show w.heap.size + 1 + 1 ≠ w.heap.size; omega)
      have hwr1s : Below w.heap.size wr (w1.setCell ⟨w.heap.size, 1, none⟩ (.slice (some ⟨w.heap.size + 1 + 1, 0, none⟩) (n + 1) c1)) := hwr1.setCell (Nat.le_refl _) _
      have hs1s : (w1.setCell ⟨w.heap.size, 1, none⟩ (.slice (some ⟨w.heap.size + 1 + 1, 0, none⟩) (n + 1) c1)).heap.size = w.heap.size + 3 := by simp [hs1]
      clear hX0 hA hFA hFA1 hb1 hbb1 hO1 hwr1
      go_wp2_with fail
      clear x0 x1 x2 x3 x4 xf hs1
      generalize (w1.setCell ⟨w.heap.size, 1, none⟩ (.slice (some ⟨w.heap.size + 1 + 1, 0, none⟩) (n + 1) c1)) = W1 at *
      refine (mark_any _ _ _ (by omega) (by omega) (by omega) (by omega)).mono ?_
      rintro e w' ⟨rfl, hw'⟩
      have hw2 := hw'.symm
      clear hw'
      subst hw2
      simp only [Int.toNat_natCast]
      go_wp2_with fail
      refine (mark_any _ _ _ (by omega) (by omega) (by omega) (by omega)).mono ?_
      rintro e w' ⟨rfl, hw'⟩
      have hw2 := hw'.symm
      clear hw'
      subst hw2
      have en1 : ((n : Int) + 1).toNat = n + 1 := by omega
      simp only [Int.toNat_natCast, en1]
      clear en1
      have hb2 : Below (w.heap.size + 3) W1 (W1.alloc (Obj.cells #[.int .u8 ((markN N n : Nat) : Int), .int .u8 ((markN N (n + 1) : Nat) : Int)] 5)) := (Below.refl _ _).alloc (by omega) _
      have hFA2 := (hFk.far hwr1s hpl).far (hb2.mono (by omega)) hpl
      go_wp2_with (at_builtin; go_loud (refine wpList_append_fresh rfl (.tmp 36) (.tmp 44) rfl p n (marksL N n) hFA2 ⟨w.heap.size + 3, 0, none⟩ 2 2 [markN N n, markN N (n + 1)] rfl (by omega) rfl rfl ?hnews2 (by omega) (w.heap.size + 3 + 1) (by simp [hs1s]) ?_))
      case hnews2 =>
        intro j hj
        match j, hj with
        | 0, _ => simp [Addr.add_lit, World.cell?_alloc_at, hs1s]
        | 1, _ => simp [Addr.add_lit, World.cell?_alloc_at, hs1s]
      intro c2 w2 hO2 hbb2 hs2
      have hO2m : OwnB w2 (w.heap.size + 3 + 1) c2 (marksL N (n + 2)) := by
        have e : marksL N (n + 2) = marksL N n ++ [markN N n, markN N (n + 1)] := by rw [marksL_succ, marksL_succ]; simp
        rw [e]; exact hO2
      have hX2 := hX1s.below (hb2.trans (hbb2.mono (by omega))) (by omega)
      have hO12 := hO1s.below (hb2.trans (hbb2.mono (by omega))) (by omega)
      have hwr2 : Below w.heap.size wr w2 := hwr1s.trans ((hb2.mono (by omega)).trans (hbb2.mono (by omega)))
      have hX2s := hX2.set2 (.slice (some ⟨w.heap.size + 3 + 1, 0, none⟩) (n + 2) c2)
      obtain ⟨⟨x0, x1, x2, x3, x4⟩, xf⟩ := hX2
      have hO2s := hO2m.other ⟨w.heap.size, 2, none⟩ (.slice (some ⟨w.heap.size + 3 + 1, 0, none⟩) (n + 2) c2) (by show w.heap.size + 3 + 1 ≠ w.heap.size; omega)
      have hO12s := hO12.other ⟨w.heap.size, 2, none⟩ (.slice (some ⟨w.heap.size + 3 + 1, 0, none⟩) (n + 2) c2) (by show w.heap.size + 1 + 1 ≠ w.heap.size; omega)
      have hwr2s : Below w.heap.size wr (w2.setCell ⟨w.heap.size, 2, none⟩ (.slice (some ⟨w.heap.size + 3 + 1, 0, none⟩) (n + 2) c2)) := hwr2.setCell (Nat.le_refl _) _
      have hs2s : (w2.setCell ⟨w.heap.size, 2, none⟩ (.slice (some ⟨w.heap.size + 3 + 1, 0, none⟩) (n + 2) c2)).heap.size = w.heap.size + 5 := by simp [hs2]
      clear hX1s hO1s hwr1s hs1s hb2 hbb2 hFA2 hO2 hO2m hO12 hwr2
      go_wp2_with fail
      clear x0 x1 x2 x3 x4 xf hs2
      generalize (w2.setCell ⟨w.heap.size, 2, none⟩ (.slice (some ⟨w.heap.size + 3 + 1, 0, none⟩) (n + 2) c2)) = W2 at *
      refine (mark_any _ _ _ (by omega) (by omega) (by omega) (by omega)).mono ?_
      rintro e w' ⟨rfl, hw'⟩
      have hw2 := hw'.symm
      clear hw'
      subst hw2
      simp only [Int.toNat_natCast]
      go_wp2_with fail
      refine (mark_any _ _ _ (by omega) (by omega) (by omega) (by omega)).mono ?_
      rintro e w' ⟨rfl, hw'⟩
      have hw2 := hw'.symm
      clear hw'
      subst hw2
      go_wp2_with fail
      refine (mark_any _ _ _ (by omega) (by omega) (by omega) (by omega)).mono ?_
      rintro e w' ⟨rfl, hw'⟩
      have hw2 := hw'.symm
      clear hw'
      subst hw2
      have en2 : ((n : Int) + 2).toNat = n + 2 := by omega
      simp only [Int.toNat_natCast, en2]
      clear en2
      have hb3 : Below (w.heap.size + 5) W2 (W2.alloc (Obj.cells #[.int .u8 ((markN N n : Nat) : Int), .int .u8 ((markN N (n + 1) : Nat) : Int), .int .u8 ((markN N (n + 2) : Nat) : Int)] 5)) := (Below.refl _ _).alloc (by omega) _
      have hFA3 := (hFk.far hwr2s hpl).far (hb3.mono (by omega)) hpl
      go_wp2_with (at_builtin; go_loud (refine wpList_append_fresh rfl (.tmp 47) (.tmp 59) rfl p n (marksL N n) hFA3 ⟨w.heap.size + 5, 0, none⟩ 3 3 [markN N n, markN N (n + 1), markN N (n + 2)] rfl (by omega) rfl rfl ?hnews3 (by omega) (w.heap.size + 5 + 1) (by simp [hs2s]) ?_))
      case hnews3 =>
        intro j hj
        match j, hj with
        | 0, _ => simp [Addr.add_lit, World.cell?_alloc_at, hs2s]
        | 1, _ => simp [Addr.add_lit, World.cell?_alloc_at, hs2s]
        | 2, _ => simp [Addr.add_lit, World.cell?_alloc_at, hs2s]
      intro c3 w3 hO3 hbb3 hs3
      have hO3m : OwnB w3 (w.heap.size + 5 + 1) c3 (marksL N (n + 3)) := by
        have e : marksL N (n + 3) = marksL N n ++ [markN N n, markN N (n + 1), markN N (n + 2)] := by rw [marksL_succ, marksL_succ, marksL_succ]; simp
        rw [e]; exact hO3
      have hX3 := hX2s.below (hb3.trans (hbb3.mono (by omega))) (by omega)
      have hO13 := hO12s.below (hb3.trans (hbb3.mono (by omega))) (by omega)
      have hO23 := hO2s.below (hb3.trans (hbb3.mono (by omega))) (by omega)
      have hwr3 : Below w.heap.size wr w3 := hwr2s.trans ((hb3.mono (by omega)).trans (hbb3.mono (by omega)))
      have hX3s := hX3.set3 (.slice (some ⟨w.heap.size + 5 + 1, 0, none⟩) (n + 3) c3)
      obtain ⟨⟨x0, x1, x2, x3, x4⟩, xf⟩ := hX3
      have hO3s := hO3m.other ⟨w.heap.size, 3, none⟩ (.slice (some ⟨w.heap.size + 5 + 1, 0, none⟩) (n + 3) c3) (by show w.heap.size + 5 + 1 ≠ w.heap.size; omega)
      have hO13s := hO13.other ⟨w.heap.size, 3, none⟩ (.slice (some ⟨w.heap.size + 5 + 1, 0, none⟩) (n + 3) c3) (by show w.heap.size + 1 + 1 ≠ w.heap.size; omega)
      have hO23s := hO23.other ⟨w.heap.size, 3, none⟩ (.slice (some ⟨w.heap.size + 5 + 1, 0, none⟩) (n + 3) c3) (by show w.heap.size + 3 + 1 ≠ w.heap.size; omega)
      have hwr3s : Below w.heap.size wr (w3.setCell ⟨w.heap.size, 3, none⟩ (.slice (some ⟨w.heap.size + 5 + 1, 0, none⟩) (n + 3) c3)) := hwr3.setCell (Nat.le_refl _) _
      have hs3s : (w3.setCell ⟨w.heap.size, 3, none⟩ (.slice (some ⟨w.heap.size + 5 + 1, 0, none⟩) (n + 3) c3)).heap.size = w.heap.size + 7 := by simp [hs3]
      have hcl3 : (w3.setCell ⟨w.heap.size, 3, none⟩ (.slice (some ⟨w.heap.size + 5 + 1, 0, none⟩) (n + 3) c3)).cell? ⟨WB, 2, none⟩ = some (.slice pl N cl) := by
        refine (hwr3s.cell (p := ⟨WB, 2, none⟩) hWB).trans ?_
        refine (World.cell?_of_block (hgr.block WB hWB ?_)).trans hcl
        intro e
        cases p with
        | none => simp [Value.ownBlock] at e
        | some a =>
          have : WB = a.block := by simpa [Value.ownBlock] using e
          exact hne a rfl this.symm
      have hown3 : (w3.setCell ⟨w.heap.size, 3, none⟩ (.slice (some ⟨w.heap.size + 5 + 1, 0, none⟩) (n + 3) c3)).ownsRow base 83 5 (.slice pl N cl) N xs := by
        have h1 := hown.kept hgr hrow
        refine h1.kept (grownBy_of_below none (hwr3s.mono (by omega))) ?_
        cases pl with
        | none => exact .inl rfl
        | some a => exact .inr (by simp [Value.ownBlock])
      clear hX2s hO2s hO12s hwr2s hs2s hb3 hbb3 hFA3 hO3 hO3m hO13 hO23 hwr3
      go_wp2_with fail
      clear x0 x1 x2 x3 x4 xf hs3
      generalize (w3.setCell ⟨w.heap.size, 3, none⟩ (.slice (some ⟨w.heap.size + 5 + 1, 0, none⟩) (n + 3) c3)) = W3 at *
      have hX4 := hX3s
      obtain ⟨⟨x0, x1, x2, x3, x4⟩, xf⟩ := hX4
      obtain ⟨i68, hi68, hz0, hz1, hz2⟩ := info_parts info68
      have hHW : w.heap.size ≠ WB := by omega
      have hownA : ∀ o : Obj, (W3.alloc o).drew.ownsRow base 83 5 (.slice pl N cl) N xs := fun o => by
        refine hown3.kept (grownBy_of_below none (((Below.refl W3.heap.size W3).alloc (Nat.le_refl _) o).drew)) ?_
        cases pl with
        | none => exact .inl rfl
        | some a => exact .inr (by simp [Value.ownBlock])
      have hbase1 : base ≤ w.heap.size := by omega
      have hblk : ∀ cs : Array Value, (W3.alloc (Obj.cells cs 83)).drew.heap[w.heap.size + 7]? = some (Obj.cells cs 83 (0, 0)) := fun cs => by
        rw [← hs3s]
        exact heap_alloc_new W3 _
      have HOWNA := (show Hid _ from hownA)
      have HBLK := (show Hid _ from hblk)
      have hrne : some WB ≠ (Value.slice pl N cl).ownBlock := by
        rcases hown.2 with ⟨h1, _⟩ | ⟨gl, cap, cur, h1, _, h2, _⟩
        · cases h1
          simp [Value.ownBlock]
        · cases h1
          intro e
          have e2 : WB = gl := by simpa [Value.ownBlock] using e
          subst e2
          rw [hwb] at h2
          cases h2
      have hfz3 : W3.frozen? ⟨WB, 2, none⟩ = false := by
        refine (hwr3s.frozen (p := ⟨WB, 2, none⟩) hWB).trans ?_
        refine (World.frozen?_of_block (hgr.block WB hWB ?_)).trans hclf
        intro e
        cases p with
        | none => simp [Value.ownBlock] at e
        | some a =>
          have : WB = a.block := by simpa [Value.ownBlock] using e
          exact hne a rfl this.symm
      have hst : ∀ (o : Obj) (w9 : World), (W3.alloc o).drew.grownBy w9 (Value.slice pl N cl).ownBlock → w9.cell? ⟨WB, 2, none⟩ = some (.slice pl N cl) ∧ w9.frozen? ⟨WB, 2, none⟩ = false := by
        intro o w9 hg
        have hbb := ((Below.refl W3.heap.size W3).alloc (Nat.le_refl _) o).drew
        have hlt : WB < W3.heap.size := by omega
        have hlt2 : WB < (W3.alloc o).drew.heap.size := by simp; omega
        exact ⟨(hg.cell_far ⟨WB, 2, none⟩ hlt2 hrne).trans ((hbb.cell (p := ⟨WB, 2, none⟩) hlt).trans hcl3), (hg.frozen_far ⟨WB, 2, none⟩ hlt2 hrne).trans ((hbb.frozen (p := ⟨WB, 2, none⟩) hlt).trans hfz3)⟩
      have hWB3 : WB < w.heap.size + 7 := by omega
      have HST := (show Hid _ from hst)
      have HOWN := (show Hid _ from hown)
      have HENT := (show Hid _ from hent0)
      have HOWN3 := (show Hid _ from hown3)
      have HWB3 : Hid (W3.heap[WB]? = some (Obj.cells #[d, s, .slice pl N cl] 53 (0, 0))) := by
        refine (hwr3s.block WB hWB).trans ((hgr.block WB hWB ?_).trans hwb)
        intro e
        cases p with
        | none => simp [Value.ownBlock] at e
        | some a =>
          have : WB = a.block := by simpa [Value.ownBlock] using e
          exact hne a rfl this.symm
      clear hownA hblk hown hown3 hent hst hent0
      go_region_law (refine step_append_lies _ rfl (.tmp 66) (.tmp 68) 49 rfl base 83 i68 _ 5 104 Tryz.underlying49 hi68 hz0 hz1 hz2 rfl (by omega) (.slice pl N cl) N xs rfl (HOWNA.out _) ⟨w.heap.size + 7, 0, none⟩ 1 1 [.slice p n n, .slice (some ⟨w.heap.size + 1 + 1, 0, none⟩) (n + 1) c1, .slice (some ⟨w.heap.size + 3 + 1, 0, none⟩) (n + 2) c2, .slice (some ⟨w.heap.size + 5 + 1, 0, none⟩) (n + 3) c3, .int .i64 (N : Int)] rfl rfl (World.news_of_block (HBLK.out _)) (by intro u hu; simp at hu; rcases hu with rfl | rfl | rfl | rfl | rfl <;> rfl) (by omega) (by unfold maxLen; omega) (by omega) (by simp; omega) (w.heap.size + 8) (by simp [hs3s]) ?_; intro g9 c9 w9 hown9 hgrow9 hat9 hlt9; obtain ⟨yc, yf⟩ := HST.out _ w9 hgrow9)
      all_goals
        go_wp2
        go_end0
        have hend := keep_end base WB N n p xs d s w0 w wr W3 w9 _ pl cl g9 c9 c1 c2 c3 (by omega) hbase hWB0.2 hb0 hne0 hgr hsz hwr3s hs3s HWB3.out HOWN3.out hgrow9 hown9 HENT.out l hF hFk hO13s hO23s hO3s
        have hfar := keep_far base WB N n p xs d s w0 w wr W3 w9 _ pl cl g9 c9 hWB0.2 hb0 hgr hwr3s hs3s HWB3.out HOWN3.out hgrow9 x HX0.out HX1.out HXP.out HX5.out
        exact ⟨rfl, fun w2 hw2 => keep_end2 base WB N n p xs d s w0 w wr W3 w9 _ pl cl g9 c9 c1 c2 c3 hn hbase hWB0.2 hb0 hne0 hgr hsz hwr3s hs3s HWB3.out HOWN3.out hgrow9 hown9 HENT.out l hF hFk hO13s hO23s hO3s x w2 HX0.out HX1.out HXP.out HX5.out hw2, hend.2.1, hend.2.2.1, hfar⟩
end Go.Proofs.YtloaefcgcniacaaGreatDoor
