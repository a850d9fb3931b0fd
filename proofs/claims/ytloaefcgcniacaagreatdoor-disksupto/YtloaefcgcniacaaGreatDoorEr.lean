import Derived.Test.YtloaefcgcniacaaGreatDoorEq
import Derived.Test.YtloaefcgcniacaaGreatDoorEs
import Derived.Test.YtloaefcgcniacaaGreatDoorCut
import Derived.Deep.AppendLies
import Derived.Test.YtloaefcgcniacaaGreatDoorBf
import Derived.Lib.SlBytesConst
namespace Go.Proofs.YtloaefcgcniacaaGreatDoor
open Go.RowKit
set_option linter.unusedVariables false

theorem Cel.keepG {w w' : World} {k g : Nat} {t t' : TypeId} {cs cs' : Array Value} (h : Cel w k t cs) (hs : Cel w g t' cs') (hc : Chg w w' (fun k => k = g)) (ht : t ≠ t') : Cel w' k t cs := Cel.chg h hc (fun e => Cel.ne_of h hs ht e)
theorem meet {X A : Prop} (h : X → A) (x : X) : A := h x
theorem held_two {P : Program} {Q : Exit → Act → World → Prop} {S : World → Prop} {md : Region.Mode} {l : List Oper} {i j : Nat} {oi oj : Oper} {fuel : Nat} {listed : Array Bool} {a : Act} {w : World} (hi : l[i]? = some oi) (hj : l[j]? = some oj) (hr : Region.ready md l.toArray listed = [i, j])
    (h : ∀ K' : Act → World → Prop, Shut (∀ a w, S w → (S w → wpAnyH P md l.toArray Q S fuel (listed.setIfInBounds i true) a w) → K' a w) → if Region.wanted oi (yielded l.toArray a.tmps) = true then Oper.wp P oi a w K' Q else K' (a.put oi.dst undef) w)
    (h' : ∀ K' : Act → World → Prop, Shut (∀ a w, S w → (S w → wpAnyH P md l.toArray Q S fuel (listed.setIfInBounds j true) a w) → K' a w) → if Region.wanted oj (yielded l.toArray a.tmps) = true then Oper.wp P oj a w K' Q else K' (a.put oj.dst undef) w) :
    wpAnyH P md l.toArray Q S (fuel + 1) listed a w :=
  wpAnyH_ready hr (by simp) (AllReadyH.cons (by simpa using hi) h (AllReadyH.cons (by simpa using hj) h' AllReadyH.nil))

set_option maxHeartbeats 400000 in
theorem lnumber_any (c : Int) (w : World) (hc : fits c) : Calls Tryz.prog 143 #[.int .i64 c] w fun e w' => e = .returned (.int .i64 (pickN c 4294967296 : Nat)) ∧ w' = w := by
  have hp := pick_any c 4294967296 w (by omega) hc (by omega)
  go_enter Tryz.func143, Tryz.ntmps143
  go_wp2_with fail
  refine hp.mono ?_
  rintro e w' ⟨rfl, hw'⟩
  have hw2 := hw'.symm
  clear hw'
  subst hw2
  go_wp2
  go_ret
  exact ⟨rfl, rfl⟩

/-- A new disk, and the document's. -/
def newPl (x h r g gz Z : Nat) (S C : Int) (B : ByteArray) (L : Int) : Pl := ⟨x, h, r, g, gz, Z, S, C, B, L, [], 0, 0⟩

theorem newPl_at {w : World} {base x h r g gz Z : Nat} {S C L : Int} {B : ByteArray} {bd : Value} {zs : List (Value × Int)} (F : Nat → Prop) (h1 : DkAt w x g) (h2 : HdAt w h g) (h3 : StAt w g S L 0 0 (.slice (some ⟨gz, 0, none⟩) Z Z) C bd (.slice none 0 0)) (h4 : ZAt w gz zs) (h5 : RefAt w r Z S C B L (.slice none 0 0) 0 0) (hb : BytesV w bd (sbytes B)) (hz : zs.length = Z)
    (hzs : ∀ (i : Nat) (c : Value × Int), zs[i]? = some c → c.2 = 0 ∧ RowG w base F c.1 []) (ha : ∀ (i j : Nat) (c d : Value × Int) (k : Nat), i ≠ j → zs[i]? = some c → zs[j]? = some d → c.1.ownBlock = some k → d.1.ownBlock ≠ some k)
    (f0 : F x ∧ F h ∧ F r ∧ F g ∧ F gz) (f2 : ∀ k, bd.ownBlock = some k → F k) (f4 : ∀ (i : Nat) (c : Value × Int) (k : Nat), zs[i]? = some c → c.1.ownBlock = some k → F k) (ok : ∀ k, F k → base ≤ k ∧ OkT w k) :
    PlateAt w base F (newPl x h r g gz Z S C B L) := by
  refine ⟨.slice none 0 0, bd, .slice none 0 0, zs, ⟨h1, h2, by rw [hz]; exact h3, hb, RowG.nil _ _ _, h4, hz, fun i c hi => ⟨(hzs i c hi).2, (hzs i c hi).1⟩, (fun i c k hi hk e => by cases e), ha, ⟨f0.1, f0.2.1, f0.2.2.2.1, f0.2.2.2.2⟩, f2, (fun k hk => by cases hk), f4, ok⟩, ⟨h5, World.ownsRow_nil _ _ _ _, f0.2.2.1, (fun k hk => by cases hk)⟩⟩

theorem newPl_fine (x h r g gz Z : Nat) (S C : Int) (B : ByteArray) (L : Int) (n : Nat) (hZ : Z ≤ 69) (hC : 0 ≤ C ∧ C ≤ 4294967295) (hB : B.size ≤ 2000000) (hL : fits L) : Fine (newPl x h r g gz Z S C B L) n :=
  ⟨⟨by show (0 : Int) ≤ 0; omega, by show (0 : Int) ≤ n; omega⟩, ⟨by show (0 : Int) ≤ 0; omega, by show (0 : Int) ≤ n; omega⟩, Nat.zero_le _, hL, hC, hC.2, hZ, hB, fun c hc => by cases hc⟩

set_option maxRecDepth 20000 in
set_option maxHeartbeats 1000000 in
theorem made_any (base base2 WB N n : Nat) (qs : List Pl) (F : Nat → Nat → Prop) (dV sV : Value) (a b c d e0 : Int) (s : ByteArray) (w : World) (h : Wd w base base2 WB N n qs F dV sV) (hn : n < 800000) (hN : N < 1000000) (hs : s.size ≤ 2000000) (ha : fits a) (hc : fits c) (hd : fits d) :
    Calls Tryz.prog 90 #[.pointer (some ⟨WB, 0, none⟩), .agg #[.int .i64 4, .int .i64 a, .int .i64 b, .int .i64 c, .int .i64 d, .int .i64 e0, .string s]] w fun e w' => e = .returned (.bool true) ∧ Stepped w w' base base2 WB N n := by
  obtain ⟨pd, capd, rfl⟩ := h.form
  obtain ⟨ip, hip, hpz0, hpz1, hpz2⟩ := info_parts infoP
  have HW := (show Hid _ from h)
  have hb0 : Below w.heap.size w (w.alloc (Obj.cells (opC 4 a b c d e0 s) 56)) := (Below.refl _ _).alloc (Nat.le_refl _) _
  have hp0 : Cel (w.alloc (Obj.cells (opC 4 a b c d e0 s) 56)) w.heap.size 56 (opC 4 a b c d e0 s) := Cel.new _ _ _
  have hz0 : (w.alloc (Obj.cells (opC 4 a b c d e0 s) 56)).heap.size = w.heap.size + 1 := by simp
  have HPK : Hid (∀ w, Calls Tryz.prog 91 #[.int .i64 a, .int .i64 70] w fun e w' => e = .returned (.int .i64 (pickN a 70 : Nat)) ∧ w' = w) := fun w => pick_any a 70 w (by omega) ha (by omega)
  have HNM : Hid (∀ w, Calls Tryz.prog 143 #[.int .i64 c] w fun e w' => e = .returned (.int .i64 (pickN c 4294967296 : Nat)) ∧ w' = w) := fun w => lnumber_any c w hc
  have hZ : pickN a 70 ≤ 69 := by have := pickN_lt a 70 (by omega); omega
  have hC : Hid (pickN c 4294967296 < 4294967296) := pickN_lt c _ (by omega)
  have HD := (show Hid _ from hd)
  generalize pickN a 70 = Z at *
  generalize pickN c 4294967296 = C at *
  obtain ⟨o0, o1, o2, o3, o4, o5, o6⟩ := hp0.op
  have HP0 := (show Hid _ from hp0)
  clear hp0 h ha hc hd
  simp only [opC] at *
  go_enter Tryz.func90, Tryz.ntmps90
  go_wp2_with fail
  generalize (w.alloc (Obj.cells #[.int .i64 4, .int .i64 a, .int .i64 b, .int .i64 c, .int .i64 d, .int .i64 e0, .string s] 56)) = W0 at *
  refine (HPK.out _).mono ?_
  rintro e w' ⟨rfl, hw'⟩
  have hw2 := hw'.symm
  clear hw'
  subst hw2
  go_wp2_with fail
  refine (newDisk_any Z b _ (by omega)).mono ?_
  rintro e w1 ⟨x, h, g, gz, rfl, hDk, hHd, hSt, hZz, hx, hh, hg, hgz, hb1⟩
  have hp1 : Cel w1 w.heap.size 56 (opC 4 a b c d e0 s) := Cel.below HP0.out hb1 (by omega)
  clear o0 o1 o2 o3 o4 o5 o6
  obtain ⟨o0, o1, o2, o3, o4, o5, o6⟩ := hp1.op
  go_wp2_with fail
  have hbR : Below w1.heap.size w1 (w1.alloc (Obj.cells #[.int .i64 (Z : Int), .int .i64 b, .int .i64 0, .string ByteArray.empty, .int .i64 (-1), .slice none 0 0, .int .i64 0, .int .i64 0] 206)) := (Below.refl _ _).alloc (Nat.le_refl _) _
  have hRf : RefAt (w1.alloc (Obj.cells #[.int .i64 (Z : Int), .int .i64 b, .int .i64 0, .string ByteArray.empty, .int .i64 (-1), .slice none 0 0, .int .i64 0, .int .i64 0] 206)) w1.heap.size Z b 0 ByteArray.empty (-1) (.slice none 0 0) 0 0 := Cel.new _ _ _
  have hzR : (w1.alloc (Obj.cells #[.int .i64 (Z : Int), .int .i64 b, .int .i64 0, .string ByteArray.empty, .int .i64 (-1), .slice none 0 0, .int .i64 0, .int .i64 0] 206)).heap.size = w1.heap.size + 1 := by simp
  simp only [show (ByteArray.mk #[] : ByteArray) = ByteArray.empty from rfl]
  generalize (w1.alloc (Obj.cells #[.int .i64 (Z : Int), .int .i64 b, .int .i64 0, .string ByteArray.empty, .int .i64 (-1), .slice none 0 0, .int .i64 0, .int .i64 0] 206)) = WR at *
  have hbP : Below WR.heap.size WR (WR.alloc (Obj.cells #[.pointer (some ⟨x, 0, none⟩), .pointer (some ⟨h, 0, none⟩), .pointer (some ⟨w1.heap.size, 0, none⟩)] 159)) := (Below.refl _ _).alloc (Nat.le_refl _) _
  have hPl : Cel (WR.alloc (Obj.cells #[.pointer (some ⟨x, 0, none⟩), .pointer (some ⟨h, 0, none⟩), .pointer (some ⟨w1.heap.size, 0, none⟩)] 159)) (w1.heap.size + 1) 159 #[.pointer (some ⟨x, 0, none⟩), .pointer (some ⟨h, 0, none⟩), .pointer (some ⟨w1.heap.size, 0, none⟩)] := by
    have := Cel.new WR 159 #[.pointer (some ⟨x, 0, none⟩), .pointer (some ⟨h, 0, none⟩), .pointer (some ⟨w1.heap.size, 0, none⟩)]
    rw [hzR] at this
    exact this
  have hzP : (WR.alloc (Obj.cells #[.pointer (some ⟨x, 0, none⟩), .pointer (some ⟨h, 0, none⟩), .pointer (some ⟨w1.heap.size, 0, none⟩)] 159)).heap.size = w1.heap.size + 2 := by simp [hzR]
  generalize (WR.alloc (Obj.cells #[.pointer (some ⟨x, 0, none⟩), .pointer (some ⟨h, 0, none⟩), .pointer (some ⟨w1.heap.size, 0, none⟩)] 159)) = V at *
  have hb1V : Below w1.heap.size w1 V := hbR.trans (hbP.mono (by omega))
  have hRfV : RefAt V w1.heap.size Z b 0 ByteArray.empty (-1) (.slice none 0 0) 0 0 := Cel.below hRf hbP (Cel.lt hRf)
  have hDkV : DkAt V x g := Cel.below hDk hb1V (Cel.lt hDk)
  have hHdV : HdAt V h g := Cel.below hHd hb1V (Cel.lt hHd)
  have hStV : StAt V g b (-1) 0 0 (.slice (some ⟨gz, 0, none⟩) Z Z) 0 (.slice none 0 0) (.slice none 0 0) := Cel.below hSt hb1V (Cel.lt hSt)
  have hZzV : ZAt V gz (List.replicate Z (.slice none 0 0, 0)) := Cel.below hZz hb1V (Cel.lt hZz)
  have hopV : Cel V w.heap.size 56 (opC 4 a b c d e0 s) := Cel.below hp1 hb1V (Cel.lt hp1)
  have hbase := HW.out.b2
  have hzW0 := hb1.size
  have hrep : ∀ (i : Nat) (c : Value × Int), (List.replicate Z ((.slice none 0 0, 0) : Value × Int))[i]? = some c → c = (.slice none 0 0, 0) := fun i c hi => by
    rw [List.getElem?_replicate] at hi
    split at hi
    · cases hi; rfl
    · cases hi
  have hpl0 : PlateAt V base2 (fun k => k = x ∨ k = h ∨ k = w1.heap.size ∨ k = g ∨ k = gz) (newPl x h w1.heap.size g gz Z b 0 ByteArray.empty (-1)) := by
    refine newPl_at _ hDkV hHdV hStV hZzV hRfV (.inl ⟨rfl, rfl⟩) (by simp) (fun i c hi => by rw [hrep i c hi]; exact ⟨rfl, RowG.nil _ _ _⟩) (fun i j c d k _ hi hj hk => by rw [hrep i c hi] at hk; cases hk) ⟨.inl rfl, .inr (.inl rfl), .inr (.inr (.inl rfl)), .inr (.inr (.inr (.inl rfl))), .inr (.inr (.inr (.inr rfl)))⟩ (fun k hk => by cases hk) (fun i c k hi hk => by rw [hrep i c hi] at hk; cases hk) (fun k hk => ?_)
    rcases hk with rfl | rfl | rfl | rfl | rfl
    · exact ⟨by omega, Cel.okT hDkV (by decide) (by decide)⟩
    · exact ⟨by omega, Cel.okT hHdV (by decide) (by decide)⟩
    · exact ⟨by omega, Cel.okT hRfV (by decide) (by decide)⟩
    · exact ⟨by omega, Cel.okT hStV (by decide) (by decide)⟩
    · exact ⟨by omega, Cel.okT hZzV (by decide) (by decide)⟩
  clear hp1 hDk hHd hSt hZz hbR hRf hbP o0 o1 o2 o3 o4 o5 o6
  refine (same_any (newPl x h w1.heap.size g gz Z b 0 ByteArray.empty (-1)) 0 base2 _ V hpl0 (newPl_fine _ _ _ _ _ _ _ _ _ _ _ hZ ⟨by omega, by omega⟩ empty_small ⟨by omega, by omega⟩) (by omega)).mono ?_
  rintro e w3 ⟨rfl, hb3⟩
  clear hpl0
  have hRf3 : RefAt w3 w1.heap.size Z b 0 ByteArray.empty (-1) (.slice none 0 0) 0 0 := Cel.below hRfV hb3 (Cel.lt hRfV)
  have hDk3 : DkAt w3 x g := Cel.below hDkV hb3 (Cel.lt hDkV)
  have hHd3 : HdAt w3 h g := Cel.below hHdV hb3 (Cel.lt hHdV)
  have hSt3 : StAt w3 g b (-1) 0 0 (.slice (some ⟨gz, 0, none⟩) Z Z) 0 (.slice none 0 0) (.slice none 0 0) := Cel.below hStV hb3 (Cel.lt hStV)
  have hZz3 : ZAt w3 gz (List.replicate Z (.slice none 0 0, 0)) := Cel.below hZzV hb3 (Cel.lt hZzV)
  have hop3 : Cel w3 w.heap.size 56 (opC 4 a b c d e0 s) := Cel.below hopV hb3 (Cel.lt hopV)
  have hPl3 := hPl.below hb3 hPl.lt
  have hbw3 : Below w.heap.size w w3 := hb0.trans ((hb1.trans ((hb1V.trans (hb3.mono (by omega))).mono (by omega))).mono (by omega))
  clear hRfV hDkV hHdV hStV hZzV hopV hPl hb1V
  obtain ⟨o0, o1, o2, o3, o4, o5, o6⟩ := hop3.op
  go_wp2_with fail
  have HO : Hid (∀ w', Below w3.drew.heap.size w3.drew w' → w'.cell? ⟨w.heap.size, 3, none⟩ = some (.int .i64 c) ∧ w'.cell? ⟨w.heap.size, 6, none⟩ = some (.string s)) := fun w' hb => by
    have h1 : Cel w' w.heap.size 56 (opC 4 a b c d e0 s) := Cel.below (w := w3.drew) hop3 hb (Cel.lt hop3)
    exact ⟨h1.op.2.2.2.1, h1.op.2.2.2.2.2.2⟩
  have hHeld : w3.drew.cell? ⟨w.heap.size, 3, none⟩ = some (.int .i64 c) ∧ w3.drew.cell? ⟨w.heap.size, 6, none⟩ = some (.string s) := ⟨o3, o6⟩
  have hby := run_bytes s w3.drew
  have hb4 : Below w3.drew.heap.size w3.drew (Lib.bytesWorld w3.drew 5 s) := bytes_below s w3.drew
  have hrd4 := bytes_rd s w3.drew
  have hz4 : (Lib.bytesWorld w3.drew 5 s).heap.size = w3.heap.size + 1 := Lib.bytesWorld_size _ _ _
  generalize Lib.bytesWorld w3.drew 5 s = W4 at *
  generalize grownCap w3.drew s.size 0 5 = cp at *
  have hHeld4 := HO.out W4 hb4
  refine wp_region_cut_held (S := fun w' => w'.cell? ⟨w.heap.size, 3, none⟩ = some (.int .i64 c) ∧ w'.cell? ⟨w.heap.size, 6, none⟩ = some (.string s)) 8 (by kernel_rfl) (by decide) (by kernel_rfl) (by kernel_rfl) (by kernel_rfl) (by kernel_rfl) ?_
  simp only [List.take_succ_cons, List.take_zero, List.drop_succ_cons, List.drop_zero]
  refine held_take (i := 0) (v := ?va0) rfl (by kernel_rfl) (by kernel_rfl) (by kernel_rfl) (fun _ _ _ h => h) (Or.inl ⟨by rfl, ?hya0⟩) hHeld ?resta0
  case hya0 => (intro w' hSw; (try dsimp only at hSw); go_simp; try with_reducible rfl)
  simp only [Act.put, List.setIfInBounds_toArray, List.set_cons_zero, List.set_cons_succ]
  refine held_take (i := 1) (v := ?va1) rfl (by kernel_rfl) (by kernel_rfl) (by kernel_rfl) (fun _ _ _ h => h) (Or.inl ⟨by rfl, ?hya1⟩) hHeld ?resta1
  case hya1 => (intro w' hSw; (try dsimp only at hSw); go_simp; try with_reducible rfl)
  simp only [Act.put, List.setIfInBounds_toArray, List.set_cons_zero, List.set_cons_succ]
  refine held_take (i := 2) (v := ?va2) rfl (by kernel_rfl) (by kernel_rfl) (by kernel_rfl) (fun _ _ _ h => h) (Or.inl ⟨by rfl, ?hya2⟩) hHeld ?resta2
  case hya2 => (intro w' hSw; (try dsimp only at hSw); go_simp; try with_reducible rfl)
  simp only [Act.put, List.setIfInBounds_toArray, List.set_cons_zero, List.set_cons_succ]
  refine held_take (i := 4) (v := ?va4) rfl (by kernel_rfl) (by kernel_rfl) (by kernel_rfl) (fun _ _ _ h => h) (Or.inl ⟨by rfl, ?hya4⟩) hHeld ?resta4
  case hya4 => (intro w' hSw; (try dsimp only at hSw); go_simp; try with_reducible rfl)
  simp only [Act.put, List.setIfInBounds_toArray, List.set_cons_zero, List.set_cons_succ]
  refine held_take (i := 5) (v := ?va5) rfl (by kernel_rfl) (by kernel_rfl) (by kernel_rfl) (fun _ _ _ h => h) (Or.inl ⟨by rfl, ?hya5⟩) hHeld ?resta5
  case hya5 => (intro w' hSw; (try dsimp only at hSw); go_simp; try with_reducible rfl)
  simp only [Act.put, List.setIfInBounds_toArray, List.set_cons_zero, List.set_cons_succ]
  refine meet (X := ?X1) (fun hx => ?main1) ?go1
  case main1 =>
    refine held_two (i := 3) (j := 6) rfl rfl (by kernel_rfl) (fun K hK => ?_) (fun K hK => ?_)
    · go_simp
      refine (HNM.out _).mono ?_
      rintro e w' ⟨rfl, hw'⟩
      have hw2 := hw'.symm
      clear hw'
      subst hw2
      refine hK.out _ _ hHeld (fun _ => ?_)
      clear hK K
      refine held_one (i := 6) rfl (by kernel_rfl) (fun K hK => ?_)
      go_simp
      refine hK.out _ _ hHeld4 (fun _ => ?_)
      clear hK K
      exact hx
    · go_simp
      refine hK.out _ _ hHeld4 (fun _ => ?_)
      clear hK K
      refine held_one (i := 3) rfl (by kernel_rfl) (fun K hK => ?_)
      go_simp
      refine (HNM.out _).mono ?_
      rintro e w' ⟨rfl, hw'⟩
      have hw2 := hw'.symm
      clear hw'
      subst hw2
      refine hK.out _ _ hHeld4 (fun _ => ?_)
      clear hK K
      rw [Array.setIfInBounds_comm _ _ (by decide : (6 : Nat) ≠ 3)]
      exact hx
  clear hHeld
  refine held_take (i := 7) (v := ?va7) rfl (by kernel_rfl) (by kernel_rfl) (by kernel_rfl) (fun _ _ _ h => h) (Or.inl ⟨by rfl, ?hya7⟩) hHeld4 ?resta7
  case hya7 => (intro w' hSw; (try dsimp only at hSw); go_simp; try with_reducible rfl)
  simp only [Act.put, List.setIfInBounds_toArray, List.set_cons_zero, List.set_cons_succ]
  refine wpAnyH_done (by kernel_rfl) ?_ _
  show wpList Tryz.prog _ _ _ _ _
  have hb34 : Below w3.heap.size w3 W4 := ((Below.refl _ _).drew).trans hb4
  have hRf4 : RefAt W4 w1.heap.size Z b 0 ByteArray.empty (-1) (.slice none 0 0) 0 0 := Cel.below hRf3 hb34 (Cel.lt hRf3)
  have hDk4 : DkAt W4 x g := Cel.below hDk3 hb34 (Cel.lt hDk3)
  have hHd4 : HdAt W4 h g := Cel.below hHd3 hb34 (Cel.lt hHd3)
  have hSt4 : StAt W4 g b (-1) 0 0 (.slice (some ⟨gz, 0, none⟩) Z Z) 0 (.slice none 0 0) (.slice none 0 0) := Cel.below hSt3 hb34 (Cel.lt hSt3)
  have hZz4 : ZAt W4 gz (List.replicate Z (.slice none 0 0, 0)) := Cel.below hZz3 hb34 (Cel.lt hZz3)
  have hop4 : Cel W4 w.heap.size 56 (opC 4 a b c d e0 s) := Cel.below hop3 hb34 (Cel.lt hop3)
  have hPl4 := hPl3.below hb34 hPl3.lt
  have hbw4 : Below w.heap.size w W4 := hbw3.trans (hb34.mono hbw3.size)
  have hzx : w1.heap.size + 2 ≤ w3.heap.size := by have := hb3.size; omega
  have hsl := sbytes_length s
  have hrds : Rds W4 (some ⟨w3.heap.size, 0, none⟩) (sbytes s).length (sbytes s) := ⟨rfl, fun _ => ⟨w3.heap.size, 0, rfl, by omega, hrd4⟩⟩
  have hbind := hBind2 h g cp (some ⟨w3.heap.size, 0, none⟩) b (-1) 0 0 0 (C : Int) _ _ _ (sbytes s) W4 hHd4 hSt4 hrds (by rw [hsl]; exact hs)
  rw [hsl] at hbind
  have HBIND := (show Hid _ from hbind)
  clear hRf3 hDk3 hHd3 hSt3 hZz3 hop3 hPl3 hbind hrds hrd4 hby HO hHeld4 o0 o1 o2 o3 o4 o5 o6
  go_wp2_with fail
  refine Calls.mono HBIND.out ?_
  rintro e w5 ⟨rfl, ⟨gb, hgb, hBb5, hSt5⟩, hc5⟩
  have hRf5 : RefAt w5 w1.heap.size Z b 0 ByteArray.empty (-1) (.slice none 0 0) 0 0 := Cel.keepG hRf4 hSt4 hc5 (by decide)
  have hDk5 : DkAt w5 x g := Cel.keepG hDk4 hSt4 hc5 (by decide)
  have hHd5 : HdAt w5 h g := Cel.keepG hHd4 hSt4 hc5 (by decide)
  have hZz5 : ZAt w5 gz (List.replicate Z (.slice none 0 0, 0)) := Cel.keepG hZz4 hSt4 hc5 (by decide)
  have hop5 : Cel w5 w.heap.size 56 (opC 4 a b c d e0 s) := Cel.keepG hop4 hSt4 hc5 (by decide)
  have hPl5 := Cel.keepG hPl4 hSt4 hc5 (by decide)
  have hbw5 : Below w.heap.size w w5 := hbw4.trans (hc5.below (fun k hk => by omega) (by have := hbw4.size; omega))
  clear hRf4 hDk4 hHd4 hSt4 hZz4 hop4 hPl4 HBIND hbw4
  obtain ⟨o0, o1, o2, o3, o4, o5, o6⟩ := hop5.op
  go_wp2_with fail
  clear o0 o1 o2 o3 o4 o5 o6
  refine (hPower h g b (-1) 0 0 _ d _ _ _ w5 hHd5 hSt5).mono ?_
  rintro e w6 ⟨rfl, hSt6, hc6⟩
  have hRf6 : RefAt w6 w1.heap.size Z b 0 ByteArray.empty (-1) (.slice none 0 0) 0 0 := Cel.keepG hRf5 hSt5 hc6 (by decide)
  have hDk6 : DkAt w6 x g := Cel.keepG hDk5 hSt5 hc6 (by decide)
  have hHd6 : HdAt w6 h g := Cel.keepG hHd5 hSt5 hc6 (by decide)
  have hZz6 : ZAt w6 gz (List.replicate Z (.slice none 0 0, 0)) := Cel.keepG hZz5 hSt5 hc6 (by decide)
  have hop6 : Cel w6 w.heap.size 56 (opC 4 a b c d e0 s) := Cel.keepG hop5 hSt5 hc6 (by decide)
  have hPl6 := Cel.keepG hPl5 hSt5 hc6 (by decide)
  have hBb6 : Blk w6 gb (sbytes s) := Cel.keepG hBb5 hSt5 hc6 (by decide)
  have hbw6 : Below w.heap.size w w6 := hbw5.trans (hc6.below (fun k hk => by omega) (by have := hbw5.size; omega))
  clear hRf5 hDk5 hHd5 hSt5 hZz5 hop5 hPl5 hBb5 hbw5
  obtain ⟨o0, o1, o2, o3, o4, o5, o6⟩ := hop6.op
  have p2 := hPl6.cell 2
  simp only [List.getElem?_toArray, List.getElem?_cons_zero, List.getElem?_cons_succ] at p2
  obtain ⟨r0, r1, r2, r3, r4, r5, r6, r7, rf⟩ := hRf6.cells
  go_wp2_with fail
  have hHeld6 : w6.drew.cell? ⟨w1.heap.size + 1, 2, none⟩ = some (.pointer (some ⟨w1.heap.size, 0, none⟩)) ∧ w6.drew.cell? ⟨w.heap.size, 3, none⟩ = some (.int .i64 c) := ⟨p2, o3⟩
  refine wp_region_cut_held (S := fun w' => w'.cell? ⟨w1.heap.size + 1, 2, none⟩ = some (.pointer (some ⟨w1.heap.size, 0, none⟩)) ∧ w'.cell? ⟨w.heap.size, 3, none⟩ = some (.int .i64 c)) 5 (by kernel_rfl) (by decide) (by kernel_rfl) (by kernel_rfl) (by kernel_rfl) (by kernel_rfl) ?_
  simp only [List.take_succ_cons, List.take_zero, List.drop_succ_cons, List.drop_zero]
  refine held_take (i := 0) (v := ?vb0) rfl (by kernel_rfl) (by kernel_rfl) (by kernel_rfl) (fun _ _ _ h => h) (Or.inl ⟨by rfl, ?hyb0⟩) hHeld6 ?restb0
  case hyb0 => (intro w' hSw; (try dsimp only at hSw); go_simp; try with_reducible rfl)
  simp only [Act.put, List.setIfInBounds_toArray, List.set_cons_zero, List.set_cons_succ]
  refine held_take (i := 1) (v := ?vb1) rfl (by kernel_rfl) (by kernel_rfl) (by kernel_rfl) (fun _ _ _ h => h) (Or.inl ⟨by rfl, ?hyb1⟩) hHeld6 ?restb1
  case hyb1 => (intro w' hSw; (try dsimp only at hSw); go_simp; try with_reducible rfl)
  simp only [Act.put, List.setIfInBounds_toArray, List.set_cons_zero, List.set_cons_succ]
  refine held_take (i := 2) (v := ?vb2) rfl (by kernel_rfl) (by kernel_rfl) (by kernel_rfl) (fun _ _ _ h => h) (Or.inl ⟨by rfl, ?hyb2⟩) hHeld6 ?restb2
  case hyb2 => (intro w' hSw; (try dsimp only at hSw); go_simp; try with_reducible rfl)
  simp only [Act.put, List.setIfInBounds_toArray, List.set_cons_zero, List.set_cons_succ]
  refine held_take (i := 3) (v := ?vb3) rfl (by kernel_rfl) (by kernel_rfl) (by kernel_rfl) (fun _ _ _ h => h) (Or.inl ⟨by rfl, ?hyb3⟩) hHeld6 ?restb3
  case hyb3 => (intro w' hSw; (try dsimp only at hSw); go_simp; try with_reducible rfl)
  simp only [Act.put, List.setIfInBounds_toArray, List.set_cons_zero, List.set_cons_succ]
  refine held_one (i := 4) rfl (by kernel_rfl) (fun K hK => ?_)
  go_simp
  refine (HNM.out _).mono ?_
  rintro e w' ⟨rfl, hw'⟩
  have hw2 := hw'.symm
  clear hw'
  subst hw2
  refine hK.out _ _ hHeld6 (fun _ => ?_)
  clear hK K
  refine wpAnyH_done (by kernel_rfl) ?_ _
  show wpList Tryz.prog _ _ _ _ _
  have hne1 : w1.heap.size ≠ w.heap.size := by omega
  have hne2 : w1.heap.size ≠ w1.heap.size + 1 := by omega
  have hoR : Only w6.drew (((w6.setCell ⟨w1.heap.size, 2, none⟩ (.int .i64 (C : Int))).setCell ⟨w1.heap.size, 3, none⟩ (.string s)).setCell ⟨w1.heap.size, 4, none⟩ (.int .i64 d)).drew w1.heap.size := show Only w6.drew (((w6.drew.setCell ⟨w1.heap.size, 2, none⟩ (.int .i64 (C : Int))).setCell ⟨w1.heap.size, 3, none⟩ (.string s)).setCell ⟨w1.heap.size, 4, none⟩ (.int .i64 d)) _ from (((Only.refl _ _).set _ _).set _ _).set _ _
  have hRf7 : RefAt ((((w6.setCell ⟨w1.heap.size, 2, none⟩ (.int .i64 (C : Int))).setCell ⟨w1.heap.size, 3, none⟩ (.string s)).setCell ⟨w1.heap.size, 4, none⟩ (.int .i64 d)).drew) w1.heap.size Z b (C : Int) s d (.slice none 0 0) 0 0 := by
    have h1 : Cel w6.drew w1.heap.size 206 #[.int .i64 (Z : Int), .int .i64 b, .int .i64 0, .string ByteArray.empty, .int .i64 (-1), .slice none 0 0, .int .i64 0, .int .i64 0] := hRf6
    have := ((h1.set 2 (.int .i64 (C : Int))).set 3 (.string s)).set 4 (.int .i64 d)
    simp at this
    exact this
  have hc7 : Chg w6 ((((w6.setCell ⟨w1.heap.size, 2, none⟩ (.int .i64 (C : Int))).setCell ⟨w1.heap.size, 3, none⟩ (.string s)).setCell ⟨w1.heap.size, 4, none⟩ (.int .i64 d)).drew) (fun k => k = w1.heap.size) := ((Chg.refl w6 _).drew).trans (Chg.of_only hoR) (fun _ _ h => h)
  have hDk7 := Cel.keepG hDk6 hRf6 hc7 (by decide)
  have hHd7 := Cel.keepG hHd6 hRf6 hc7 (by decide)
  have hSt7 := Cel.keepG hSt6 hRf6 hc7 (by decide)
  have hZz7 := Cel.keepG hZz6 hRf6 hc7 (by decide)
  have hop7 := Cel.keepG hop6 hRf6 hc7 (by decide)
  have hPl7 := Cel.keepG hPl6 hRf6 hc7 (by decide)
  have hBb7 := Cel.keepG hBb6 hRf6 hc7 (by decide)
  have hbw7 : Below w.heap.size w ((((w6.setCell ⟨w1.heap.size, 2, none⟩ (.int .i64 (C : Int))).setCell ⟨w1.heap.size, 3, none⟩ (.string s)).setCell ⟨w1.heap.size, 4, none⟩ (.int .i64 d)).drew) := hbw6.trans (hc7.below (fun k hk => by omega) (by have := hbw6.size; omega))
  clear hHeld6 hoR
  by_cases hZp : 0 < Z
  · have hZpi : (0 : Int) < (Z : Int) := by omega
    have hby := run_bytes s ((((w6.setCell ⟨w1.heap.size, 2, none⟩ (.int .i64 (C : Int))).setCell ⟨w1.heap.size, 3, none⟩ (.string s)).setCell ⟨w1.heap.size, 4, none⟩ (.int .i64 d)).drew)
    have hb8 := bytes_below s ((((w6.setCell ⟨w1.heap.size, 2, none⟩ (.int .i64 (C : Int))).setCell ⟨w1.heap.size, 3, none⟩ (.string s)).setCell ⟨w1.heap.size, 4, none⟩ (.int .i64 d)).drew)
    have hrd8 := bytes_rd s ((((w6.setCell ⟨w1.heap.size, 2, none⟩ (.int .i64 (C : Int))).setCell ⟨w1.heap.size, 3, none⟩ (.string s)).setCell ⟨w1.heap.size, 4, none⟩ (.int .i64 d)).drew)
    have hz7 : ((((w6.setCell ⟨w1.heap.size, 2, none⟩ (.int .i64 (C : Int))).setCell ⟨w1.heap.size, 3, none⟩ (.string s)).setCell ⟨w1.heap.size, 4, none⟩ (.int .i64 d)).drew).heap.size = w6.heap.size := by simp
    have HZ8 : Hid ((Lib.bytesWorld ((((w6.setCell ⟨w1.heap.size, 2, none⟩ (.int .i64 (C : Int))).setCell ⟨w1.heap.size, 3, none⟩ (.string s)).setCell ⟨w1.heap.size, 4, none⟩ (.int .i64 d)).drew) 5 s).heap.size = w6.heap.size + 1) := (by show _ = _; rw [Lib.bytesWorld_size, hz7])
    rw [hz7] at hb8 hrd8
    generalize Lib.bytesWorld ((((w6.setCell ⟨w1.heap.size, 2, none⟩ (.int .i64 (C : Int))).setCell ⟨w1.heap.size, 3, none⟩ (.string s)).setCell ⟨w1.heap.size, 4, none⟩ (.int .i64 d)).drew) 5 s = W8 at *
    generalize grownCap ((((w6.setCell ⟨w1.heap.size, 2, none⟩ (.int .i64 (C : Int))).setCell ⟨w1.heap.size, 3, none⟩ (.string s)).setCell ⟨w1.heap.size, 4, none⟩ (.int .i64 d)).drew) s.size 0 5 = cp8 at *
    have kc := fun (w : World) (C : Array Value) (n c : Nat) => Lib.run_convert_bytes_const (P := Tryz.prog) w 66 5 C n c Tryz.underlying66 Tryz.underlying5
    go_wp2_with fail
    have hz8 := HZ8.out
    clear o0 o1 o2 o3 o4 o5 o6 r0 r1 r2 r3 r4 r5 r6 r7 rf p2 hby kc
    generalize ((((w6.setCell ⟨w1.heap.size, 2, none⟩ (.int .i64 (C : Int))).setCell ⟨w1.heap.size, 3, none⟩ (.string s)).setCell ⟨w1.heap.size, 4, none⟩ (.int .i64 d)).drew) = W7 at *
    have hbA : Below W8.heap.size W8 (W8.alloc (Obj.cells #[.int .u8 116, .int .u8 119, .int .u8 111] 5 (3, 4))) := (Below.refl _ _).alloc (Nat.le_refl _) _
    have hrdA : Rd (W8.alloc (Obj.cells #[.int .u8 116, .int .u8 119, .int .u8 111] 5 (3, 4))) W8.heap.size 0 [116, 119, 111] := alloc_rd W8 [116, 119, 111] (3, 4)
    have hzA : (W8.alloc (Obj.cells #[.int .u8 116, .int .u8 119, .int .u8 111] 5 (3, 4))).heap.size = W8.heap.size + 1 := by simp
    generalize (W8.alloc (Obj.cells #[.int .u8 116, .int .u8 119, .int .u8 111] 5 (3, 4))) = W9 at *
    have hbB : Below W9.heap.size W9 (W9.alloc (Obj.cells #[.slice (some ⟨w6.heap.size, 0, none⟩) s.size cp8, .slice (some ⟨W8.heap.size, 0, none⟩) 3 3] 66)) := (Below.refl _ _).alloc (Nat.le_refl _) _
    have hcB : Cel (W9.alloc (Obj.cells #[.slice (some ⟨w6.heap.size, 0, none⟩) s.size cp8, .slice (some ⟨W8.heap.size, 0, none⟩) 3 3] 66)) (W8.heap.size + 1) 66 #[.slice (some ⟨w6.heap.size, 0, none⟩) s.size cp8, .slice (some ⟨W8.heap.size, 0, none⟩) 3 3] := by
      have := Cel.new W9 66 #[.slice (some ⟨w6.heap.size, 0, none⟩) s.size cp8, .slice (some ⟨W8.heap.size, 0, none⟩) 3 3]
      rw [hzA] at this
      exact this
    have hzB : (W9.alloc (Obj.cells #[.slice (some ⟨w6.heap.size, 0, none⟩) s.size cp8, .slice (some ⟨W8.heap.size, 0, none⟩) 3 3] 66)).heap.size = W8.heap.size + 2 := by simp [hzA]
    generalize (W9.alloc (Obj.cells #[.slice (some ⟨w6.heap.size, 0, none⟩) s.size cp8, .slice (some ⟨W8.heap.size, 0, none⟩) 3 3] 66)) = W10 at *
    have hb710 : Below W7.heap.size W7 W10 := by
      have h1 : Below w6.heap.size W8 W10 := (hbA.trans (hbB.mono (by omega))).mono (by omega)
      rw [hz7]
      exact hb8.trans h1
    have hDkA : DkAt W10 x g := Cel.below hDk7 hb710 (Cel.lt hDk7)
    have hHdA : HdAt W10 h g := Cel.below hHd7 hb710 (Cel.lt hHd7)
    have hStA : StAt W10 g b d 0 0 (.slice (some ⟨gz, 0, none⟩) Z Z) C (.slice (some ⟨gb, 0, none⟩) s.size s.size) (.slice none 0 0) := Cel.below hSt7 hb710 (Cel.lt hSt7)
    have hZzA : ZAt W10 gz (List.replicate Z (.slice none 0 0, 0)) := Cel.below hZz7 hb710 (Cel.lt hZz7)
    have hopA : Cel W10 w.heap.size 56 (opC 4 a b c d e0 s) := Cel.below hop7 hb710 (Cel.lt hop7)
    have hPlA := Cel.below hPl7 hb710 (Cel.lt hPl7)
    have hBbA : Blk W10 gb (sbytes s) := Cel.below hBb7 hb710 (Cel.lt hBb7)
    have hRfA : RefAt W10 w1.heap.size Z b (C : Int) s d (.slice none 0 0) 0 0 := Cel.below hRf7 hb710 (Cel.lt hRf7)
    have hbwA : Below w.heap.size w W10 := hbw7.trans (hb710.mono hbw7.size)
    have hrowA : RowR W10 (.slice (some ⟨W8.heap.size + 1, 0, none⟩) 2 2) [sbytes s, [116, 119, 111]] := by
      refine ⟨_, _, rfl, fun i l hi => ?_⟩
      have hlt := hcB.lt
      match i, hi with
      | 0, hi =>
        cases hi
        refine ⟨W8.heap.size + 1, some ⟨w6.heap.size, 0, none⟩, cp8, rfl, hlt, by rw [hsl]; exact hcB.cell 0, rfl, fun _ => ⟨w6.heap.size, 0, rfl, by omega, ?_⟩⟩
        exact (hrd8.below (hbA.trans (hbB.mono (by omega))) (by omega))
      | 1, hi =>
        cases hi
        exact ⟨W8.heap.size + 1, some ⟨W8.heap.size, 0, none⟩, 3, rfl, hlt, hcB.cell 1, rfl, fun _ => ⟨W8.heap.size, 0, rfl, by omega, hrdA.below hbB (by omega)⟩⟩
      | i + 2, hi => simp at hi
    have hrl : (List.replicate Z ((.slice none 0 0, 0) : Value × Int)).length = Z := List.length_replicate
    have hz00 : (List.replicate Z ((.slice none 0 0, 0) : Value × Int))[0]? = some (.slice none 0 0, 0) := by rw [List.getElem?_replicate, if_pos hZp]
    clear hDk7 hHd7 hSt7 hZz7 hop7 hPl7 hBb7 hRf7 hbA hbB hcB hrdA hrd8 hb8
    refine (hLay2 h g gz 0 b d 0 0 C _ _ (List.replicate Z (.slice none 0 0, 0)) _ _ 1 [sbytes s, [116, 119, 111]] W10 hHdA (by rw [hrl]; exact hStA) hZzA hz00 hrowA (by intro l hl; rcases List.mem_cons.1 hl with h' | h'; (rw [h', hsl]; exact hs); (rw [List.mem_singleton.1 h']; decide)) (show 2 < 1000000 by omega)).mono ?_
    rintro e w11 ⟨rfl, hc11, v11, hZz11, hrow11⟩
    have hDk11 : DkAt w11 x g := Cel.keepG hDkA hZzA hc11 (by decide)
    have hHd11 : HdAt w11 h g := Cel.keepG hHdA hZzA hc11 (by decide)
    have hSt11 : StAt w11 g b d 0 0 (.slice (some ⟨gz, 0, none⟩) Z Z) C (.slice (some ⟨gb, 0, none⟩) s.size s.size) (.slice none 0 0) := Cel.keepG hStA hZzA hc11 (by decide)
    have hop11 : Cel w11 w.heap.size 56 (opC 4 a b c d e0 s) := Cel.keepG hopA hZzA hc11 (by decide)
    have hPl11 := Cel.keepG hPlA hZzA hc11 (by decide)
    have hBb11 : Blk w11 gb (sbytes s) := Cel.keepG hBbA hZzA hc11 (by decide)
    have hRf11 : RefAt w11 w1.heap.size Z b (C : Int) s d (.slice none 0 0) 0 0 := Cel.keepG hRfA hZzA hc11 (by decide)
    have hbw11 : Below w.heap.size w w11 := hbwA.trans (hc11.below (fun k hk => by omega) (by have := hbwA.size; omega))
    have hz11 := hc11.size
    clear hDkA hHdA hStA hZzA hopA hPlA hBbA hRfA hrowA hz00 hbwA
    go_wp2_with fail
    have hz11l : ((List.replicate Z ((.slice none 0 0, 0) : Value × Int)).set 0 (v11, 1)).length = Z := by rw [List.length_set]; exact hrl
    have hz110 : ((List.replicate Z ((.slice none 0 0, 0) : Value × Int)).set 0 (v11, 1))[0]? = some (v11, 1) := List.getElem?_set_self (by rw [hrl]; exact hZp)
    have hsz2 : ∀ l ∈ [sbytes s, [116, 119, 111]], l.length ≤ 2000000 := by intro l hl; rcases List.mem_cons.1 hl with h' | h'; (rw [h', hsl]; exact hs); (rw [List.mem_singleton.1 h']; decide)
    refine (hZone_in W10.heap.size h g gz 0 b d 0 0 C _ _ _ v11 1 [sbytes s, [116, 119, 111]] w11 hHd11 (by rw [hz11l]; exact hSt11) hZz11 hz110 hrow11 hsz2 (show 2 < 1000000 by omega)).mono ?_
    rintro e w12 ⟨v12, rfl, hrow12, hb12⟩
    obtain ⟨py, cy, hvy⟩ := hrow12.form
    subst hvy
    have hAA : Below w12.heap.size w12 (w12.alloc (Obj.cells #[.slice py 2 cy, .int .i64 1] 111)) := (Below.refl _ _).alloc (Nat.le_refl _) _
    have hY : Cel (w12.alloc (Obj.cells #[.slice py 2 cy, .int .i64 1] 111)) w12.heap.size 111 #[.slice py 2 cy, .int .i64 1] := Cel.new _ _ _
    have hb1113 : Below w11.heap.size w11 (w12.alloc (Obj.cells #[.slice py 2 cy, .int .i64 1] 111)) := hb12.trans (hAA.mono hb12.size)
    have hrow13 : RowB (w12.alloc (Obj.cells #[.slice py 2 cy, .int .i64 1] 111)) w11.heap.size (.slice py 2 cy) [sbytes s, [116, 119, 111]] := hrow12.chg (Chg.of_below hAA (fun _ => False)) (fun _ h => h.elim) (fun _ _ h => h)
    have hop13 : Cel (w12.alloc (Obj.cells #[.slice py 2 cy, .int .i64 1] 111)) w.heap.size 56 (opC 4 a b c d e0 s) := Cel.below hop11 hb1113 (Cel.lt hop11)
    obtain ⟨gr, g0, rfl, hgr, hcr0, _, hBr0⟩ := RowB.cell hrow13 0 _ rfl
    obtain ⟨gr', g1, hgre, hgr1, hcr1, _, hBr1⟩ := RowB.cell hrow13 1 _ rfl
    cases hgre
    have y0 := hY.cell 0
    have y1 := hY.cell 1
    simp only [List.getElem?_toArray, List.getElem?_cons_zero, List.getElem?_cons_succ] at y0 y1
    obtain ⟨o0, o1, o2, o3, o4, o5, o6⟩ := hop13.op
    have hcr1' : (w12.alloc (Obj.cells #[.slice (some ⟨gr, 0, none⟩) 2 cy, .int .i64 1] 111)).cell? ⟨gr, 1, none⟩ = some (.slice (some ⟨g1, 0, none⟩) 3 3) := hcr1
    clear hrow12 hrow13 hAA hcr1
    go_wp2_with fail
    generalize (w12.alloc (Obj.cells #[.slice (some ⟨gr, 0, none⟩) 2 cy, .int .i64 1] 111)) = W13 at *
    have hst0 := run_sb W13.drew g0 s hBr0
    rw [hsl] at hst0 hcr0
    have htwo : bstr [116, 119, 111] = ⟨#[116, 119, 111]⟩ := by decide
    have hst1 := run_str W13.drew g1 0 3 3 [116, 119, 111] rfl hBr1.rd
    rw [htwo] at hst1
    clear htwo
    have hb1113d : Below w11.heap.size w11 W13.drew := hb1113.drew
    have hDk13 : DkAt W13.drew x g := Cel.below hDk11 hb1113d (Cel.lt hDk11)
    have hHd13 : HdAt W13.drew h g := Cel.below hHd11 hb1113d (Cel.lt hHd11)
    have hSt13 : StAt W13.drew g b d 0 0 (.slice (some ⟨gz, 0, none⟩) Z Z) C (.slice (some ⟨gb, 0, none⟩) s.size s.size) (.slice none 0 0) := Cel.below hSt11 hb1113d (Cel.lt hSt11)
    have hZz13 : ZAt W13.drew gz ((List.replicate Z ((.slice none 0 0, 0) : Value × Int)).set 0 (v11, 1)) := Cel.below hZz11 hb1113d (Cel.lt hZz11)
    have hPl13 := Cel.below hPl11 hb1113d (Cel.lt hPl11)
    have hBb13 : Blk W13.drew gb (sbytes s) := Cel.below hBb11 hb1113d (Cel.lt hBb11)
    have hRf13 : RefAt W13.drew w1.heap.size Z b (C : Int) s d (.slice none 0 0) 0 0 := Cel.below hRf11 hb1113d (Cel.lt hRf11)
    have hbw13 : Below w.heap.size w W13.drew := hbw11.trans (hb1113d.mono hbw11.size)
    clear hDk11 hHd11 hSt11 hZz11 hop11 hPl11 hBb11 hRf11 hop13
    go_still rfl
    clear o0 o1 o2 o3 o4 o5 o6 y0 y1 hst0 hst1 hcr0 hcr1'
    go_wp2_with fail
    refine (hLay2 h g gz 0 b d 0 0 C _ _ _ _ _ 0 [] W13.drew hHd13 (by rw [hz11l]; exact hSt13) hZz13 hz110 (RowR.nil _) (by intro l hl; cases hl) (show 0 < 1000000 by omega)).mono ?_
    rintro e w14 ⟨rfl, hc14, v14, hZz14, hrow14⟩
    rw [List.set_set] at hZz14
    have hDk14 : DkAt w14 x g := Cel.keepG hDk13 hZz13 hc14 (by decide)
    have hHd14 : HdAt w14 h g := Cel.keepG hHd13 hZz13 hc14 (by decide)
    have hSt14 : StAt w14 g b d 0 0 (.slice (some ⟨gz, 0, none⟩) Z Z) C (.slice (some ⟨gb, 0, none⟩) s.size s.size) (.slice none 0 0) := Cel.keepG hSt13 hZz13 hc14 (by decide)
    have hPl14 := Cel.keepG hPl13 hZz13 hc14 (by decide)
    have hBb14 : Blk w14 gb (sbytes s) := Cel.keepG hBb13 hZz13 hc14 (by decide)
    have hRf14 : RefAt w14 w1.heap.size Z b (C : Int) s d (.slice none 0 0) 0 0 := Cel.keepG hRf13 hZz13 hc14 (by decide)
    have hbw14 : Below w.heap.size w w14 := hbw13.trans (hc14.below (fun k hk => by omega) (by have := hbw13.size; omega))
    have hz14 := hc14.size
    have hz13 := hb1113d.size
    have hzw13 : w.heap.size ≤ W13.heap.size := hbw13.size
    clear hDk13 hHd13 hSt13 hZz13 hPl13 hBb13 hRf13 hbw13
    go_wp2_with fail
    have hplX : PlateAt w14 base2 (fun k => (k = x ∨ k = h ∨ k = w1.heap.size ∨ k = g ∨ k = gz) ∨ k = gb ∨ v14.ownBlock = some k) (newPl x h w1.heap.size g gz Z b C s d) := by
      rw [← hsl] at hSt14
      have hat : ∀ (i : Nat) (c : Value × Int), ((List.replicate Z ((.slice none 0 0, 0) : Value × Int)).set 0 (v14, 0))[i]? = some c → (i = 0 ∧ c = (v14, 0)) ∨ c = (.slice none 0 0, 0) := fun i c hi => by
        by_cases e : i = 0
        · subst e
          rw [List.getElem?_set_self (by rw [hrl]; exact hZp)] at hi
          cases hi
          exact .inl ⟨rfl, rfl⟩
        · rw [List.getElem?_set_ne (fun e' => e e'.symm)] at hi
          exact .inr (hrep i c hi)
      refine newPl_at _ hDk14 hHd14 hSt14 hZz14 hRf14 (.inr ⟨gb, rfl, hBb14⟩) (by rw [List.length_set]; exact hrl) (fun i c hi => ?_) (fun i j c c' k hij hi hj hk hk2 => ?_) ⟨.inl (.inl rfl), .inl (.inr (.inl rfl)), .inl (.inr (.inr (.inl rfl))), .inl (.inr (.inr (.inr (.inl rfl)))), .inl (.inr (.inr (.inr (.inr rfl))))⟩ (fun k hk => by cases hk; exact .inr (.inl rfl)) (fun i c k hi hk => ?_) (fun k hk => ?_)
      · rcases hat i c hi with ⟨_, rfl⟩ | rfl
        · obtain ⟨ys, hy, _⟩ := hrow14.mono (base' := base2) (by simp; omega)
          exact ⟨rfl, ys, hy, fun i l hi => by cases hi⟩
        · exact ⟨rfl, RowG.nil _ _ _⟩
      · rcases hat i c hi with ⟨e1, rfl⟩ | rfl
        · rcases hat j c' hj with ⟨e2, rfl⟩ | rfl
          · exact hij (e1.trans e2.symm)
          · cases hk2
        · cases hk
      · rcases hat i c hi with ⟨_, rfl⟩ | rfl
        · exact .inr (.inr hk)
        · cases hk
      · rcases hk with (rfl | rfl | rfl | rfl | rfl) | rfl | hk
        · exact ⟨by omega, Cel.okT hDk14 (by decide) (by decide)⟩
        · exact ⟨by omega, Cel.okT hHd14 (by decide) (by decide)⟩
        · exact ⟨by omega, Cel.okT hRf14 (by decide) (by decide)⟩
        · exact ⟨by omega, Cel.okT hSt14 (by decide) (by decide)⟩
        · exact ⟨by omega, Cel.okT hZz14 (by decide) (by decide)⟩
        · exact ⟨by omega, OkB.okT ⟨_, _, hBb14⟩⟩
        · obtain ⟨e1, e2, cur, e3⟩ := hrow14.own k hk
          exact ⟨by simp at e1; omega, ⟨_, _, _, e3, by decide, by decide⟩⟩
    have hF1X : ∀ k, ((k = x ∨ k = h ∨ k = w1.heap.size ∨ k = g ∨ k = gz) ∨ k = gb ∨ v14.ownBlock = some k) → w.heap.size ≤ k := fun k hk => by
      rcases hk with (rfl | rfl | rfl | rfl | rfl) | rfl | hk
      · omega
      · omega
      · omega
      · omega
      · omega
      · omega
      · have := (hrow14.own k hk).1
        simp at this
        omega
    have hfnX : Fine (newPl x h w1.heap.size g gz Z b C s d) (n + 1) := newPl_fine _ _ _ _ _ _ _ _ _ _ _ hZ ⟨by omega, by have := hC.out; omega⟩ hs HD.out
    have hbwX := hbw14
    have hPlX := hPl14
    clear hDk14 hHd14 hSt14 hZz14 hPl14 hBb14 hRf14 hbw14 hrow14
    have hWX := HW.out.down hbwX
    have HSX : Hid (∀ w', Below w14.drew.heap.size w14.drew w' → w'.cell? ⟨WB, 0, none⟩ = some (.slice pd qs.length capd) ∧ w'.cell? ⟨w1.heap.size + 1, 0, none⟩ = some (.pointer (some ⟨x, 0, none⟩)) ∧ w'.cell? ⟨w1.heap.size + 1, 1, none⟩ = some (.pointer (some ⟨h, 0, none⟩)) ∧ w'.cell? ⟨w1.heap.size + 1, 2, none⟩ = some (.pointer (some ⟨w1.heap.size, 0, none⟩))) := fun w' hb => by
      have h1 := (hWX.down ((Below.refl _ _).drew)).down hb
      have h2 : Cel w' (w1.heap.size + 1) 159 #[.pointer (some ⟨x, 0, none⟩), .pointer (some ⟨h, 0, none⟩), .pointer (some ⟨w1.heap.size, 0, none⟩)] := Cel.below (w := w14.drew) hPlX hb (Cel.lt hPlX)
      exact ⟨h1.cells.1, h2.cell 0, h2.cell 1, h2.cell 2⟩
    have HAX : Hid (∀ o : Obj, Below w14.drew.heap.size w14.drew (w14.drew.alloc o)) := fun o => (Below.refl _ _).alloc (Nat.le_refl _) _
    have hHX := HSX.out _ (Below.refl _ _)
    have HWB : Hid (w14.frozen? ⟨WB, 0, none⟩ = false) := hWX.cells.2
    have hzX := hbwX.size
    have hcntX := HW.out.cnt
    have HRW : Hid (∀ o : Obj, (w14.drew.alloc o).ownsRow base2 159 3 (.slice pd qs.length capd) qs.length (plCells qs)) := fun o => ((hWX.down ((Below.refl _ _).drew)).down (HAX.out o)).row
    have HBX : Hid (∀ cs : Array Value, (w14.drew.alloc (Obj.cells cs 159)).heap[w14.heap.size]? = some (Obj.cells cs 159 (0, 0))) := fun cs => heap_alloc_new w14.drew _
    have hb2X := HW.out.b2
    refine wp_region_cut_held (S := fun w' => w'.cell? ⟨WB, 0, none⟩ = some (.slice pd qs.length capd) ∧ w'.cell? ⟨w1.heap.size + 1, 0, none⟩ = some (.pointer (some ⟨x, 0, none⟩)) ∧ w'.cell? ⟨w1.heap.size + 1, 1, none⟩ = some (.pointer (some ⟨h, 0, none⟩)) ∧ w'.cell? ⟨w1.heap.size + 1, 2, none⟩ = some (.pointer (some ⟨w1.heap.size, 0, none⟩))) 8 (by kernel_rfl) (by decide) (by kernel_rfl) (by kernel_rfl) (by kernel_rfl) (by kernel_rfl) ?_
    simp only [List.take_succ_cons, List.take_zero, List.drop_succ_cons, List.drop_zero]
    refine held_take (i := 0) (v := ?vc0) rfl (by kernel_rfl) (by kernel_rfl) (by kernel_rfl) (fun _ _ _ h => h) (Or.inl ⟨by rfl, ?hyc0⟩) hHX ?restc0
    case hyc0 => (intro w' hSw; (try dsimp only at hSw); go_simp; try with_reducible rfl)
    simp only [Act.put, List.setIfInBounds_toArray, List.set_cons_zero, List.set_cons_succ]
    refine held_take (i := 1) (v := ?vc1) rfl (by kernel_rfl) (by kernel_rfl) (by kernel_rfl) (fun _ _ _ h => h) (Or.inl ⟨by rfl, ?hyc1⟩) hHX ?restc1
    case hyc1 => (intro w' hSw; (try dsimp only at hSw); go_simp; try with_reducible rfl)
    simp only [Act.put, List.setIfInBounds_toArray, List.set_cons_zero, List.set_cons_succ]
    refine held_take (i := 2) (v := ?vc2) rfl (by kernel_rfl) (by kernel_rfl) (by kernel_rfl) (fun _ _ _ h => h) (Or.inl ⟨by rfl, ?hyc2⟩) hHX ?restc2
    case hyc2 => (intro w' hSw; (try dsimp only at hSw); go_simp; try with_reducible rfl)
    simp only [Act.put, List.setIfInBounds_toArray, List.set_cons_zero, List.set_cons_succ]
    refine held_take (i := 3) (v := ?vc3) rfl (by kernel_rfl) (by kernel_rfl) (by kernel_rfl) (fun _ _ _ h => h) (Or.inl ⟨by rfl, ?hyc3⟩) hHX ?restc3
    case hyc3 => (intro w' hSw; (try dsimp only at hSw); go_simp; try with_reducible rfl)
    simp only [Act.put, List.setIfInBounds_toArray, List.set_cons_zero, List.set_cons_succ]
    refine held_take (i := 4) (v := ?vc4) rfl (by kernel_rfl) (by kernel_rfl) (by kernel_rfl) (fun _ _ _ h => h) (Or.inl ⟨by rfl, ?hyc4⟩) hHX ?restc4
    case hyc4 => (intro w' hSw; (try dsimp only at hSw); go_simp; try with_reducible rfl)
    simp only [Act.put, List.setIfInBounds_toArray, List.set_cons_zero, List.set_cons_succ]
    refine held_take (i := 5) (v := ?vc5) rfl (by kernel_rfl) (by kernel_rfl) (by kernel_rfl) (fun _ _ _ h => h) (Or.inl ⟨by rfl, ?hyc5⟩) hHX ?restc5
    case hyc5 => (intro w' hSw; (try dsimp only at hSw); go_simp; try with_reducible rfl)
    simp only [Act.put, List.setIfInBounds_toArray, List.set_cons_zero, List.set_cons_succ]
    refine held_one (i := 6) rfl (by kernel_rfl) (fun K hK => ?_)
    go_simp
    refine hK.out _ _ (HSX.out _ (HAX.out _)) (fun _ => ?_)
    clear hK K
    refine held_one (i := 7) rfl (by kernel_rfl) (fun K hK => ?_)
    refine step_append_lies _ rfl (.tmp 119) (.tmp 121) 47 rfl base2 159 ip _ 3 24 Tryz.underlying47 hip hpz0 hpz1 hpz2 rfl (by omega) (.slice pd qs.length capd) qs.length (plCells qs) rfl (HRW.out _) ⟨w14.heap.size, 0, none⟩ 1 1 [.pointer (some ⟨x, 0, none⟩), .pointer (some ⟨h, 0, none⟩), .pointer (some ⟨w1.heap.size, 0, none⟩)] rfl rfl (World.news_of_block (HBX.out _)) (by intro u hu; simp at hu; rcases hu with rfl | rfl | rfl <;> rfl) (by omega) (by unfold maxLen; omega) (by omega) (by simp; omega) (w14.heap.size + 1) (by simp) ?_
    intro g9 c9 w9 hown9 hgrow9 hat9 hlt9
    have hc9 : Chg w14 w9 (fun k => (Value.slice pd qs.length capd).ownBlock = some k) := (Chg.of_below (((Below.refl _ _).drew).trans (HAX.out _)) _).trans (Chg.of_grown hgrow9) (fun _ _ h => h)
    have hW9 : w9.cell? ⟨WB, 0, none⟩ = some (.slice pd qs.length capd) ∧ w9.frozen? ⟨WB, 0, none⟩ = false := by
      have hne : some WB ≠ (Value.slice pd qs.length capd).ownBlock := fun e => by
        obtain ⟨cur, t, fz, e1, e2, e3⟩ := (ownsRow_T205 hWX.row WB e.symm).2.1
        obtain ⟨_, _, cs, hcs⟩ := hWX.bk.wb
        rw [hcs] at e1
        cases e1
        exact e3 rfl
      have hb : w14.heap[WB]? = w9.heap[WB]? := (hc9.block WB hWX.bk.wb.2.1 (fun e => hne e.symm)).symm
      exact ⟨(World.cell?_of_block hb.symm).trans hWX.cells.1, (World.frozen?_of_block hb.symm).trans hWX.cells.2⟩
    have hP9 : Cel w9 (w1.heap.size + 1) 159 #[.pointer (some ⟨x, 0, none⟩), .pointer (some ⟨h, 0, none⟩), .pointer (some ⟨w1.heap.size, 0, none⟩)] := Cel.chg hPlX hc9 (fun e => by have := (ownsRow_T205 HW.out.row _ e).2.2; omega)
    refine hK.out _ _ ⟨hW9.1, hP9.cell 0, hP9.cell 1, hP9.cell 2⟩ (fun _ => ?_)
    clear hK K
    refine wpAnyH_done (by kernel_rfl) ?_ _
    show wpList Tryz.prog _ _ _ _ _
    have hfin := made_fin hbwX HW.out _ _ hplX hfnX hF1X hc9 g9 c9 hown9 (hat9.imp id (fun h' => by omega))
    obtain ⟨z0, zf⟩ := hW9
    clear hHX
    go_wp2
    go_ret
    exact ⟨rfl, hfin⟩
  · have hZe : Z = 0 := by omega
    have hZpi : ¬ (0 : Int) < (Z : Int) := by omega
    go_wp2_with fail
    clear o0 o1 o2 o3 o4 o5 o6 r0 r1 r2 r3 r4 r5 r6 r7 rf p2
    generalize ((((w6.setCell ⟨w1.heap.size, 2, none⟩ (.int .i64 (C : Int))).setCell ⟨w1.heap.size, 3, none⟩ (.string s)).setCell ⟨w1.heap.size, 4, none⟩ (.int .i64 d)).drew) = W7 at *
    have hplX : PlateAt W7 base2 (fun k => (k = x ∨ k = h ∨ k = w1.heap.size ∨ k = g ∨ k = gz) ∨ k = gb) (newPl x h w1.heap.size g gz Z b C s d) := by
      have hSt7' : StAt W7 g b d 0 0 (.slice (some ⟨gz, 0, none⟩) Z Z) C (.slice (some ⟨gb, 0, none⟩) (sbytes s).length (sbytes s).length) (.slice none 0 0) := by rw [hsl]; exact hSt7
      refine newPl_at _ hDk7 hHd7 hSt7' hZz7 hRf7 (.inr ⟨gb, rfl, hBb7⟩) (by simp) (fun i c hi => by rw [hrep i c hi]; exact ⟨rfl, RowG.nil _ _ _⟩) (fun i j c c' k _ hi hj hk => by rw [hrep i c hi] at hk; cases hk) ⟨.inl (.inl rfl), .inl (.inr (.inl rfl)), .inl (.inr (.inr (.inl rfl))), .inl (.inr (.inr (.inr (.inl rfl)))), .inl (.inr (.inr (.inr (.inr rfl))))⟩ (fun k hk => by cases hk; exact .inr rfl) (fun i c k hi hk => by rw [hrep i c hi] at hk; cases hk) (fun k hk => ?_)
      rcases hk with (rfl | rfl | rfl | rfl | rfl) | rfl
      · exact ⟨by omega, Cel.okT hDk7 (by decide) (by decide)⟩
      · exact ⟨by omega, Cel.okT hHd7 (by decide) (by decide)⟩
      · exact ⟨by omega, Cel.okT hRf7 (by decide) (by decide)⟩
      · exact ⟨by omega, Cel.okT hSt7 (by decide) (by decide)⟩
      · exact ⟨by omega, Cel.okT hZz7 (by decide) (by decide)⟩
      · exact ⟨by omega, OkB.okT ⟨_, _, hBb7⟩⟩
    have hF1X : ∀ k, ((k = x ∨ k = h ∨ k = w1.heap.size ∨ k = g ∨ k = gz) ∨ k = gb) → w.heap.size ≤ k := fun k hk => by
      rcases hk with (rfl | rfl | rfl | rfl | rfl) | rfl <;> omega
    have hfnX : Fine (newPl x h w1.heap.size g gz Z b C s d) (n + 1) := newPl_fine _ _ _ _ _ _ _ _ _ _ _ hZ ⟨by omega, by have := hC.out; omega⟩ hs HD.out
    have hbwX := hbw7
    have hPlX := hPl7
    clear hDk7 hHd7 hSt7 hZz7 hPl7 hBb7 hRf7 hbw7
    have hWX := HW.out.down hbwX
    have HSX : Hid (∀ w', Below W7.drew.heap.size W7.drew w' → w'.cell? ⟨WB, 0, none⟩ = some (.slice pd qs.length capd) ∧ w'.cell? ⟨w1.heap.size + 1, 0, none⟩ = some (.pointer (some ⟨x, 0, none⟩)) ∧ w'.cell? ⟨w1.heap.size + 1, 1, none⟩ = some (.pointer (some ⟨h, 0, none⟩)) ∧ w'.cell? ⟨w1.heap.size + 1, 2, none⟩ = some (.pointer (some ⟨w1.heap.size, 0, none⟩))) := fun w' hb => by
      have h1 := (hWX.down ((Below.refl _ _).drew)).down hb
      have h2 : Cel w' (w1.heap.size + 1) 159 #[.pointer (some ⟨x, 0, none⟩), .pointer (some ⟨h, 0, none⟩), .pointer (some ⟨w1.heap.size, 0, none⟩)] := Cel.below (w := W7.drew) hPlX hb (Cel.lt hPlX)
      exact ⟨h1.cells.1, h2.cell 0, h2.cell 1, h2.cell 2⟩
    have HAX : Hid (∀ o : Obj, Below W7.drew.heap.size W7.drew (W7.drew.alloc o)) := fun o => (Below.refl _ _).alloc (Nat.le_refl _) _
    have hHX := HSX.out _ (Below.refl _ _)
    have HWB : Hid (W7.frozen? ⟨WB, 0, none⟩ = false) := hWX.cells.2
    have hzX := hbwX.size
    have hcntX := HW.out.cnt
    have HRW : Hid (∀ o : Obj, (W7.drew.alloc o).ownsRow base2 159 3 (.slice pd qs.length capd) qs.length (plCells qs)) := fun o => ((hWX.down ((Below.refl _ _).drew)).down (HAX.out o)).row
    have HBX : Hid (∀ cs : Array Value, (W7.drew.alloc (Obj.cells cs 159)).heap[W7.heap.size]? = some (Obj.cells cs 159 (0, 0))) := fun cs => heap_alloc_new W7.drew _
    have hb2X := HW.out.b2
    refine wp_region_cut_held (S := fun w' => w'.cell? ⟨WB, 0, none⟩ = some (.slice pd qs.length capd) ∧ w'.cell? ⟨w1.heap.size + 1, 0, none⟩ = some (.pointer (some ⟨x, 0, none⟩)) ∧ w'.cell? ⟨w1.heap.size + 1, 1, none⟩ = some (.pointer (some ⟨h, 0, none⟩)) ∧ w'.cell? ⟨w1.heap.size + 1, 2, none⟩ = some (.pointer (some ⟨w1.heap.size, 0, none⟩))) 8 (by kernel_rfl) (by decide) (by kernel_rfl) (by kernel_rfl) (by kernel_rfl) (by kernel_rfl) ?_
    simp only [List.take_succ_cons, List.take_zero, List.drop_succ_cons, List.drop_zero]
    refine held_take (i := 0) (v := ?vd0) rfl (by kernel_rfl) (by kernel_rfl) (by kernel_rfl) (fun _ _ _ h => h) (Or.inl ⟨by rfl, ?hyd0⟩) hHX ?restd0
    case hyd0 => (intro w' hSw; (try dsimp only at hSw); go_simp; try with_reducible rfl)
    simp only [Act.put, List.setIfInBounds_toArray, List.set_cons_zero, List.set_cons_succ]
    refine held_take (i := 1) (v := ?vd1) rfl (by kernel_rfl) (by kernel_rfl) (by kernel_rfl) (fun _ _ _ h => h) (Or.inl ⟨by rfl, ?hyd1⟩) hHX ?restd1
    case hyd1 => (intro w' hSw; (try dsimp only at hSw); go_simp; try with_reducible rfl)
    simp only [Act.put, List.setIfInBounds_toArray, List.set_cons_zero, List.set_cons_succ]
    refine held_take (i := 2) (v := ?vd2) rfl (by kernel_rfl) (by kernel_rfl) (by kernel_rfl) (fun _ _ _ h => h) (Or.inl ⟨by rfl, ?hyd2⟩) hHX ?restd2
    case hyd2 => (intro w' hSw; (try dsimp only at hSw); go_simp; try with_reducible rfl)
    simp only [Act.put, List.setIfInBounds_toArray, List.set_cons_zero, List.set_cons_succ]
    refine held_take (i := 3) (v := ?vd3) rfl (by kernel_rfl) (by kernel_rfl) (by kernel_rfl) (fun _ _ _ h => h) (Or.inl ⟨by rfl, ?hyd3⟩) hHX ?restd3
    case hyd3 => (intro w' hSw; (try dsimp only at hSw); go_simp; try with_reducible rfl)
    simp only [Act.put, List.setIfInBounds_toArray, List.set_cons_zero, List.set_cons_succ]
    refine held_take (i := 4) (v := ?vd4) rfl (by kernel_rfl) (by kernel_rfl) (by kernel_rfl) (fun _ _ _ h => h) (Or.inl ⟨by rfl, ?hyd4⟩) hHX ?restd4
    case hyd4 => (intro w' hSw; (try dsimp only at hSw); go_simp; try with_reducible rfl)
    simp only [Act.put, List.setIfInBounds_toArray, List.set_cons_zero, List.set_cons_succ]
    refine held_take (i := 5) (v := ?vd5) rfl (by kernel_rfl) (by kernel_rfl) (by kernel_rfl) (fun _ _ _ h => h) (Or.inl ⟨by rfl, ?hyd5⟩) hHX ?restd5
    case hyd5 => (intro w' hSw; (try dsimp only at hSw); go_simp; try with_reducible rfl)
    simp only [Act.put, List.setIfInBounds_toArray, List.set_cons_zero, List.set_cons_succ]
    refine held_one (i := 6) rfl (by kernel_rfl) (fun K hK => ?_)
    go_simp
    refine hK.out _ _ (HSX.out _ (HAX.out _)) (fun _ => ?_)
    clear hK K
    refine held_one (i := 7) rfl (by kernel_rfl) (fun K hK => ?_)
    refine step_append_lies _ rfl (.tmp 119) (.tmp 121) 47 rfl base2 159 ip _ 3 24 Tryz.underlying47 hip hpz0 hpz1 hpz2 rfl (by omega) (.slice pd qs.length capd) qs.length (plCells qs) rfl (HRW.out _) ⟨W7.heap.size, 0, none⟩ 1 1 [.pointer (some ⟨x, 0, none⟩), .pointer (some ⟨h, 0, none⟩), .pointer (some ⟨w1.heap.size, 0, none⟩)] rfl rfl (World.news_of_block (HBX.out _)) (by intro u hu; simp at hu; rcases hu with rfl | rfl | rfl <;> rfl) (by omega) (by unfold maxLen; omega) (by omega) (by simp; omega) (W7.heap.size + 1) (by simp) ?_
    intro g9 c9 w9 hown9 hgrow9 hat9 hlt9
    have hc9 : Chg W7 w9 (fun k => (Value.slice pd qs.length capd).ownBlock = some k) := (Chg.of_below (((Below.refl _ _).drew).trans (HAX.out _)) _).trans (Chg.of_grown hgrow9) (fun _ _ h => h)
    have hW9 : w9.cell? ⟨WB, 0, none⟩ = some (.slice pd qs.length capd) ∧ w9.frozen? ⟨WB, 0, none⟩ = false := by
      have hne : some WB ≠ (Value.slice pd qs.length capd).ownBlock := fun e => by
        obtain ⟨cur, t, fz, e1, e2, e3⟩ := (ownsRow_T205 hWX.row WB e.symm).2.1
        obtain ⟨_, _, cs, hcs⟩ := hWX.bk.wb
        rw [hcs] at e1
        cases e1
        exact e3 rfl
      have hb : W7.heap[WB]? = w9.heap[WB]? := (hc9.block WB hWX.bk.wb.2.1 (fun e => hne e.symm)).symm
      exact ⟨(World.cell?_of_block hb.symm).trans hWX.cells.1, (World.frozen?_of_block hb.symm).trans hWX.cells.2⟩
    have hP9 : Cel w9 (w1.heap.size + 1) 159 #[.pointer (some ⟨x, 0, none⟩), .pointer (some ⟨h, 0, none⟩), .pointer (some ⟨w1.heap.size, 0, none⟩)] := Cel.chg hPlX hc9 (fun e => by have := (ownsRow_T205 HW.out.row _ e).2.2; omega)
    refine hK.out _ _ ⟨hW9.1, hP9.cell 0, hP9.cell 1, hP9.cell 2⟩ (fun _ => ?_)
    clear hK K
    refine wpAnyH_done (by kernel_rfl) ?_ _
    show wpList Tryz.prog _ _ _ _ _
    have hfin := made_fin hbwX HW.out _ _ hplX hfnX hF1X hc9 g9 c9 hown9 (hat9.imp id (fun h' => by omega))
    obtain ⟨z0, zf⟩ := hW9
    clear hHX
    go_wp2
    go_ret
    exact ⟨rfl, hfin⟩
end Go.Proofs.YtloaefcgcniacaaGreatDoor
