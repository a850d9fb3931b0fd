import Derived.Test.YtloaefcgcniacaaGreatDoorEA1
import Derived.Test.YtloaefcgcniacaaGreatDoorFF
namespace Go.Proofs.YtloaefcgcniacaaGreatDoor
open Go.RowKit
set_option linter.unusedVariables false

theorem run_sb (w : World) (g : Nat) (s : ByteArray) (h : Blk w g (sbytes s)) : (convert 66 9 (.slice (some ⟨g, 0, none⟩) (sbytes s).length (sbytes s).length)).run Tryz.prog w = .ok (.string s) w := by
  have := run_str w g 0 (sbytes s).length (sbytes s).length (sbytes s) rfl h.rd
  rw [bstr_sbytes] at this
  exact this
theorem RowS.cell {w : World} {base : Nat} {v : Value} {ss : List ByteArray} (h : RowS w base v ss) (i : Nat) (s : ByteArray) (hi : ss[i]? = some s) : ∃ g cap, v = .slice (some ⟨g, 0, none⟩) ss.length cap ∧ g < w.heap.size ∧ w.cell? ⟨g, i, none⟩ = some (.string s) := by
  rcases h.2 with ⟨hv, h0⟩ | ⟨g, cap, cur, hv, hb, hg, hnc, hcm, hcs, htake⟩
  · rw [List.length_eq_zero_iff.1 h0] at hi
    cases hi
  · refine ⟨g, cap, hv, (Array.getElem?_eq_some_iff.1 hg).1, ?_⟩
    have e : (ss.map Value.string)[i]? = some (.string s) := by rw [List.getElem?_map, hi]; rfl
    rw [← htake, List.getElem?_take] at e
    split at e
    · simp only [World.cell?, hg]
      simpa using e
    · cases e
theorem RowS.below {w w' : World} {base : Nat} {v : Value} {ss : List ByteArray} (h : RowS w base v ss) (hb : Below w.heap.size w w') : RowS w' base v ss :=
  ownsRow_chg h (Chg.of_below hb (fun _ => False)) (fun _ _ h => h)

set_option maxRecDepth 20000 in
set_option maxHeartbeats 1000000 in
theorem same_any (q : Pl) (n base : Nat) (F : Nat → Prop) (w : World) (h : PlateAt w base F q) (hq : Fine q n) (hn : n < 900000) :
    Calls Tryz.prog 97 #[.agg #[.pointer (some ⟨q.x, 0, none⟩), .pointer (some ⟨q.h, 0, none⟩), .pointer (some ⟨q.r, 0, none⟩)]] w fun e w' => e = .returned (.bool true) ∧ Below w.heap.size w w' := by
  obtain ⟨dv, bd, lg, zs, d, r⟩ := h
  obtain ⟨pl, capl, hlg⟩ := d.log.form
  have hll : (q.dk.logs).length = (logC q.cs).length := List.length_map _
  rw [hll] at hlg
  subst hlg
  clear hll
  have hg := hq.good hn
  have HQ := (show Hid _ from hq)
  have HG := (show Hid _ from hg)
  have hcs : Hid (q.cs.length < 1000000) := by have := hq.cs; show _ < _; omega
  have HLL : Hid ((logC q.cs).length < 1000000) := by have := logC_length q.cs; have := hq.cs; show _ < _; omega
  have HFL : Hid (∀ z, (framesOfC q.cs z).length < 1000000) := fun z => by have := framesOfC_length q.cs z; have := hq.cs; omega
  have HZ : Hid (q.Z ≤ 69) := hq.Z
  clear hq hg
  have HD : Hid (∀ w', Below w.heap.size w w' → DP w' base F q.x q.h q.g q.gz q.dk bd (.slice pl (logC q.cs).length capl) zs ∧ RP w' base F q.r q.Z q.S q.C q.B q.L q.cs q.ca q.wr dv) := fun w' hb =>
    ⟨d.chg (Chg.of_below hb (fun _ => False)) (fun _ _ h => h.elim) (fun k hk => (d.ok k hk).2.chg (Chg.of_below hb (fun _ => False)) (fun h => h)), r.chg (Chg.of_below hb (fun _ => False)) (fun _ _ h => h.elim)⟩
  clear d r
  go_enter Tryz.func97, Tryz.ntmps97
  go_wp2_with fail
  have hb0 : Below w.heap.size w (w.alloc (Obj.cells #[Value.pointer (some ⟨q.x, 0, none⟩), Value.pointer (some ⟨q.h, 0, none⟩), Value.pointer (some ⟨q.r, 0, none⟩)] 159)) := (Below.refl _ _).alloc (Nat.le_refl _) _
  have hP0 : Cel (w.alloc (Obj.cells #[Value.pointer (some ⟨q.x, 0, none⟩), Value.pointer (some ⟨q.h, 0, none⟩), Value.pointer (some ⟨q.r, 0, none⟩)] 159)) w.heap.size 159 #[Value.pointer (some ⟨q.x, 0, none⟩), Value.pointer (some ⟨q.h, 0, none⟩), Value.pointer (some ⟨q.r, 0, none⟩)] := Cel.new _ _ _
  have hz0 : (w.alloc (Obj.cells #[Value.pointer (some ⟨q.x, 0, none⟩), Value.pointer (some ⟨q.h, 0, none⟩), Value.pointer (some ⟨q.r, 0, none⟩)] 159)).heap.size = w.heap.size + 1 := by simp
  generalize (w.alloc (Obj.cells #[Value.pointer (some ⟨q.x, 0, none⟩), Value.pointer (some ⟨q.h, 0, none⟩), Value.pointer (some ⟨q.r, 0, none⟩)] 159)) = W0 at *
  have HC : Hid (∀ w', Below W0.heap.size W0 w' → (w'.cell? ⟨w.heap.size, 0, none⟩ = some (.pointer (some ⟨q.x, 0, none⟩)) ∧ w'.cell? ⟨w.heap.size, 1, none⟩ = some (.pointer (some ⟨q.h, 0, none⟩)) ∧ w'.cell? ⟨w.heap.size, 2, none⟩ = some (.pointer (some ⟨q.r, 0, none⟩))) ∧ Below w.heap.size w w') := fun w' hb => by
    have h1 := hP0.below hb (by omega)
    exact ⟨⟨h1.cell 0, h1.cell 1, h1.cell 2⟩, hb0.trans (hb.mono (by omega))⟩
  clear hP0 hb0
  have HR : Hid (∀ w', Below W0.heap.size W0 w' → DP w' base F q.x q.h q.g q.gz q.dk bd (.slice pl (logC q.cs).length capl) zs ∧ RP w' base F q.r q.Z q.S q.C q.B q.L q.cs q.ca q.wr dv) := fun w' hb => HD.out w' (HC.out w' hb).2
  clear HD
  have hB := Below.refl W0.heap.size W0
  refine (ranchored_any base q.r q.Z q.S q.C q.B q.L dv q.ca q.wr q.cs _ (HR.out _ hB).2.ref (HR.out _ hB).2.don hcs.out HQ.out.C.1 HQ.out.C.2).mono ?_
  rintro e w1 ⟨rfl, hb1⟩
  obtain ⟨⟨p0, p1, p2⟩, _⟩ := HC.out _ hb1
  go_wp2_with fail
  refine (rlog_any base q.r q.Z q.S q.C q.B q.L dv q.ca q.wr q.cs _ (HR.out _ hb1).2.ref (HR.out _ hb1).2.don hcs.out).mono ?_
  rintro e w2 ⟨lv, rfl, hrow2, hb2⟩
  have hb12 := hb1.trans (hb2.mono hb1.size)
  clear p0 p1 p2
  obtain ⟨⟨p0, p1, p2⟩, _⟩ := HC.out _ hb12
  go_wp2_with fail
  have HS : Hid (∀ w', Below W0.heap.size W0 w' → StAt w' q.g q.S q.L q.ca q.wr (.slice (some ⟨q.gz, 0, none⟩) q.Z q.Z) (anchC q.C q.B q.cs).1 bd (.slice pl (logC q.cs).length capl)) := fun w' hb => by
    have h1 := (HR.out _ hb).1
    have h2 := h1.st
    rw [h1.zl] at h2
    exact h2
  have hb22 := hb12
  have hrow22 := hrow2
  clear hb12 hrow2 hb2
  refine (dOff q.x q.g _ _ _ _ _ _ _ _ _ (HR.out _ hb22).1.dk (HS.out _ hb22)).mono ?_
  rintro e w3 ⟨rfl, qq, hw⟩
  have hb3 : Below W0.heap.size W0 w3 := by rw [hw]; exact below_drewN hb22 qq
  have hrow3 : RowS w3 w1.heap.size lv (logC q.cs) := by rw [hw]; exact hrow22
  clear hw p0 p1 p2 hrow22
  obtain ⟨⟨p0, p1, p2⟩, _⟩ := HC.out _ hb3
  go_wp2_with fail
  refine (hLeft q.h q.g _ _ _ _ _ _ _ _ _ (HR.out _ hb3).1.hd (HS.out _ hb3)).mono ?_
  rintro e w4 ⟨rfl, qq, hw⟩
  have hb4 : Below W0.heap.size W0 w4 := by rw [hw]; exact below_drewN hb3 qq
  have hrow4 : RowS w4 w1.heap.size lv (logC q.cs) := by rw [hw]; exact hrow3
  clear hw p0 p1 p2 hrow3
  obtain ⟨⟨p0, p1, p2⟩, _⟩ := HC.out _ hb4
  go_wp2_with fail
  refine (hCalls q.h q.g _ _ _ _ _ _ _ _ _ (HR.out _ hb4).1.hd (HS.out _ hb4)).mono ?_
  rintro e w5 ⟨rfl, qq, hw⟩
  have hb5 : Below W0.heap.size W0 w5 := by rw [hw]; exact below_drewN hb4 qq
  have hrow5 : RowS w5 w1.heap.size lv (logC q.cs) := by rw [hw]; exact hrow4
  clear hw p0 p1 p2 hrow4
  obtain ⟨⟨p0, p1, p2⟩, _⟩ := HC.out _ hb5
  go_wp2_with fail
  refine (hWrong q.h q.g _ _ _ _ _ _ _ _ _ (HR.out _ hb5).1.hd (HS.out _ hb5)).mono ?_
  rintro e w6 ⟨rfl, qq, hw⟩
  have hb6 : Below W0.heap.size W0 w6 := by rw [hw]; exact below_drewN hb5 qq
  have hrow6 : RowS w6 w1.heap.size lv (logC q.cs) := by rw [hw]; exact hrow5
  clear hw p0 p1 p2 hrow5
  obtain ⟨⟨p0, p1, p2⟩, _⟩ := HC.out _ hb6
  obtain ⟨r0, r1, r2, r3, r4, r5, r6, r7, rf⟩ := (HR.out _ hb6).2.ref.cells
  go_wp2_with fail
  clear r0 r1 r2 r3 r4 r5 r6 r7 rf
  refine (hAnchor q.h q.g _ _ _ _ _ _ _ _ (sbytes (anchC q.C q.B q.cs).2) _ (HR.out _ hb6).1.hd (HS.out _ hb6) (HR.out _ hb6).1.bs HG.out.bs).mono ?_
  rintro e w7 ⟨ga, rfl, hBa7, hga, hbb⟩
  have hb7 := hb6.trans (hbb.mono hb6.size)
  have hrow7 := hrow6.below hbb
  clear hbb p0 p1 p2 hrow6
  have hAA : Below w7.heap.size w7 (w7.alloc (Obj.cells #[.int .i64 (anchC q.C q.B q.cs).1, .slice (some ⟨ga, 0, none⟩) (sbytes (anchC q.C q.B q.cs).2).length (sbytes (anchC q.C q.B q.cs).2).length] 91)) := (Below.refl _ _).alloc (Nat.le_refl _) _
  have hA8 : Cel (w7.alloc (Obj.cells #[.int .i64 (anchC q.C q.B q.cs).1, .slice (some ⟨ga, 0, none⟩) (sbytes (anchC q.C q.B q.cs).2).length (sbytes (anchC q.C q.B q.cs).2).length] 91)) w7.heap.size 91 #[.int .i64 (anchC q.C q.B q.cs).1, .slice (some ⟨ga, 0, none⟩) (sbytes (anchC q.C q.B q.cs).2).length (sbytes (anchC q.C q.B q.cs).2).length] := Cel.new _ _ _
  have hb8 := hb7.trans (hAA.mono hb7.size)
  have hrow8 := hrow7.below hAA
  have hB8 := hBa7.below hAA hBa7.lt
  obtain ⟨⟨p0, p1, p2⟩, _⟩ := HC.out _ hb8
  clear hAA hrow7 hBa7
  go_wp2_with fail
  generalize (w7.alloc (Obj.cells #[.int .i64 (anchC q.C q.B q.cs).1, .slice (some ⟨ga, 0, none⟩) (sbytes (anchC q.C q.B q.cs).2).length (sbytes (anchC q.C q.B q.cs).2).length] 91)) = w8 at *
  refine (dSlots q.x q.g _ _ _ _ _ _ _ _ _ (HR.out _ hb8).1.dk (HS.out _ hb8)).mono ?_
  rintro e w9 ⟨rfl, qq, hw⟩
  have hb9 : Below W0.heap.size W0 w9 := by rw [hw]; exact below_drewN hb8 qq
  have hrow9 : RowS w9 w1.heap.size lv (logC q.cs) := by rw [hw]; exact hrow8
  have hA9 : Cel w9 w7.heap.size 91 #[.int .i64 (anchC q.C q.B q.cs).1, .slice (some ⟨ga, 0, none⟩) (sbytes (anchC q.C q.B q.cs).2).length (sbytes (anchC q.C q.B q.cs).2).length] := by rw [hw]; exact hA8
  have hB9 : Blk w9 ga (sbytes (anchC q.C q.B q.cs).2) := by rw [hw]; exact hB8
  clear hw p0 p1 p2 hrow8 hA8 hB8
  obtain ⟨⟨p0, p1, p2⟩, _⟩ := HC.out _ hb9
  go_wp2_with fail
  refine (dZones q.x q.g _ _ _ _ _ _ _ _ _ _ _ (HR.out _ hb9).1.dk (HS.out _ hb9)).mono ?_
  rintro e w10 ⟨rfl, qq, hw⟩
  have hb10 : Below W0.heap.size W0 w10 := by rw [hw]; exact below_drewN hb9 qq
  have hrow10 : RowS w10 w1.heap.size lv (logC q.cs) := by rw [hw]; exact hrow9
  have hA10 : Cel w10 w7.heap.size 91 #[.int .i64 (anchC q.C q.B q.cs).1, .slice (some ⟨ga, 0, none⟩) (sbytes (anchC q.C q.B q.cs).2).length (sbytes (anchC q.C q.B q.cs).2).length] := by rw [hw]; exact hA9
  have hB10 : Blk w10 ga (sbytes (anchC q.C q.B q.cs).2) := by rw [hw]; exact hB9
  clear hw p0 p1 p2 hrow9 hA9 hB9
  obtain ⟨⟨p0, p1, p2⟩, _⟩ := HC.out _ hb10
  go_wp2_with fail
  refine (hLogged q.h q.g _ _ _ _ _ _ _ _ _ _ _ (HR.out _ hb10).1.hd (HS.out _ hb10)).mono ?_
  rintro e w11 ⟨rfl, qq, hw⟩
  have hb11 : Below W0.heap.size W0 w11 := by rw [hw]; exact below_drewN hb10 qq
  have hrow11 : RowS w11 w1.heap.size lv (logC q.cs) := by rw [hw]; exact hrow10
  have hA11 : Cel w11 w7.heap.size 91 #[.int .i64 (anchC q.C q.B q.cs).1, .slice (some ⟨ga, 0, none⟩) (sbytes (anchC q.C q.B q.cs).2).length (sbytes (anchC q.C q.B q.cs).2).length] := by rw [hw]; exact hA10
  have hB11 : Blk w11 ga (sbytes (anchC q.C q.B q.cs).2) := by rw [hw]; exact hB10
  clear hw p0 p1 p2 hrow10 hA10 hB10
  obtain ⟨⟨p0, p1, p2⟩, _⟩ := HC.out _ hb11
  obtain ⟨r0, r1, r2, r3, r4, r5, r6, r7, rf⟩ := (HR.out _ hb11).2.ref.cells
  have a0 := hA11.cell 0
  have a1 := hA11.cell 1
  simp only [List.getElem?_toArray, List.getElem?_cons_zero, List.getElem?_cons_succ] at a0 a1
  have hstr := run_sb w11 ga _ hB11
  obtain ⟨p2v, c2v, hlv⟩ := hrow11.form
  subst hlv
  have HROW := (show Hid _ from hrow11)
  clear hrow11 hA11 hB11
  go_wp2_with fail
  clear r0 r1 r2 r3 r4 r5 r6 r7 rf a0 a1 hstr p0 p1 p2
  go_loopw [14] (fun i wr => ∃ k : Nat, k ≤ (logC q.cs).length ∧ i = .int .i64 k ∧ Below w11.heap.size w11 wr) (fun i _ => (logC q.cs).length - (intOf i).toNat)
  case atStart => exact ⟨0, Nat.zero_le _, rfl, Below.refl _ _⟩
  case round =>
    obtain ⟨k, hk, rfl, hbr⟩ := hrel
    have hb12 := hb11.trans (hbr.mono hb11.size)
    obtain ⟨⟨p0, p1, p2⟩, _⟩ := HC.out _ hb12
    by_cases hlt : k < (logC q.cs).length
    · have hlti : (k : Int) < ((logC q.cs).length : Int) := by omega
      have hLL := HLL.out
      have hks : (logC q.cs)[k]? = some (logC q.cs)[k] := List.getElem?_eq_getElem hlt
      obtain ⟨gl, cl, hv, hgl, hcl⟩ := RowS.cell (RowS.below HROW.out hbr) k _ hks
      simp only [Value.slice.injEq] at hv
      obtain ⟨rfl, _, rfl⟩ := hv
      have hkl : q.dk.logs[k]? = some (sbytes (logC q.cs)[k]) := by
        show ((logC q.cs).map sbytes)[k]? = _
        rw [List.getElem?_map, hks]
        rfl
      have hkz := HG.out.lsz _ (List.mem_of_getElem? hkl)
      generalize (logC q.cs)[k] = s at *
      go_wp2_with fail
      refine (hLog_in base q.h q.g k _ _ _ _ _ _ _ _ q.dk.logs (sbytes s) _ (HR.out _ hb12).1.hd (HS.out _ hb12) ((HR.out _ hb12).1.log.rowB (fun k hk => ((HR.out _ hb12).1.ok k hk).1)) hkl hkz).mono ?_
      rintro e w13 ⟨g', rfl, hg', hB', hb13⟩
      have hstr := run_sb w13.drew g' s hB'
      have hcl' := (hb13.cell (p := ⟨gl, k, none⟩) hgl).trans hcl
      have hcl2 : w13.drew.cell? ⟨gl, k, none⟩ = some (.string s) := hcl'
      clear hcl hkl hkz hB' p0 p1 p2
      go_wp2
      go_still rfl
      go_wp2
      go_roundw
      case rel => exact ⟨k + 1, by omega, by go_num, hbr.trans ((hb13.drew).mono hbr.size)⟩
      case measure => simp [intOf]; omega
    · have hlti : ¬ (k : Int) < ((logC q.cs).length : Int) := by omega
      clear HROW
      obtain ⟨r0, r1, r2, r3, r4, r5, r6, r7, rf⟩ := (HR.out _ hb12).2.ref.cells
      go_wp2_with fail
      clear r0 r1 r2 r3 r4 r5 r6 r7 rf p0 p1 p2 hbr hlti hlt hk
      generalize wr = V at *
      go_loopw [16] (fun z wr => ∃ k : Nat, k ≤ q.Z ∧ z = .int .i64 k ∧ Below V.heap.size V wr) (fun z _ => q.Z - (intOf z).toNat)
      case atStart => exact ⟨0, Nat.zero_le _, rfl, Below.refl _ _⟩
      case round =>
        obtain ⟨z, hz, rfl, hbr⟩ := hrel
        have hb13 := hb12.trans (hbr.mono hb12.size)
        obtain ⟨⟨p0, p1, p2⟩, hbw⟩ := HC.out _ hb13
        obtain ⟨r0, r1, r2, r3, r4, r5, r6, r7, rf⟩ := (HR.out _ hb13).2.ref.cells
        clear r1 r2 r3 r4 r5 r6 r7
        by_cases hlt : z < q.Z
        · have hlti : (z : Int) < (q.Z : Int) := by omega
          have hzl := (HR.out _ hb13).1.zl
          have hzz : zs[z]? = some (zs[z]'(by rw [hzl]; exact hlt)) := List.getElem?_eq_getElem _
          obtain ⟨hrz, hkz⟩ := (HR.out _ hb13).1.zr z _ hzz
          go_wp2_with fail
          refine (hZone_in base q.h q.g q.gz z _ _ _ _ _ bd _ zs _ _ (q.dk.fr z) _ (HR.out _ hb13).1.hd (HR.out _ hb13).1.st (HR.out _ hb13).1.za hzz (hrz.rowB (fun k hk => ((HR.out _ hb13).1.ok k hk).1)) (HG.out.fsz z) (HG.out.fr z)).mono ?_
          rintro e w14 ⟨v14, rfl, hrow14, hb14⟩
          have hfl : (q.dk.fr z).length = (framesOfC q.cs z).length := List.length_map _
          obtain ⟨px, cx, hvx⟩ := hrow14.form
          subst hvx
          rw [hfl] at *
          have hkz' : (zs.get ⟨z, by rw [hzl]; exact hlt⟩).2 = ((keptC q.cs z).2 : Nat) := hkz
          simp only [hkz']
          have hAA : Below w14.heap.size w14 (w14.alloc (Obj.cells #[.slice px (framesOfC q.cs z).length cx, .int .i64 ((keptC q.cs z).2 : Nat)] 111)) := (Below.refl _ _).alloc (Nat.le_refl _) _
          have hX : Cel (w14.alloc (Obj.cells #[.slice px (framesOfC q.cs z).length cx, .int .i64 ((keptC q.cs z).2 : Nat)] 111)) w14.heap.size 111 #[.slice px (framesOfC q.cs z).length cx, .int .i64 ((keptC q.cs z).2 : Nat)] := Cel.new _ _ _
          have hb15 := hb13.trans ((hb14.trans (hAA.mono hb14.size)).mono hb13.size)
          have hv15 := hbr.trans ((hb14.trans (hAA.mono hb14.size)).mono hbr.size)
          have hrow15 : RowB (w14.alloc (Obj.cells #[.slice px (framesOfC q.cs z).length cx, .int .i64 ((keptC q.cs z).2 : Nat)] 111)) wr.heap.size (.slice px (framesOfC q.cs z).length cx) (q.dk.fr z) := hrow14.chg (Chg.of_below hAA (fun _ => False)) (fun _ h => h.elim) (fun _ _ h => h)
          obtain ⟨⟨y0, y1, y2⟩, hbw15⟩ := HC.out _ hb15
          clear p0 p1 p2 r0 rf hkz hkz' hrz hrow14 hAA hzz
          go_wp2_with fail
          generalize (w14.alloc (Obj.cells #[.slice px (framesOfC q.cs z).length cx, .int .i64 ((keptC q.cs z).2 : Nat)] 111)) = w15 at *
          refine (rframes_any base q.r q.Z q.S q.C z q.B q.L dv q.ca q.wr q.cs _ (HR.out _ hb15).2.ref (HR.out _ hb15).2.don hcs.out).mono ?_
          rintro e w16 ⟨fv, rfl, hrow16, hb16⟩
          have hb16' := hb15.trans (hb16.mono hb15.size)
          clear y0 y1 y2
          obtain ⟨⟨y0, y1, y2⟩, _⟩ := HC.out _ hb16'
          go_wp2_with fail
          refine (rkept_any base q.r q.Z q.S q.C z q.B q.L dv q.ca q.wr q.cs _ (HR.out _ hb16').2.ref (HR.out _ hb16').2.don hcs.out).mono ?_
          rintro e w17 ⟨rfl, hb17⟩
          have hb1517 : Below w15.heap.size w15 w17 := hb16.trans (hb17.mono hb16.size)
          have hX17 := hX.below hb1517 hX.lt
          have hrow17 := hrow15.chg (Chg.of_below hb1517 (fun _ => False)) (fun _ h => h.elim) (fun _ _ h => h)
          have hrowf := hrow16.below hb17
          have hv17 := hv15.trans (hb1517.mono hv15.size)
          obtain ⟨pf, cf, hfv⟩ := hrowf.form
          subst hfv
          have HX17 := (show Hid _ from hX17)
          have HR17 := (show Hid _ from hrow17)
          have HRF := (show Hid _ from hrowf)
          have x0 := hX17.cell 0
          have x1 := hX17.cell 1
          simp only [List.getElem?_toArray, List.getElem?_cons_zero, List.getElem?_cons_succ] at x0 x1
          clear y0 y1 y2 hX hrow15 hrow16 hb16 hb17 hb16' hb15 hX17 hrow17 hrowf hb14 hv15 hbw15 hb1517 hb13 hbr
          go_wp2_with fail
          clear x0 x1
          go_loopw [20] (fun i wr => ∃ j : Nat, j ≤ (framesOfC q.cs z).length ∧ i = .int .i64 j ∧ Below w17.heap.size w17 wr) (fun i _ => (framesOfC q.cs z).length - (intOf i).toNat)
          case atStart => exact ⟨0, Nat.zero_le _, rfl, Below.refl _ _⟩
          case round =>
            obtain ⟨j, hj, rfl, hbj⟩ := hrel
            have hX18 : Cel wr w14.heap.size 111 #[.slice px (framesOfC q.cs z).length cx, .int .i64 ((keptC q.cs z).2 : Nat)] := Cel.below HX17.out hbj (Cel.lt HX17.out)
            have x0 := hX18.cell 0
            simp only [List.getElem?_toArray, List.getElem?_cons_zero] at x0
            have hFL := HFL.out z
            by_cases hjlt : j < (framesOfC q.cs z).length
            · have hjlti : (j : Int) < ((framesOfC q.cs z).length : Int) := by omega
              have hjs : (framesOfC q.cs z)[j]? = some (framesOfC q.cs z)[j] := List.getElem?_eq_getElem hjlt
              have hjf : (q.dk.fr z)[j]? = some (sbytes (framesOfC q.cs z)[j]) := by
                show ((framesOfC q.cs z).map sbytes)[j]? = _
                rw [List.getElem?_map, hjs]
                rfl
              obtain ⟨gf, cf', hv, hgf, hcf⟩ := RowS.cell (RowS.below HRF.out hbj) j _ hjs
              simp only [Value.slice.injEq] at hv
              obtain ⟨rfl, _, rfl⟩ := hv
              obtain ⟨gr, gb, rfl, hgr, hcr, _, hBr⟩ := RowB.cell (RowB.chg HR17.out (Chg.of_below hbj (fun _ => False)) (fun _ h => h.elim) (fun _ _ h => h)) j _ hjf
              generalize (framesOfC q.cs z)[j] = s at *
              have hstr := run_sb wr.drew gb s hBr
              clear hX18 hjs hjf hBr
              go_wp2
              go_still rfl
              go_wp2
              go_roundw
              case rel => exact ⟨j + 1, by omega, by go_num, hbj.drew⟩
              case measure => simp [intOf]; omega
            · have hjlti : ¬ (j : Int) < ((framesOfC q.cs z).length : Int) := by omega
              have hZ := HZ.out
              clear hX18
              go_wp2
              go_roundw
              case rel => exact ⟨z + 1, by omega, by go_num, hv17.trans (hbj.mono hv17.size)⟩
              case measure => simp [intOf]; omega
        · have hlti : ¬ (z : Int) < (q.Z : Int) := by omega
          go_wp2
          go_ret
          exact ⟨rfl, hbw⟩
end Go.Proofs.YtloaefcgcniacaaGreatDoor
