import Derived.Test.YtloaefcgcniacaaSa
namespace Go.Proofs.Ytloaefcgcniacaa
open Go.RowKit
set_option linter.unusedVariables false

set_option maxHeartbeats 1000000 in
theorem sealed_walk (key kd ix ep sq at0 to0 : Int) (a : Option Addr) (len cap : Nat) (sb : ByteArray) (w : World) (hk : inI64 key) (h0 : inI64 kd) (h1 : inI64 ix) (h2 : inI64 ep) (h3 : inI64 sq) (hat : inI64 at0) (hto : inI64 to0) (hin : InFrame w a len cap sb) :
    Calls Try.prog 3 #[.int .i64 key, .agg #[.int .i64 kd, .int .i64 ix, .int .i64 ep, .int .i64 sq, .slice a len cap], .int .i64 at0, .int .i64 to0] w fun e w' => e = .returned (.bool true) ∧ Below w.heap.size w w' := by
  obtain ⟨k0, k1⟩ := hk
  obtain ⟨m0, m1⟩ := hat
  obtain ⟨t0, t1⟩ := hto
  have p0 := pickZ_lo key 4294967296 (by omega)
  have p0' := pickZ_hi key 4294967296 (by omega)
  have p1 := pickZ_lo to0 4294967295 (by omega)
  have p1' := pickZ_hi to0 4294967295 (by omega)
  have p2 := pickZ_lo at0 58 (by omega)
  have p2' := pickZ_hi at0 58 (by omega)
  have p3 := pickZ_lo to0 256 (by omega)
  have p3' := pickZ_hi to0 256 (by omega)
  go_enter Try.func3, Try.ntmps3
  go_wp2_with (go_at_call 5; refine (pick_any _ _ _ (by omega) (by omega) (by omega) (by omega)).mono ?_; rintro e w' ⟨rfl, rfl⟩)
  generalize pickZ key 4294967296 = K at *
  obtain ⟨D, I, E, S, hD1, hD3, hI, hE, hS, htame⟩ := tame_nat kd ix ep sq a len cap sb (w.alloc (Obj.cells #[.int .i64 kd, .int .i64 ix, .int .i64 ep, .int .i64 sq, .slice a len cap] 24)) h0 h1 h2 h3 (hin.below ((Below.refl _ _).alloc (Nat.le_refl _) _))
  refine htame.mono ?_
  rintro e w1 ⟨gb, cb, rfl, hRb, hgb, hb1⟩
  have hb01 : Below w.heap.size w w1 := ((Below.refl _ _).alloc (Nat.le_refl _) _).trans (hb1.mono (by simp))
  clear htame hb1 hin
  simp only [World.size_alloc] at hgb
  have hlb : (fixB (sbytes sb) 40).length = 40 := fixB_length _ _
  have hbb := fixB_lt (sbytes sb) 40 (sbytes_lt sb)
  generalize hbodyb : fixB (sbytes sb) 40 = Bb at *
  have HBb := (show Hid _ from hbodyb)
  clear hbodyb
  have HL : Hid (Bb.length = 40) := hlb
  clear hlb
  go_wp2_with fail
  refine (sealed_any K D I E S gb 0 cb Bb w1 (by omega) (by omega) hD1 hD3 hI hE hS HL.out hbb hRb).mono ?_
  rintro e w2 ⟨gx, rfl, hgx, hBx, hb2⟩
  have hz1 := hb01.size
  have hz2 := hb2.size
  have hb02 : Below w.heap.size w w2 := hb01.trans (hb2.mono (by omega))
  have hLl : (Lbx.sealB K.toNat D I E S Bb).length = 58 := by rw [Lbx.sealB_length, HL.out]
  have hLb := Lbx.sealB_lt K.toNat D I E S Bb (by omega) (by omega) hbb
  have hgx2 : gx < w2.heap.size := hBx.lt
  clear hRb hb2 hb01
  generalize hp1 : pickZ to0 4294967295 = p at *
  have HP := (show Hid _ from hp1)
  clear hp1
  have hk2 : (K + 1 + p) % 4294967296 ≠ K := by omega
  have hk20 : 0 ≤ (K + 1 + p) % 4294967296 := by omega
  have hk21 : (K + 1 + p) % 4294967296 < 4294967296 := by omega
  have hno := other_key K.toNat ((K + 1 + p) % 4294967296).toNat D I E S Bb (by omega) (by omega) (by omega) HL.out hbb (by omega) (by omega)
  have HNO := (show Hid _ from hno)
  clear hno
  go_wp2_with (go_at_call 5; refine (pick_any _ _ _ (by omega) (by omega) (by omega) (by omega)).mono ?_; rintro e w' ⟨rfl, hw'⟩; subst hw'; rw [HP.out])
  refine (sopen_no _ gx 0 58 58 (Lbx.sealB K.toNat D I E S Bb) _ hk20 (by omega) hLl (by omega) (by omega) hLb hBx.rd hgx2 HNO.out).mono ?_
  rintro e w3 ⟨rfl, hb3⟩
  have hz3 := hb3.size
  have hBx3 := hBx.below hb3 hgx2
  have hb03 : Below w.heap.size w w3 := hb02.trans (hb3.mono (by omega))
  clear hBx hb3 hb02
  have hnil : ∀ w : World, (binOp .eql 22 (.slice none 0 0) (.slice none 0 0)).run Try.prog w = .ok (.bool true) w := fun w => Lib.run_eql_slice_nil (P := Try.prog) w 22 5 none 0 0 0 0 Try.underlying22
  obtain ⟨ii, hii⟩ := Int.eq_ofNat_of_zero_le p2
  obtain ⟨vv, hvv⟩ := Int.eq_ofNat_of_zero_le p3
  have HII := (show Hid _ from hii)
  have HVV := (show Hid _ from hvv)
  have hi58 : ii < 58 := by omega
  have hv256 : vv < 256 := by omega
  have hx := Lbx.get_lt _ 256 (by decide) hLb ii
  have hi0 : (ii : Int) < 58 := by omega
  clear hii hvv p2 p2' p3 p3' HP HNO hk2 hk20 hk21
  have hcell : ∀ o : Obj, (w3.alloc o).cell? ⟨gx, ii, none⟩ = some (.int .u8 (((Lbx.sealB K.toNat D I E S Bb)[ii]?.getD 0 : Nat) : Int)) := fun o => (hBx3.alloc o).cell ii (by omega)
  obtain ⟨X, hX⟩ : ∃ X, X = (Lbx.sealB K.toNat D I E S Bb)[ii]?.getD 0 := ⟨_, rfl⟩
  rw [← hX] at hx hcell
  have HX := (show Hid _ from hX)
  have HLL := (show Hid _ from hLl)
  clear hX hLl
  have hfroz : ∀ o : Obj, (w3.alloc o).frozen? ⟨gx, ii, none⟩ = false := fun o => (hBx3.alloc o).frozen ii
  have hgx3 : gx < w3.heap.size := by omega
  go_wp2_with (go_at_call 5; refine (pick_any _ _ _ (by omega) (by omega) (by omega) (by omega)).mono ?_; rintro e w' ⟨rfl, hw'⟩; subst hw'; first | rw [HII.out] | rw [HVV.out])
  · have hq : ((vv : Int) == (X : Int)) = true := by assumption
    have hq1 : vv = X := by have := beq_iff_eq.1 hq; omega
    have e1 : ((vv : Int) + 1) % 256 = (((vv + 1) % 256 : Nat) : Int) := by omega
    rw [e1]
    clear hcell hfroz e1 hq
    have hnot := turned K.toNat D I E S ii ((vv + 1) % 256) Bb (by omega) HL.out hbb (by omega) (by omega) hi58 (by omega) (by rw [← HX.out]; omega)
    have hset := (hBx3.set ii ((vv + 1) % 256)).alloc (Obj.cells #[Value.int IntKind.i64 0, Value.int IntKind.i64 0, Value.int IntKind.i64 0, Value.int IntKind.i64 0, Value.slice none 0 0] 24)
    have hbs := (hb03.setCell (p := ⟨gx, ii, none⟩) (by show w.heap.size ≤ gx; omega) (Value.int IntKind.u8 (((vv + 1) % 256 : Nat) : Int))).alloc (by simp; omega) (Obj.cells #[Value.int IntKind.i64 0, Value.int IntKind.i64 0, Value.int IntKind.i64 0, Value.int IntKind.i64 0, Value.slice none 0 0] 24)
    refine (sopen_no K gx 0 58 58 ((Lbx.sealB K.toNat D I E S Bb).set ii ((vv + 1) % 256)) _ (by omega) (by omega) (by rw [List.length_set]; exact HLL.out) (by omega) (by omega) ?hlt hset.rd hset.lt hnot).mono ?_
    case hlt =>
      intro x hxx
      rcases List.mem_or_eq_of_mem_set hxx with hxx | rfl
      · exact hLb x hxx
      · omega
    rintro e w4 ⟨rfl, hb4⟩
    have hb04 := hbs.trans (hb4.mono (by simp; omega))
    clear hset hbs hb4 hnot hBx3
    go_wp2
    go_ret
    exact ⟨rfl, hb04.alloc hb04.size _⟩
  · have hq : ((vv : Int) == (X : Int)) = false := by assumption
    have hq1 : vv ≠ X := by have := beq_eq_false_iff_ne.1 hq; omega
    clear hcell hfroz hq
    have hnot := turned K.toNat D I E S ii vv Bb (by omega) HL.out hbb (by omega) (by omega) hi58 (by omega) (by rw [← HX.out]; omega)
    have hset := (hBx3.set ii vv).alloc (Obj.cells #[Value.int IntKind.i64 0, Value.int IntKind.i64 0, Value.int IntKind.i64 0, Value.int IntKind.i64 0, Value.slice none 0 0] 24)
    have hbs := (hb03.setCell (p := ⟨gx, ii, none⟩) (by show w.heap.size ≤ gx; omega) (Value.int IntKind.u8 (vv : Int))).alloc (by simp; omega) (Obj.cells #[Value.int IntKind.i64 0, Value.int IntKind.i64 0, Value.int IntKind.i64 0, Value.int IntKind.i64 0, Value.slice none 0 0] 24)
    refine (sopen_no K gx 0 58 58 ((Lbx.sealB K.toNat D I E S Bb).set ii vv) _ (by omega) (by omega) (by rw [List.length_set]; exact HLL.out) (by omega) (by omega) ?hlt2 hset.rd hset.lt hnot).mono ?_
    case hlt2 =>
      intro x hxx
      rcases List.mem_or_eq_of_mem_set hxx with hxx | rfl
      · exact hLb x hxx
      · omega
    rintro e w4 ⟨rfl, hb4⟩
    have hb04 := hbs.trans (hb4.mono (by simp; omega))
    clear hset hbs hb4 hnot hBx3
    go_wp2
    go_ret
    exact ⟨rfl, hb04.alloc hb04.size _⟩
end Go.Proofs.Ytloaefcgcniacaa
