import Derived.Test.YtloaefcgcniacaaKr
namespace Go.Proofs.Ytloaefcgcniacaa
open Go.RowKit
set_option linter.unusedVariables false

/-- What the walk is told of the frame that comes in: its body is read as the string sb. -/
def InFrame (w : World) (a : Option Addr) (len cap : Nat) (sb : ByteArray) : Prop :=
  ∀ W, Below w.heap.size w W → (convert 22 9 (.slice a len cap)).run Try.prog W = .ok (.string sb) W

theorem InFrame.below {w w' : World} {a : Option Addr} {len cap : Nat} {sb : ByteArray} (h : InFrame w a len cap sb) (hb : Below w.heap.size w w') : InFrame w' a len cap sb :=
  fun W hW => h W (hb.trans (hW.mono hb.size))

theorem tame_nat (kd ix ep sq : Int) (a : Option Addr) (len cap : Nat) (s : ByteArray) (w : World) (h0 : inI64 kd) (h1 : inI64 ix) (h2 : inI64 ep) (h3 : inI64 sq) (hconv : InFrame w a len cap s) :
    ∃ D I E S : Nat, 1 ≤ D ∧ D ≤ 3 ∧ I ≤ 255 ∧ E ≤ 4294967295 ∧ S ≤ 4294967295 ∧
    Calls Try.prog 7 #[.agg #[.int .i64 kd, .int .i64 ix, .int .i64 ep, .int .i64 sq, .slice a len cap]] w fun e w' =>
      ∃ g' cap', e = .returned (.agg #[.int .i64 (D : Int), .int .i64 (I : Int), .int .i64 (E : Int), .int .i64 (S : Int), .slice (some ⟨g', 0, none⟩) 40 cap']) ∧
        Rd w' g' 0 (fixB (sbytes s) 40) ∧ w.heap.size ≤ g' ∧ Below w.heap.size w w' := by
  have p0 := pickZ_lo kd 3 (by omega)
  have p0' := pickZ_hi kd 3 (by omega)
  have p1 := pickZ_lo ix 256 (by omega)
  have p1' := pickZ_hi ix 256 (by omega)
  have p2 := pickZ_lo ep 4294967296 (by omega)
  have p2' := pickZ_hi ep 4294967296 (by omega)
  have p3 := pickZ_lo sq 4294967296 (by omega)
  have p3' := pickZ_hi sq 4294967296 (by omega)
  have h := tame_any kd ix ep sq a len cap s w h0 h1 h2 h3 hconv
  refine ⟨(1 + pickZ kd 3).toNat, (pickZ ix 256).toNat, (pickZ ep 4294967296).toNat, (pickZ sq 4294967296).toNat, by omega, by omega, by omega, by omega, by omega, ?_⟩
  rw [Int.toNat_of_nonneg (by omega), Int.toNat_of_nonneg p1, Int.toNat_of_nonneg p2, Int.toNat_of_nonneg p3]
  exact h

theorem sealB_get (K D I E S : Nat) (body : List Nat) (hn : body.length = 40) (k : Nat) (hk : k < 40) : (Lbx.sealB K D I E S body)[10 + k]?.getD 0 = (Lbx.strm K E S 40)[k]?.getD 0 ^^^ body[k]?.getD 0 := by
  have h1 := Lbx.veil_get K E S body k (by omega)
  rw [hn] at h1
  rw [← h1, ← sealB_body K D I E S body hn, List.getElem?_take, if_pos hk, List.getElem?_drop]

theorem xor_again (a b : Nat) : (a ^^^ b) ^^^ b = a := by rw [Nat.xor_assoc, Nat.xor_self, Nat.xor_zero]

theorem veiled_byte (K D I E S : Nat) (body : List Nat) (hn : body.length = 40) (hl : ∀ x ∈ body, x < 256) (hD : D < 256) (hI : I < 256) (k : Nat) (hk : k < 40) :
    bits BinOp.xor IntKind.u8 (((Lbx.sealB K D I E S body)[10 + k]?.getD 0 : Nat) : Int) ((body[k]?.getD 0 : Nat) : Int) = (((Lbx.strm K E S 40)[k]?.getD 0 : Nat) : Int) := by
  rw [u8_xor_nat _ _ (Lbx.get_lt _ 256 (by decide) (Lbx.sealB_lt K D I E S body hD hI hl) _) (Lbx.get_lt _ 256 (by decide) hl _), sealB_get _ _ _ _ _ _ hn k hk, xor_again]

theorem sealB_ten (K D I E S : Nat) (b c : List Nat) : (Lbx.sealB K D I E S b).take 10 = (Lbx.sealB K D I E S c).take 10 := rfl

theorem sealB_ten_length (K D I E S : Nat) (b : List Nat) : ((Lbx.sealB K D I E S b).take 10).length = 10 := rfl

set_option maxHeartbeats 1000000 in
theorem veiled_walk (key kd ix ep sq : Int) (a : Option Addr) (len cap : Nat) (sb so : ByteArray) (w : World) (hk : inI64 key) (h0 : inI64 kd) (h1 : inI64 ix) (h2 : inI64 ep) (h3 : inI64 sq) (hin : InFrame w a len cap sb) :
    Calls Try.prog 4 #[.int .i64 key, .agg #[.int .i64 kd, .int .i64 ix, .int .i64 ep, .int .i64 sq, .slice a len cap], .string so] w fun e w' => e = .returned (.bool true) ∧ Below w.heap.size w w' := by
  obtain ⟨k0, k1⟩ := hk
  have p0 := pickZ_lo key 4294967296 (by omega)
  have p0' := pickZ_hi key 4294967296 (by omega)
  go_enter Try.func4, Try.ntmps4
  go_wp2_with (go_at_call 5; refine (pick_any _ _ _ (by omega) (by omega) (by omega) (by omega)).mono ?_; rintro e w' ⟨rfl, rfl⟩)
  generalize pickZ key 4294967296 = K at *
  obtain ⟨D, I, E, S, hD1, hD3, hI, hE, hS, htame⟩ := tame_nat kd ix ep sq a len cap sb (w.alloc (Obj.cells #[.int .i64 kd, .int .i64 ix, .int .i64 ep, .int .i64 sq, .slice a len cap] 24)) h0 h1 h2 h3 (hin.below ((Below.refl _ _).alloc (Nat.le_refl _) _))
  refine htame.mono ?_
  rintro e w1 ⟨gb, cb, rfl, hRb, hgb, hb1⟩
  have hb01 : Below w.heap.size w w1 := ((Below.refl _ _).alloc (Nat.le_refl _) _).trans (hb1.mono (by simp))
  clear htame hb1
  simp only [World.size_alloc] at hgb
  go_wp2_with fail
  have hA : Fr ((w1.alloc (Obj.cells #[.int .i64 (D : Int), .int .i64 (I : Int), .int .i64 (E : Int), .int .i64 (S : Int), .slice (some ⟨gb, 0, none⟩) 40 cb] 24)).alloc (Obj.cells #[.int .i64 (D : Int), .int .i64 (I : Int), .int .i64 (E : Int), .int .i64 (S : Int), .slice (some ⟨gb, 0, none⟩) 40 cb] 24)) w1.heap.size D I E S (.slice (some ⟨gb, 0, none⟩) 40 cb) :=
    (fr_new w1 D I E S _).below ((Below.refl (w1.heap.size + 1) _).alloc (by simp) _) (by omega)
  have hCf : Fr ((w1.alloc (Obj.cells #[.int .i64 (D : Int), .int .i64 (I : Int), .int .i64 (E : Int), .int .i64 (S : Int), .slice (some ⟨gb, 0, none⟩) 40 cb] 24)).alloc (Obj.cells #[.int .i64 (D : Int), .int .i64 (I : Int), .int .i64 (E : Int), .int .i64 (S : Int), .slice (some ⟨gb, 0, none⟩) 40 cb] 24)) (w1.heap.size + 1) D I E S (.slice (some ⟨gb, 0, none⟩) 40 cb) := by
    have := fr_new (w1.alloc (Obj.cells #[.int .i64 (D : Int), .int .i64 (I : Int), .int .i64 (E : Int), .int .i64 (S : Int), .slice (some ⟨gb, 0, none⟩) 40 cb] 24)) D I E S (.slice (some ⟨gb, 0, none⟩) 40 cb)
    simpa using this
  have hfz : ∀ i, ((w1.alloc (Obj.cells #[.int .i64 (D : Int), .int .i64 (I : Int), .int .i64 (E : Int), .int .i64 (S : Int), .slice (some ⟨gb, 0, none⟩) 40 cb] 24)).alloc (Obj.cells #[.int .i64 (D : Int), .int .i64 (I : Int), .int .i64 (E : Int), .int .i64 (S : Int), .slice (some ⟨gb, 0, none⟩) 40 cb] 24)).frozen? ⟨w1.heap.size + 1, i, none⟩ = false := by
    intro i
    exact World.frozen?_alloc_at _ _ _ _ (by simp)
  have hlb : (fixB (sbytes sb) 40).length = 40 := fixB_length _ _
  have hlo : (fixB (sbytes so) 40).length = 40 := fixB_length _ _
  have hbb := fixB_lt (sbytes sb) 40 (sbytes_lt sb)
  have hbo := fixB_lt (sbytes so) 40 (sbytes_lt so)
  have hgb1 : gb < w1.heap.size := hRb.lt (by omega)
  have hb12 : Below w1.heap.size w1 ((w1.alloc (Obj.cells #[.int .i64 (D : Int), .int .i64 (I : Int), .int .i64 (E : Int), .int .i64 (S : Int), .slice (some ⟨gb, 0, none⟩) 40 cb] 24)).alloc (Obj.cells #[.int .i64 (D : Int), .int .i64 (I : Int), .int .i64 (E : Int), .int .i64 (S : Int), .slice (some ⟨gb, 0, none⟩) 40 cb] 24)) := ((Below.refl _ _).alloc (Nat.le_refl _) _).alloc (by simp) _
  have hsz2 : ((w1.alloc (Obj.cells #[.int .i64 (D : Int), .int .i64 (I : Int), .int .i64 (E : Int), .int .i64 (S : Int), .slice (some ⟨gb, 0, none⟩) 40 cb] 24)).alloc (Obj.cells #[.int .i64 (D : Int), .int .i64 (I : Int), .int .i64 (E : Int), .int .i64 (S : Int), .slice (some ⟨gb, 0, none⟩) 40 cb] 24)).heap.size = w1.heap.size + 2 := by simp
  generalize ((w1.alloc (Obj.cells #[.int .i64 (D : Int), .int .i64 (I : Int), .int .i64 (E : Int), .int .i64 (S : Int), .slice (some ⟨gb, 0, none⟩) 40 cb] 24)).alloc (Obj.cells #[.int .i64 (D : Int), .int .i64 (I : Int), .int .i64 (E : Int), .int .i64 (S : Int), .slice (some ⟨gb, 0, none⟩) 40 cb] 24)) = W2 at *
  generalize hbodyb : fixB (sbytes sb) 40 = Bb at *
  have HBb := (show Hid _ from hbodyb)
  clear hbodyb
  refine (fixed_40 so W2).mono ?_
  rintro e w3 ⟨rfl, hb3⟩
  obtain ⟨C, W4, hby, hRo, hb4⟩ := bytes_pack so w3
  generalize hbodyo : fixB (sbytes so) 40 = Bo at *
  have HBo := (show Hid _ from hbodyo)
  clear hbodyo
  have hz3 := hb3.size
  have hz4 := hb4.size
  have hb24 : Below (w1.heap.size + 2) W2 W4 := (hb3.mono (by omega)).trans (hb4.mono (by omega))
  have hA4 := hA.below hb24 (by omega)
  have hC4 := hCf.below hb24 (by omega)
  have hf4 : W4.frozen? ⟨w1.heap.size + 1, 4, none⟩ = false := (hb24.frozen (p := ⟨w1.heap.size + 1, 4, none⟩) (by show w1.heap.size + 1 < w1.heap.size + 2; omega)).trans (hfz 4)
  have hc4 := hC4.2.2.2.2
  have hRb4 : Rd W4 gb 0 Bb := hRb.below (hb12.trans (hb24.mono (by omega))) hgb1
  have hb04 : Below w.heap.size w W4 := hb01.trans ((hb12.trans (hb24.mono (by omega))).mono (by omega))
  clear hA hCf hfz hRb hb12
  have hA5 : Fr (W4.setCell ⟨w1.heap.size + 1, 4, none⟩ (.slice (some ⟨w3.heap.size, 0, none⟩) 40 C)) w1.heap.size D I E S (.slice (some ⟨gb, 0, none⟩) 40 cb) := hA4.other _ _ (by simp)
  have hC5 : Fr (W4.setCell ⟨w1.heap.size + 1, 4, none⟩ (.slice (some ⟨w3.heap.size, 0, none⟩) 40 C)) (w1.heap.size + 1) D I E S (.slice (some ⟨w3.heap.size, 0, none⟩) 40 C) := by
    obtain ⟨c0, c1, c2, c3, c4⟩ := hC4
    exact ⟨(World.cell?_setCell_other _ _ _ _ (by simp)).trans c0, (World.cell?_setCell_other _ _ _ _ (by simp)).trans c1, (World.cell?_setCell_other _ _ _ _ (by simp)).trans c2, (World.cell?_setCell_other _ _ _ _ (by simp)).trans c3, World.cell?_setCell_same _ _ _ c4⟩
  have hRb5 : Rd (W4.setCell ⟨w1.heap.size + 1, 4, none⟩ (.slice (some ⟨w3.heap.size, 0, none⟩) 40 C)) gb 0 Bb := hRb4.other _ _ (by show w1.heap.size + 1 ≠ gb; omega)
  have hRo5 : Rd (W4.setCell ⟨w1.heap.size + 1, 4, none⟩ (.slice (some ⟨w3.heap.size, 0, none⟩) 40 C)) w3.heap.size 0 Bo := hRo.other _ _ (by show w1.heap.size + 1 ≠ w3.heap.size; omega)
  have hz1 := hb01.size
  have hb05 : Below w.heap.size w (W4.setCell ⟨w1.heap.size + 1, 4, none⟩ (.slice (some ⟨w3.heap.size, 0, none⟩) 40 C)) := hb04.setCell (by show w.heap.size ≤ w1.heap.size + 1; omega) _
  have hz5 : (W4.setCell ⟨w1.heap.size + 1, 4, none⟩ (.slice (some ⟨w3.heap.size, 0, none⟩) 40 C)).heap.size = W4.heap.size := by simp
  obtain ⟨a50, a51, a52, a53, a54⟩ := hA5
  clear hA4 hC4 hRb4 hRo hb04 hb24
  go_wp2_with fail
  have hA5 : Fr (W4.setCell ⟨w1.heap.size + 1, 4, none⟩ (.slice (some ⟨w3.heap.size, 0, none⟩) 40 C)) w1.heap.size D I E S (.slice (some ⟨gb, 0, none⟩) 40 cb) := ⟨a50, a51, a52, a53, a54⟩
  clear a50 a51 a52 a53 a54 hc4 hf4 hby
  generalize (W4.setCell ⟨w1.heap.size + 1, 4, none⟩ (.slice (some ⟨w3.heap.size, 0, none⟩) 40 C)) = W5 at *
  refine (sealed_any K D I E S gb 0 cb Bb W5 (by omega) (by omega) hD1 hD3 hI hE hS hlb hbb hRb5).mono ?_
  rintro e w6 ⟨gx, rfl, hgx, hBx, hb6⟩
  have hz6 := hb6.size
  have hgo5 : w3.heap.size < W5.heap.size := hRo5.lt (by omega)
  obtain ⟨c60, c61, c62, c63, c64⟩ := hC5.below hb6 (by omega)
  go_wp2_with fail
  clear c60 c61 c62 c63 c64
  refine (sealed_any K D I E S w3.heap.size 0 C Bo w6 (by omega) (by omega) hD1 hD3 hI hE hS hlo hbo (hRo5.below hb6 hgo5)).mono ?_
  rintro e w7 ⟨gy, rfl, hgy, hBy, hb7⟩
  have hz7 := hb7.size
  have hb57 : Below W5.heap.size W5 w7 := hb6.trans (hb7.mono hz6)
  have hBx7 := hBx.below hb7 hBx.lt
  obtain ⟨a70, a71, a72, a73, a74⟩ := hA5.below hb57 (by omega)
  go_wp2_with fail
  clear a70 a71 a72 a73 a74
  refine (sstream_ok K _ _ 40 w7 (by omega) (by omega) (by omega) (by omega) (by omega) (by omega) (by omega) (by omega)).mono ?_
  rintro e w8 ⟨gs, rfl, hgs, hBs, hb8⟩
  have hz8 := hb8.size
  have hb58 : Below W5.heap.size W5 w8 := hb57.trans (hb8.mono (by omega))
  have hBx8 := hBx7.below hb8 hBx7.lt
  have hBy8 := hBy.below hb8 hBy.lt
  have hA8 := hA5.below hb58 (by omega)
  have hC8 := hC5.below hb58 (by omega)
  have hRb8 := hRb5.below hb58 (by omega)
  have hRo8 := hRo5.below hb58 hgo5
  have hb08 : Below w.heap.size w w8 := hb05.trans (hb58.mono (by omega))
  simp only [Int.toNat_natCast] at hBs
  clear hA5 hC5 hRb5 hRo5 hBx hBx7 hBy hb57 hb58 hb6 hb7 hb8 hb05 hb3 hb4 hb01
  have e40 : (40 : Int).toNat = 40 := rfl
  rw [e40] at hBs ⊢
  clear e40
  go_wp2_with fail
  have hsx : ∀ q, (convert 22 9 (.slice (some ⟨gx, 0, none⟩) 10 58)).run Try.prog (w8.drewN q) = .ok (.string (bstr ((Lbx.sealB K.toNat D I E S Bb).take 10))) (w8.drewN q) := fun q =>
    run_str _ gx 0 10 58 _ (sealB_ten_length _ _ _ _ _ _) ((hBx8.rd.take 10).drewN q)
  have hsy : ∀ q, (convert 22 9 (.slice (some ⟨gy, 0, none⟩) 10 58)).run Try.prog (w8.drewN q) = .ok (.string (bstr ((Lbx.sealB K.toNat D I E S Bb).take 10))) (w8.drewN q) := fun q => by
    rw [sealB_ten _ _ _ _ _ Bb Bo]
    exact run_str _ gy 0 10 58 _ (sealB_ten_length _ _ _ _ _ _) ((hBy8.rd.take 10).drewN q)
  go_loopw [15] (fun i wr => ∃ k : Nat, k ≤ 40 ∧ i = .int .i64 k ∧ ∃ q, wr = w8.drewN q) (fun i _ => 40 - (intOf i).toNat)
  case atStart => exact ⟨0, by omega, rfl, 0, rfl⟩
  case round =>
    obtain ⟨k, hk', rfl, q, rfl⟩ := hrel
    by_cases hlt : k < 40
    · have x1 := hBx8.cell (10 + k) (by rw [Lbx.sealB_length]; omega)
      have y1 := hBy8.cell (10 + k) (by rw [Lbx.sealB_length]; omega)
      have s1 := hBs.cell k (by rw [Lbx.strm_length]; exact hlt)
      have b1 := hRb8 k (by omega)
      have o1 := hRo8 k (by omega)
      rw [Nat.zero_add] at b1 o1
      have a4 := hA8.2.2.2.2
      have c4 := hC8.2.2.2.2
      have v1 := veiled_byte K.toNat D I E S Bb hlb hbb (by omega) (by omega) k hlt
      have v2 := veiled_byte K.toNat D I E S Bo hlo hbo (by omega) (by omega) k hlt
      have i1 : (10 + (k : Int)).toNat = 10 + k := by omega
      have l1 : (k : Int) < 40 := by omega
      have l2 : (10 + (k : Int)) < 58 := by omega
      clear hsx hsy hlb hlo
      go_wp2_with fail
      go_quiet (fail)
      go_wp2
      go_roundw
      case rel => exact ⟨k + 1, by omega, by go_num, _, rfl⟩
      case measure => simp [intOf]; omega
    · have hx0 : (10 : Int) ≤ 58 := by omega
      go_wp2_with fail
      go_quiet (fail)
      go_wp2
      go_ret
      exact ⟨ret_bool (by simp), below_drewN (below_drewN hb08 _) _⟩
end Go.Proofs.Ytloaefcgcniacaa
