import Derived.Test.YtalbdljajihpfaaKp
namespace Go.Proofs.Ytalbdljajihpfaa
open Go.RowKit
set_option linter.unusedVariables false

theorem list_ext_get {l m : List Nat} (hl : l.length = m.length) (h : ∀ k, k < l.length → l[k]?.getD 0 = m[k]?.getD 0) : l = m := by
  apply List.ext_getElem hl
  intro k h1 h2
  have := h k h1
  rw [List.getElem?_eq_getElem h1, List.getElem?_eq_getElem h2] at this
  exact this

theorem xor_back (a b : Nat) : a ^^^ (a ^^^ b) = b := by rw [← Nat.xor_assoc, Nat.xor_self, Nat.zero_xor]

theorem veil_veil (K E S : Nat) (l : List Nat) : Lbx.veil K E S (Lbx.veil K E S l) = l := by
  apply list_ext_get
  · rw [Lbx.veil_length, Lbx.veil_length]
  · intro k hk
    rw [Lbx.veil_length, Lbx.veil_length] at hk
    rw [Lbx.veil_get _ _ _ _ _ (by rw [Lbx.veil_length]; exact hk), Lbx.veil_get _ _ _ _ _ hk, Lbx.veil_length, xor_back]

theorem headB_eq (K D I E S : Nat) (body : List Nat) : Lbx.headB K D I E S body =
    D :: I :: (E / 16777216 % 256) :: (E / 65536 % 256) :: (E / 256 % 256) :: (E % 256) :: (S / 16777216 % 256) :: (S / 65536 % 256) :: (S / 256 % 256) :: (S % 256) :: Lbx.veil K E S body := rfl

theorem val4_of (a b c d : Nat) (l : List Nat) (k : Nat) (h0 : l[k]?.getD 0 = a) (h1 : l[k + 1]?.getD 0 = b) (h2 : l[k + 2]?.getD 0 = c) (h3 : l[k + 3]?.getD 0 = d) :
    val4 l k = a * 16777216 + b * 65536 + c * 256 + d := by unfold val4; rw [h0, h1, h2, h3]

theorem four_val (E : Nat) (h : E < 4294967296) : E / 16777216 % 256 * 16777216 + E / 65536 % 256 * 65536 + E / 256 % 256 * 256 + E % 256 = E := by omega

theorem sealB_eq (K D I E S : Nat) (body : List Nat) : Lbx.sealB K D I E S body = retag K (Lbx.headB K D I E S body) := rfl

theorem sealB_take (K D I E S : Nat) (body : List Nat) (hn : body.length = 40) : (Lbx.sealB K D I E S body).take 50 = Lbx.headB K D I E S body := by
  have hl : (Lbx.headB K D I E S body).length = 50 := by rw [Lbx.headB_length, hn]
  unfold Lbx.sealB
  rw [List.append_assoc, List.take_append_of_le_length (by omega), List.take_of_length_le (by omega)]

theorem sealB_opens (K D I E S : Nat) (body : List Nat) (hn : body.length = 40) (h1 : 1 ≤ D) (h3 : D ≤ 3) : opensB K (Lbx.sealB K D I E S body) := by
  refine ⟨by rw [Lbx.sealB_length, hn], ?_, ?_, ?_⟩
  · exact h1
  · exact h3
  · rw [sealB_take _ _ _ _ _ _ hn]
    rfl

theorem sealB_0 (K D I E S : Nat) (body : List Nat) : (Lbx.sealB K D I E S body)[0]?.getD 0 = D := rfl
theorem sealB_1 (K D I E S : Nat) (body : List Nat) : (Lbx.sealB K D I E S body)[1]?.getD 0 = I := rfl
theorem sealB_2 (K D I E S : Nat) (body : List Nat) (h : E < 4294967296) : val4 (Lbx.sealB K D I E S body) 2 = E := by
  rw [val4_of (E / 16777216 % 256) (E / 65536 % 256) (E / 256 % 256) (E % 256) _ 2 rfl rfl rfl rfl]
  exact four_val E h
theorem sealB_6 (K D I E S : Nat) (body : List Nat) (h : S < 4294967296) : val4 (Lbx.sealB K D I E S body) 6 = S := by
  rw [val4_of (S / 16777216 % 256) (S / 65536 % 256) (S / 256 % 256) (S % 256) _ 6 rfl rfl rfl rfl]
  exact four_val S h
theorem headB_drop (K D I E S : Nat) (body : List Nat) : (Lbx.headB K D I E S body).drop 10 = Lbx.veil K E S body := rfl
theorem sealB_body (K D I E S : Nat) (body : List Nat) (hn : body.length = 40) : ((Lbx.sealB K D I E S body).drop 10).take 40 = Lbx.veil K E S body := by
  have e : ((Lbx.sealB K D I E S body).drop 10).take 40 = ((Lbx.sealB K D I E S body).take 50).drop 10 := by rw [List.drop_take]
  rw [e, sealB_take _ _ _ _ _ _ hn, headB_drop]

end Go.Proofs.Ytalbdljajihpfaa
