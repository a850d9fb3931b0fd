import Derived.Test.YtloaefcgcniacaaVa
namespace Go.Proofs.Ytloaefcgcniacaa
open Go.RowKit
set_option linter.unusedVariables false


theorem sumBy_set_ne (l : List Nat) (K i v : Nat) (hK : K < 4294967296) (hi : i < l.length) (hl : ∀ x ∈ l, x < 4294967296) (hv : v < 4294967296) (hne : v ≠ l[i]?.getD 0) :
    Lbx.sumBy K (l.set i v) ≠ Lbx.sumBy K l := by
  induction l generalizing K i with
  | nil => simp at hi
  | cons a l ih =>
    have ha := hl a List.mem_cons_self
    have hl' : ∀ x ∈ l, x < 4294967296 := fun x hx => hl x (List.mem_cons_of_mem _ hx)
    cases i with
    | zero =>
      rw [List.set_cons_zero, Lbx.sumBy_cons, Lbx.sumBy_cons]
      intro e
      have h1 := Lbx.sumBy_inj l (Lbx.stp_lt K v) (Lbx.stp_lt K a) hl' e
      have h2 := Lbx.stp_inj_right hK hv ha h1
      apply hne
      rw [h2]
      rfl
    | succ i =>
      rw [List.set_cons_succ, Lbx.sumBy_cons, Lbx.sumBy_cons]
      refine ih (Lbx.stp K a) i (Lbx.stp_lt K a) (by rw [List.length_cons] at hi; omega) hl' ?_
      intro e
      apply hne
      rw [e]
      rfl

theorem four_inj {a b : Nat} (ha : a < 4294967296) (hb : b < 4294967296) (h : Lbx.four a = Lbx.four b) : a = b := by
  simp only [Lbx.four, List.cons.injEq, and_true] at h
  obtain ⟨h1, h2, h3, h4⟩ := h
  omega



theorem retag_inj {K K2 : Nat} {h h2 : List Nat} (hK : K < 4294967296) (hK2 : K2 < 4294967296) (e : h.length = h2.length) (heq : retag K h = retag K2 h2) :
    h = h2 ∧ Lbx.sumBy K (2 :: h) = Lbx.sumBy K2 (2 :: h2) := by
  unfold retag at heq
  rw [List.append_assoc, List.append_assoc] at heq
  obtain ⟨h1, h3⟩ := List.append_inj heq e
  obtain ⟨h4, _⟩ := List.append_inj h3 (by rw [Lbx.four_length, Lbx.four_length])
  exact ⟨h1, four_inj (Lbx.sumBy_lt _ hK) (Lbx.sumBy_lt _ hK2) h4⟩

theorem other_key (K K2 D I E S : Nat) (body : List Nat) (hK : K < 4294967296) (hK2 : K2 < 4294967296) (hne : K2 ≠ K) (hn : body.length = 40) (hl : ∀ x ∈ body, x < 256) (hD : D < 256) (hI : I < 256) :
    ¬ opensB K2 (Lbx.sealB K D I E S body) := by
  rintro ⟨_, _, _, h⟩
  rw [sealB_take _ _ _ _ _ _ hn, sealB_eq] at h
  obtain ⟨_, h2⟩ := retag_inj hK2 hK rfl h
  refine hne (Lbx.sumBy_inj _ hK2 hK ?_ h2)
  intro x hx
  rcases List.mem_cons.1 hx with rfl | hx
  · decide
  · have := Lbx.headB_lt K D I E S body hD hI hl x hx
    omega

theorem turned (K D I E S i v : Nat) (body : List Nat) (hK : K < 4294967296) (hn : body.length = 40) (hl : ∀ x ∈ body, x < 256) (hD : D < 256) (hI : I < 256) (hi : i < 58) (hv : v < 256)
    (hne : v ≠ (Lbx.sealB K D I E S body)[i]?.getD 0) : ¬ opensB K ((Lbx.sealB K D I E S body).set i v) := by
  rintro ⟨_, _, _, h⟩
  have hlen : (Lbx.headB K D I E S body).length = 50 := by rw [Lbx.headB_length, hn]
  have hslen : (Lbx.sealB K D I E S body).length = 58 := by rw [Lbx.sealB_length, hn]
  by_cases h50 : i < 50
  · have e1 : ((Lbx.sealB K D I E S body).set i v).take 50 = (Lbx.headB K D I E S body).set i v := by
      rw [List.take_set, sealB_take _ _ _ _ _ _ hn]
    have e2 : (Lbx.sealB K D I E S body).set i v = (Lbx.headB K D I E S body).set i v ++ (Lbx.four (Lbx.sumBy K (2 :: Lbx.headB K D I E S body)) ++ Lbx.four (Lbx.sumBy K (3 :: Lbx.headB K D I E S body))) := by
      unfold Lbx.sealB
      rw [List.append_assoc, List.set_append_left _ _ (by omega)]
    rw [e1, e2] at h
    unfold retag at h
    rw [List.append_assoc] at h
    have h3 := List.append_cancel_left h
    obtain ⟨h4, _⟩ := List.append_inj h3 (by rw [Lbx.four_length, Lbx.four_length])
    have h5 := four_inj (Lbx.sumBy_lt _ hK) (Lbx.sumBy_lt _ hK) h4
    rw [Lbx.sumBy_cons, Lbx.sumBy_cons] at h5
    refine sumBy_set_ne (Lbx.headB K D I E S body) (Lbx.stp K 2) i v (Lbx.stp_lt K 2) (by omega) ?_ (by omega) ?_ h5
    · intro x hx
      have := Lbx.headB_lt K D I E S body hD hI hl x hx
      omega
    · intro e
      apply hne
      rw [e, ← sealB_take K D I E S body hn, List.getElem?_take, if_pos h50]
  · have e1 : ((Lbx.sealB K D I E S body).set i v).take 50 = Lbx.headB K D I E S body := by
      rw [List.take_set_of_le (by omega), sealB_take _ _ _ _ _ _ hn]
    rw [e1, ← sealB_eq] at h
    apply hne
    rw [h, List.getElem?_set_self (by omega)]
    rfl
end Go.Proofs.Ytloaefcgcniacaa
