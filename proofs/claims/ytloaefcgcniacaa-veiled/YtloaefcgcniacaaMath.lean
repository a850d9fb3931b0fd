namespace Lbx

def stp (x v : Nat) : Nat :=
  ((x ^^^ v) * 668265261 % 4294967296) ^^^ ((x ^^^ v) * 668265261 % 4294967296 / 32768)

theorem xlt {a b : Nat} (ha : a < 4294967296) (hb : b < 4294967296) : a ^^^ b < 4294967296 := by
  have h2 : (4294967296 : Nat) = 2 ^ 32 := by decide
  rw [h2] at ha hb ⊢
  exact Nat.xor_lt_two_pow ha hb

theorem xlt8 {a b : Nat} (ha : a < 256) (hb : b < 256) : a ^^^ b < 256 :=
  Nat.xor_lt_two_pow (n := 8) ha hb

theorem stp_lt (x v : Nat) : stp x v < 4294967296 := by
  unfold stp
  exact xlt (by omega) (by omega)

theorem mul_inj {a b : Nat} (ha : a < 4294967296) (hb : b < 4294967296)
    (h : a * 668265261 % 4294967296 = b * 668265261 % 4294967296) : a = b := by
  have key : ∀ c : Nat, c < 4294967296 → (c * 668265261 % 4294967296) * 4218002597 % 4294967296 = c := by
    intro c hc
    rw [Nat.mod_mul_mod, Nat.mul_assoc]
    have e : (668265261 * 4218002597 : Nat) = 656290121 * 4294967296 + 1 := by decide
    rw [e, Nat.mul_add, Nat.mul_one, ← Nat.mul_assoc, Nat.add_comm, Nat.add_mul_mod_self_right]
    exact Nat.mod_eq_of_lt hc
  rw [← key a ha, ← key b hb, h]

theorem sh_inj {a b : Nat} (ha : a < 4294967296) (hb : b < 4294967296)
    (h : a ^^^ (a / 32768) = b ^^^ (b / 32768)) : a = b := by
  have hbit : ∀ (y : Nat) (i : Nat), (y ^^^ (y / 32768)).testBit i = (y.testBit i ^^ y.testBit (i + 15)) := by
    intro y i
    rw [Nat.testBit_xor]
    have : y / 32768 = y >>> 15 := by rw [Nat.shiftRight_eq_div_pow]
    rw [this, Nat.testBit_shiftRight, Nat.add_comm]
  have hz : ∀ (y : Nat), y < 4294967296 → ∀ i, 32 ≤ i → y.testBit i = false := by
    intro y hy i hi
    have h1 : 2 ^ 32 ≤ 2 ^ i := Nat.pow_le_pow_right (by decide) hi
    have h2 : (2 : Nat) ^ 32 = 4294967296 := by decide
    rw [h2] at h1
    exact Nat.testBit_lt_two_pow (Nat.lt_of_lt_of_le hy h1)
  have hh : ∀ i, (a.testBit i ^^ a.testBit (i + 15)) = (b.testBit i ^^ b.testBit (i + 15)) := by
    intro i
    rw [← hbit, ← hbit, h]
  have s1 : ∀ i, 17 ≤ i → a.testBit i = b.testBit i := by
    intro i hi
    have := hh i
    rw [hz a ha (i + 15) (by omega), hz b hb (i + 15) (by omega)] at this
    simpa using this
  have s2 : ∀ i, 2 ≤ i → a.testBit i = b.testBit i := by
    intro i hi
    have := hh i
    rw [s1 (i + 15) (by omega)] at this
    simpa using this
  apply Nat.eq_of_testBit_eq
  intro i
  have := hh i
  rw [s2 (i + 15) (by omega)] at this
  simpa using this

theorem xor_inj_left {a b v : Nat} (h : a ^^^ v = b ^^^ v) : a = b := by
  have : a ^^^ v ^^^ v = b ^^^ v ^^^ v := by rw [h]
  simpa [Nat.xor_assoc] using this

theorem stp_inj {x y u v : Nat} (hx : x < 4294967296) (hy : y < 4294967296) (hu : u < 4294967296) (hv : v < 4294967296)
    (h : stp x u = stp y v) : x ^^^ u = y ^^^ v := by
  unfold stp at h
  have h3 := sh_inj (a := (x ^^^ u) * 668265261 % 4294967296) (b := (y ^^^ v) * 668265261 % 4294967296) (Nat.mod_lt _ (by decide)) (Nat.mod_lt _ (by decide)) h
  exact mul_inj (xlt hx hu) (xlt hy hv) h3

theorem stp_inj_left {x y v : Nat} (hx : x < 4294967296) (hy : y < 4294967296) (hv : v < 4294967296)
    (h : stp x v = stp y v) : x = y := xor_inj_left (stp_inj hx hy hv hv h)

theorem stp_inj_right {x u v : Nat} (hx : x < 4294967296) (hu : u < 4294967296) (hv : v < 4294967296)
    (h : stp x u = stp x v) : u = v := by
  have := stp_inj hx hx hu hv h
  rw [Nat.xor_comm x u, Nat.xor_comm x v] at this
  exact xor_inj_left this

def sumBy (key : Nat) (l : List Nat) : Nat := l.foldl stp key

theorem sumBy_nil (key : Nat) : sumBy key [] = key := rfl
theorem sumBy_cons (key a : Nat) (l : List Nat) : sumBy key (a :: l) = sumBy (stp key a) l := rfl

theorem sumBy_lt {key : Nat} (l : List Nat) (h : key < 4294967296) : sumBy key l < 4294967296 := by
  induction l generalizing key with
  | nil => rw [sumBy_nil]; exact h
  | cons a l ih => rw [sumBy_cons]; exact ih (stp_lt key a)

theorem sumBy_append (key : Nat) (l m : List Nat) : sumBy key (l ++ m) = sumBy (sumBy key l) m := by
  unfold sumBy
  rw [List.foldl_append]

theorem sumBy_snoc (key : Nat) (l : List Nat) (v : Nat) : sumBy key (l ++ [v]) = stp (sumBy key l) v := by
  rw [sumBy_append, sumBy_cons, sumBy_nil]

theorem sumBy_inj {k k' : Nat} (l : List Nat) (hk : k < 4294967296) (hk' : k' < 4294967296)
    (hl : ∀ x ∈ l, x < 4294967296) (h : sumBy k l = sumBy k' l) : k = k' := by
  induction l generalizing k k' with
  | nil => rw [sumBy_nil, sumBy_nil] at h; exact h
  | cons a l ih =>
    rw [sumBy_cons, sumBy_cons] at h
    have := ih (stp_lt k a) (stp_lt k' a) (fun x hx => hl x (List.mem_cons_of_mem _ hx)) h
    exact stp_inj_left hk hk' (hl a List.mem_cons_self) this

def strm (key e s n : Nat) : List Nat := (List.range n).map fun i => sumBy key [1, e, s, i] % 256

theorem strm_length (key e s n : Nat) : (strm key e s n).length = n := by simp [strm]

theorem map_range_get (f : Nat → Nat) (n k : Nat) (h : k < n) : ((List.range n).map f)[k]?.getD 0 = f k := by
  rw [List.getElem?_map, List.getElem?_range h]
  rfl

theorem sumBy_four (key a b c d : Nat) : sumBy key [a, b, c, d] = stp (sumBy key [a, b, c]) d := by
  have e1 : [a, b, c, d] = [a, b, c] ++ [d] := rfl
  rw [e1, sumBy_snoc]

theorem strm_get (key e s n k : Nat) (h : k < n) : (strm key e s n)[k]?.getD 0 = stp (sumBy key [1, e, s]) k % 256 := by
  rw [← sumBy_four]
  exact map_range_get (fun i => sumBy key [1, e, s, i] % 256) n k h

theorem strm_lt (key e s n : Nat) : ∀ x ∈ strm key e s n, x < 256 := by
  intro x hx
  simp only [strm, List.mem_map] at hx
  obtain ⟨i, _, rfl⟩ := hx
  exact Nat.mod_lt _ (by decide)

/-- the first k places as they are to be, the rest as they were -/
def part (new old : List Nat) (k : Nat) : List Nat := new.take k ++ old.drop k

theorem part_zero (new old : List Nat) : part new old 0 = old := by simp [part]
theorem part_all (new old : List Nat) (h : new.length = old.length) : part new old old.length = new := by
  simp [part, ← h]
theorem part_length (new old : List Nat) (k : Nat) (h : new.length = old.length) : (part new old k).length = old.length := by
  simp [part]; omega
theorem part_succ (new old : List Nat) (k : Nat) (h : new.length = old.length) (hk : k < old.length) :
    (part new old k).set k (new[k]?.getD 0) = part new old (k + 1) := by
  unfold part
  have hk' : k < new.length := by omega
  have hl : (new.take k).length = k := by rw [List.length_take]; omega
  have e0 : k - k = 0 := by omega
  rw [List.take_succ_eq_append_getElem hk', List.drop_eq_getElem_cons hk, List.set_append_right _ _ (Nat.le_of_eq hl), hl, e0, List.set_cons_zero,
    List.append_assoc, List.getElem?_eq_getElem hk']
  rfl
theorem part_get (new old : List Nat) (k : Nat) (h : new.length = old.length) (hk : k < old.length) :
    (part new old k)[k]?.getD 0 = old[k]?.getD 0 := by
  unfold part
  have : (new.take k).length = k := by simp; omega
  rw [List.getElem?_append_right (by omega), this]
  simp

end Lbx

namespace Lbx

/-- byte by byte, the exclusive or with the stream -/
def veil (key e s : Nat) (l : List Nat) : List Nat := List.zipWith (· ^^^ ·) (strm key e s l.length) l

theorem veil_length (key e s : Nat) (l : List Nat) : (veil key e s l).length = l.length := by
  simp [veil, strm_length]

theorem zip_get (a b : List Nat) (k : Nat) (ha : k < a.length) (hb : k < b.length) :
    (List.zipWith (· ^^^ ·) a b)[k]?.getD 0 = a[k]?.getD 0 ^^^ b[k]?.getD 0 := by
  simp [List.getElem?_zipWith, ha, hb]

theorem veil_get (key e s : Nat) (l : List Nat) (k : Nat) (h : k < l.length) :
    (veil key e s l)[k]?.getD 0 = (strm key e s l.length)[k]?.getD 0 ^^^ l[k]?.getD 0 :=
  zip_get _ _ k (by rw [strm_length]; exact h) h

theorem get_lt (l : List Nat) (B : Nat) (hB : 0 < B) (h : ∀ x ∈ l, x < B) (k : Nat) : l[k]?.getD 0 < B := by
  by_cases hk : k < l.length
  · rw [List.getElem?_eq_getElem hk]
    exact h _ (List.getElem_mem hk)
  · rw [List.getElem?_eq_none (by omega)]
    exact hB

theorem veil_lt (key e s : Nat) (l : List Nat) (hl : ∀ x ∈ l, x < 256) : ∀ x ∈ veil key e s l, x < 256 := by
  intro x hx
  obtain ⟨k, hk, rfl⟩ := List.getElem_of_mem hx
  have h := veil_get key e s l k (by rwa [veil_length] at hk)
  rw [List.getElem?_eq_getElem hk] at h
  have h' : (veil key e s l)[k] = (strm key e s l.length)[k]?.getD 0 ^^^ l[k]?.getD 0 := h
  rw [h']
  exact xlt8 (get_lt _ 256 (by decide) (strm_lt key e s l.length) k) (get_lt _ 256 (by decide) hl k)

end Lbx

namespace Lbx

/-- a number in four bytes -/
def four (n : Nat) : List Nat := [n / 16777216 % 256, n / 65536 % 256, n / 256 % 256, n % 256]

theorem four_lt (n : Nat) : ∀ x ∈ four n, x < 256 := by
  intro x hx
  simp only [four, List.mem_cons, List.not_mem_nil, or_false] at hx
  rcases hx with rfl | rfl | rfl | rfl <;> exact Nat.mod_lt _ (by decide)

theorem four_length (n : Nat) : (four n).length = 4 := rfl

end Lbx

namespace Lbx

/-- what stands ahead of the tag -/
def headB (K kd ix E S : Nat) (body : List Nat) : List Nat := [kd, ix] ++ four E ++ four S ++ veil K E S body
/-- a sealed frame's bytes -/
def sealB (K kd ix E S : Nat) (body : List Nat) : List Nat :=
  headB K kd ix E S body ++ four (sumBy K (2 :: headB K kd ix E S body)) ++ four (sumBy K (3 :: headB K kd ix E S body))

theorem headB_length (K kd ix E S : Nat) (body : List Nat) : (headB K kd ix E S body).length = 10 + body.length := by
  simp only [headB, List.length_append, four_length, veil_length, List.length_cons, List.length_nil]
theorem sealB_length (K kd ix E S : Nat) (body : List Nat) : (sealB K kd ix E S body).length = 18 + body.length := by
  simp only [sealB, List.length_append, four_length, headB_length]
  omega
theorem headB_lt (K kd ix E S : Nat) (body : List Nat) (h1 : kd < 256) (h2 : ix < 256) (hl : ∀ x ∈ body, x < 256) : ∀ x ∈ headB K kd ix E S body, x < 256 := by
  intro x hx
  simp only [headB, List.mem_append, List.mem_cons, List.not_mem_nil, or_false] at hx
  rcases hx with (((rfl | rfl) | hx) | hx) | hx
  · exact h1
  · exact h2
  · exact four_lt _ x hx
  · exact four_lt _ x hx
  · exact veil_lt _ _ _ _ hl x hx
theorem sealB_lt (K kd ix E S : Nat) (body : List Nat) (h1 : kd < 256) (h2 : ix < 256) (hl : ∀ x ∈ body, x < 256) : ∀ x ∈ sealB K kd ix E S body, x < 256 := by
  intro x hx
  simp only [sealB, List.mem_append] at hx
  rcases hx with (hx | hx) | hx
  · exact headB_lt _ _ _ _ _ _ h1 h2 hl x hx
  · exact four_lt _ x hx
  · exact four_lt _ x hx

end Lbx
