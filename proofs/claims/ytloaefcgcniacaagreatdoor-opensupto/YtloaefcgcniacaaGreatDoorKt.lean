import Derived.Test.YtloaefcgcniacaaGreatDoorKm
import Derived.Laws.CopyOwn
namespace Go.Proofs.YtloaefcgcniacaaGreatDoor
open Go.RowKit
set_option linter.unusedVariables false

/-- A string's bytes. -/
def sbytes (s : ByteArray) : List Nat := s.data.toList.map UInt8.toNat

theorem sbytes_lt (s : ByteArray) : ∀ x ∈ sbytes s, x < 256 := by
  intro x hx
  obtain ⟨b, _, rfl⟩ := List.mem_map.1 hx
  exact b.toNat_lt

theorem data_len (s : ByteArray) : s.data.toList.length = s.size := by rw [Array.length_toList]; rfl

theorem sbytes_length (s : ByteArray) : (sbytes s).length = s.size := by rw [sbytes, List.length_map, data_len]

theorem sbytes_bstr (l : List Nat) (hl : ∀ x ∈ l, x < 256) : sbytes (bstr l) = l := by
  unfold sbytes bstr
  exact ofNat_back l hl

/-- The first N bytes, noughts behind. -/
def fixB (m : List Nat) (N : Nat) : List Nat := m.take N ++ List.replicate (N - m.length) 0

theorem fixB_length (m : List Nat) (N : Nat) : (fixB m N).length = N := by simp [fixB]; omega

theorem fixB_lt (m : List Nat) (N : Nat) (h : ∀ x ∈ m, x < 256) : ∀ x ∈ fixB m N, x < 256 := by
  intro x hx
  rcases List.mem_append.1 hx with hx | hx
  · exact h x (List.mem_of_mem_take hx)
  · rw [List.eq_of_mem_replicate hx]; decide

theorem size5 : (Tryz.prog.info? 5).map (·.size) = some 1 := by kernel_rfl

theorem run_copy_str (w : World) (ty : TypeId) (g N : Nat) (s : ByteArray) (hB : Blk w g (List.replicate N 0)) :
    ∃ v W', (Builtin.copy_ #[66, 9] ty #[.slice (some ⟨g, 0, none⟩) N N, .string s]).run Tryz.prog w = .ok v W' ∧ Blk W' g (fixB (sbytes s) N) ∧ Below g w W' := by
  obtain ⟨cs, hcs⟩ : ∃ cs, cs = List.take (Nat.min s.size N) (List.map (fun b : UInt8 => Value.int IntKind.u8 (b.toNat : Int)) s.data.toList) := ⟨_, rfl⟩
  have hsz := data_len s
  have hlen : cs.length = Nat.min s.size N := by
    rw [hcs, List.length_take, List.length_map, hsz]
    have h1 : Nat.min s.size N ≤ s.size := Nat.min_le_left _ _
    omega
  have h2 : Nat.min s.size N ≤ N := Nat.min_le_right _ _
  have hone : ∀ v ∈ cs, v.oneCell' = true := by
    intro v hv
    rw [hcs] at hv
    obtain ⟨b, _, rfl⟩ := List.mem_map.1 (List.mem_of_mem_take hv)
    rfl
  have hst := run_storeCells_at Tryz.prog g 0 5 cs 0 (blkOf (List.replicate N 0)) w hB (by simp [blkOf]; omega) hone
  simp only [Nat.add_zero, Nat.zero_add, List.take_zero, List.nil_append] at hst
  have ec : cs = ((sbytes s).take N).map byteV := by
    rw [hcs]
    apply List.ext_getElem?
    intro i
    simp only [List.getElem?_take, List.getElem?_map, sbytes]
    by_cases hi : i < s.data.toList.length
    · by_cases hN : i < N
      · have h5 : i < Nat.min s.size N := by rw [hsz] at hi; exact Nat.lt_min.2 ⟨hi, hN⟩
        simp [h5, hN]
        rfl
      · have h5 : ¬ i < Nat.min s.size N := by omega
        simp [h5, hN]
    · have h5 : ¬ i < Nat.min s.size N := by have h6 : Nat.min s.size N ≤ s.size := Nat.min_le_left _ _; rw [hsz] at hi; omega
      rw [if_neg h5, List.getElem?_eq_none (by omega)]
      simp
  have e : (cs ++ List.drop cs.length (blkOf (List.replicate N 0)).toList).toArray = blkOf (fixB (sbytes s) N) := by
    unfold fixB blkOf
    rw [List.map_append, ← ec]
    congr 2
    simp only [List.map_replicate, List.drop_replicate, hlen]
    congr 1
    rw [sbytes_length]
    simp only [Nat.min_def]
    split <;> omega
  rw [e] at hst
  refine ⟨goInt (Nat.min s.size N), w.setRow g (blkOf (fixB (sbytes s) N)), ?_, setRow_heap w g _ _ 5 _ hB, below_setRow (Below.refl g w) (Nat.le_refl _) _⟩
  cases hq : Tryz.prog.info? 5 with
  | none => have := size5; simp [hq] at this
  | some i =>
    simp [Builtin.copy_, run_underlying Tryz.underlying66, Builtin.lenOf, Builtin.firstCells, sizeOf, typeInfo, hq]
    rw [← hcs, hst]
    simp [Result.andThen]

theorem run_bytes (s : ByteArray) (w : World) : (convert 9 66 (.string s)).run Tryz.prog w = .ok (.slice (some ⟨w.heap.size, 0, none⟩) s.size (grownCap w s.size 0 5)) (Lib.bytesWorld w 5 s) :=
  Lib.run_convert_string_bytes w 9 66 5 s Tryz.underlying9 Tryz.underlying66 Tryz.underlying5

theorem bytes_rd (s : ByteArray) (w : World) : Rd (Lib.bytesWorld w 5 s) w.heap.size 0 (sbytes s) := by
  intro i hi
  rw [sbytes_length] at hi
  rw [Nat.zero_add, Lib.bytesWorld_cell w 5 s i hi]
  have h2 : i < s.data.toList.length := by rw [data_len]; exact hi
  simp only [sbytes, List.getElem?_map, List.getD_eq_getElem?_getD, List.getElem?_eq_getElem h2, Option.map_some, Option.getD_some]

theorem bytes_below (s : ByteArray) (w : World) : Below w.heap.size w (Lib.bytesWorld w 5 s) :=
  ⟨rfl, rfl, rfl, by rw [Lib.bytesWorld_size]; omega, fun k hk => Lib.bytesWorld_at_old w 5 s k hk⟩

theorem list_ext_get {l m : List Nat} (hl : l.length = m.length) (h : ∀ k, k < l.length → l[k]?.getD 0 = m[k]?.getD 0) : l = m := by
  apply List.ext_getElem hl
  intro k h1 h2
  have := h k h1
  rw [List.getElem?_eq_getElem h1, List.getElem?_eq_getElem h2] at this
  exact this

theorem xor_back (a b : Nat) : a ^^^ (a ^^^ b) = b := by rw [← Nat.xor_assoc, Nat.xor_self, Nat.zero_xor]

theorem veil_veil (K E S : Nat) (l : List Nat) : Lbx.veil K E S (Lbx.veil K E S l) = l := by
  apply list_ext_get
  · rw [Lbx.veil_length, Lbx.veil_length]
  · intro k hk
    rw [Lbx.veil_length, Lbx.veil_length] at hk
    rw [Lbx.veil_get _ _ _ _ _ (by rw [Lbx.veil_length]; exact hk), Lbx.veil_get _ _ _ _ _ hk, Lbx.veil_length, xor_back]

theorem headB_eq (K D I E S : Nat) (body : List Nat) : Lbx.headB K D I E S body =
    D :: I :: (E / 16777216 % 256) :: (E / 65536 % 256) :: (E / 256 % 256) :: (E % 256) :: (S / 16777216 % 256) :: (S / 65536 % 256) :: (S / 256 % 256) :: (S % 256) :: Lbx.veil K E S body := rfl

theorem val4_of (a b c d : Nat) (l : List Nat) (k : Nat) (h0 : l[k]?.getD 0 = a) (h1 : l[k + 1]?.getD 0 = b) (h2 : l[k + 2]?.getD 0 = c) (h3 : l[k + 3]?.getD 0 = d) :
    val4 l k = a * 16777216 + b * 65536 + c * 256 + d := by unfold val4; rw [h0, h1, h2, h3]

theorem four_val (E : Nat) (h : E < 4294967296) : E / 16777216 % 256 * 16777216 + E / 65536 % 256 * 65536 + E / 256 % 256 * 256 + E % 256 = E := by omega

theorem sealB_eq (K D I E S : Nat) (body : List Nat) : Lbx.sealB K D I E S body = retag K (Lbx.headB K D I E S body) := rfl

theorem sealB_take (K D I E S : Nat) (body : List Nat) (hn : body.length = 40) : (Lbx.sealB K D I E S body).take 50 = Lbx.headB K D I E S body := by
  have hl : (Lbx.headB K D I E S body).length = 50 := by rw [Lbx.headB_length, hn]
  unfold Lbx.sealB
  rw [List.append_assoc, List.take_append_of_le_length (by omega), List.take_of_length_le (by omega)]

theorem sealB_opens (K D I E S : Nat) (body : List Nat) (hn : body.length = 40) (h1 : 1 ≤ D) (h3 : D ≤ 3) : opensB K (Lbx.sealB K D I E S body) := by
  refine ⟨by rw [Lbx.sealB_length, hn], ?_, ?_, ?_⟩
  · exact h1
  · exact h3
  · rw [sealB_take _ _ _ _ _ _ hn]
    rfl

theorem sealB_0 (K D I E S : Nat) (body : List Nat) : (Lbx.sealB K D I E S body)[0]?.getD 0 = D := rfl

theorem sealB_1 (K D I E S : Nat) (body : List Nat) : (Lbx.sealB K D I E S body)[1]?.getD 0 = I := rfl

theorem sealB_2 (K D I E S : Nat) (body : List Nat) (h : E < 4294967296) : val4 (Lbx.sealB K D I E S body) 2 = E := by
  rw [val4_of (E / 16777216 % 256) (E / 65536 % 256) (E / 256 % 256) (E % 256) _ 2 rfl rfl rfl rfl]
  exact four_val E h

theorem sealB_6 (K D I E S : Nat) (body : List Nat) (h : S < 4294967296) : val4 (Lbx.sealB K D I E S body) 6 = S := by
  rw [val4_of (S / 16777216 % 256) (S / 65536 % 256) (S / 256 % 256) (S % 256) _ 6 rfl rfl rfl rfl]
  exact four_val S h

theorem headB_drop (K D I E S : Nat) (body : List Nat) : (Lbx.headB K D I E S body).drop 10 = Lbx.veil K E S body := rfl

theorem sealB_body (K D I E S : Nat) (body : List Nat) (hn : body.length = 40) : ((Lbx.sealB K D I E S body).drop 10).take 40 = Lbx.veil K E S body := by
  have e : ((Lbx.sealB K D I E S body).drop 10).take 40 = ((Lbx.sealB K D I E S body).take 50).drop 10 := by rw [List.drop_take]
  rw [e, sealB_take _ _ _ _ _ _ hn, headB_drop]

theorem Blk.drewN {w : World} {g : Nat} {l : List Nat} (h : Blk w g l) (n : Nat) : Blk (w.drewN n) g l := by
  unfold Blk at h ⊢
  simpa using h

/-- A frame's variable. -/
def Fr (w : World) (g D I E S : Nat) (sl : Value) : Prop :=
  w.cell? ⟨g, 0, none⟩ = some (.int .i64 (D : Int)) ∧ w.cell? ⟨g, 1, none⟩ = some (.int .i64 (I : Int)) ∧ w.cell? ⟨g, 2, none⟩ = some (.int .i64 (E : Int)) ∧ w.cell? ⟨g, 3, none⟩ = some (.int .i64 (S : Int)) ∧ w.cell? ⟨g, 4, none⟩ = some sl

theorem Fr.below {w w' : World} {g D I E S B : Nat} {sl : Value} (h : Fr w g D I E S sl) (hb : Below B w w') (hg : g < B) : Fr w' g D I E S sl :=
  ⟨(hb.cell (p := ⟨g, 0, none⟩) hg).trans h.1, (hb.cell (p := ⟨g, 1, none⟩) hg).trans h.2.1, (hb.cell (p := ⟨g, 2, none⟩) hg).trans h.2.2.1, (hb.cell (p := ⟨g, 3, none⟩) hg).trans h.2.2.2.1, (hb.cell (p := ⟨g, 4, none⟩) hg).trans h.2.2.2.2⟩

theorem Fr.other {w : World} {g D I E S : Nat} {sl : Value} (h : Fr w g D I E S sl) (a : Addr) (v : Value) (hne : a.block ≠ g) : Fr (w.setCell a v) g D I E S sl :=
  ⟨(World.cell?_setCell_far _ _ _ _ hne).trans h.1, (World.cell?_setCell_far _ _ _ _ hne).trans h.2.1, (World.cell?_setCell_far _ _ _ _ hne).trans h.2.2.1, (World.cell?_setCell_far _ _ _ _ hne).trans h.2.2.2.1, (World.cell?_setCell_far _ _ _ _ hne).trans h.2.2.2.2⟩

theorem fr_new (w : World) (D I E S : Nat) (sl : Value) : Fr (w.alloc (Obj.cells #[.int .i64 (D : Int), .int .i64 (I : Int), .int .i64 (E : Int), .int .i64 (S : Int), sl] 75)) w.heap.size D I E S sl :=
  ⟨by simp, by simp, by simp, by simp, by simp⟩
end Go.Proofs.YtloaefcgcniacaaGreatDoor
