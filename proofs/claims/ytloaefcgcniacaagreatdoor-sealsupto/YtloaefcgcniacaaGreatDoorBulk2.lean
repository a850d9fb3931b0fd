import Derived.Test.YtloaefcgcniacaaGreatDoorBulk
namespace Go.Proofs.YtloaefcgcniacaaGreatDoor.bulks

theorem mem_le {H : Type} (l : List (DataW H)) (x : DataW H) (h : x ∈ l) : Rows.uptoBulk x ≤ Rows.uptoBulkAll l := by
  induction l with
  | nil => cases h
  | cons y r ih =>
    simp only [Rows.uptoBulkAll]
    rcases List.mem_cons.1 h with h | h
    · subst h; omega
    · have := ih h; omega

theorem agg_mem {H : Type} (l : List (DataW H)) (x : DataW H) (h : x ∈ l) : Rows.uptoBulk x ≤ Rows.uptoBulk (DataW.agg l) := by
  have := mem_le l x h
  simp only [Rows.uptoBulk]
  omega

theorem str {H : Type} (s : ByteArray) : s.size ≤ Rows.uptoBulk (DataW.lit (.string s.data.toList) : DataW H) := by
  simp only [Rows.uptoBulk, Array.length_toList]
  exact Nat.le_succ _
end Go.Proofs.YtloaefcgcniacaaGreatDoor.bulks
