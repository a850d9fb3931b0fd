import Derived.Test.YtloaefcgcniacaaGreatDoorRows
namespace Go.Proofs.YtloaefcgcniacaaGreatDoor.bulks

theorem one_le {H : Type} (d : DataW H) : 1 ≤ Rows.uptoBulk d := by
  cases d with
  | lit l => cases l <;> simp [Rows.uptoBulk]
  | nil => simp [Rows.uptoBulk]
  | ptr d => simp [Rows.uptoBulk]
  | slice elems spare => simp [Rows.uptoBulk]
  | agg parts => simp [Rows.uptoBulk]
  | iface t d => simp [Rows.uptoBulk]
  | map entries => simp [Rows.uptoBulk]
  | held h => simp [Rows.uptoBulk]

theorem length_le {H : Type} (l : List (DataW H)) : l.length ≤ Rows.uptoBulkAll l := by
  induction l with
  | nil => simp [Rows.uptoBulkAll]
  | cons x r ih => have := one_le x; simp only [Rows.uptoBulkAll, List.length_cons]; omega

theorem eight_le {H : Type} (l : List (DataW H)) (h : ∀ x ∈ l, 8 ≤ Rows.uptoBulk x) : 8 * l.length ≤ Rows.uptoBulkAll l := by
  induction l with
  | nil => simp [Rows.uptoBulkAll]
  | cons x r ih =>
    have h1 := h x List.mem_cons_self
    have h2 := ih fun y hy => h y (List.mem_cons_of_mem _ hy)
    simp only [Rows.uptoBulkAll, List.length_cons]
    omega

theorem agg_seven {H : Type} (l : List (DataW H)) (h : l.length = 7) : 8 ≤ Rows.uptoBulk (DataW.agg l) := by
  have := length_le l
  simp only [Rows.uptoBulk]
  omega
end Go.Proofs.YtloaefcgcniacaaGreatDoor.bulks
