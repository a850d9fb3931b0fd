import Derived.Test.YtloaefcgcniacaaKo
namespace Go.Proofs.Ytloaefcgcniacaa
open Go.RowKit
set_option linter.unusedVariables false

theorem fixed_40 (s : ByteArray) (w : World) : Calls Try.prog 9 #[.string s, .int .i64 40] w fun e w' => e = .returned (.string (bstr (fixB (sbytes s) 40))) ∧ Below w.heap.size w w' :=
  fixed_any s 40 w (by omega)

theorem bytes_pack (s : ByteArray) (w : World) : ∃ C W2, (convert 9 22 (.string (bstr (fixB (sbytes s) 40)))).run Try.prog w = .ok (.slice (some ⟨w.heap.size, 0, none⟩) 40 C) W2 ∧ Rd W2 w.heap.size 0 (fixB (sbytes s) 40) ∧ Below w.heap.size w W2 := by
  have h := run_bytes (bstr (fixB (sbytes s) 40)) w
  rw [bstr_size, fixB_length] at h
  have hr := bytes_rd (bstr (fixB (sbytes s) 40)) w
  rw [sbytes_bstr _ (fixB_lt _ _ (sbytes_lt s))] at hr
  exact ⟨_, _, h, hr, bytes_below _ w⟩

theorem Rd.other {w : World} {g off : Nat} {l : List Nat} (h : Rd w g off l) (a : Addr) (v : Value) (hne : a.block ≠ g) : Rd (w.setCell a v) g off l := fun i hi => by
  rw [World.cell?_setCell_far _ _ _ _ hne]
  exact h i hi

def inI64 (n : Int) : Prop := -9223372036854775808 ≤ n ∧ n ≤ 9223372036854775807

set_option maxHeartbeats 400000 in
theorem tame_any (kd ix ep sq : Int) (a : Option Addr) (len cap : Nat) (s : ByteArray) (w : World) (h0 : inI64 kd) (h1 : inI64 ix) (h2 : inI64 ep) (h3 : inI64 sq)
    (hconv : ∀ W, Below w.heap.size w W → (convert 22 9 (.slice a len cap)).run Try.prog W = .ok (.string s) W) :
    Calls Try.prog 7 #[.agg #[.int .i64 kd, .int .i64 ix, .int .i64 ep, .int .i64 sq, .slice a len cap]] w fun e w' =>
      ∃ g' cap', e = .returned (.agg #[.int .i64 (1 + pickZ kd 3), .int .i64 (pickZ ix 256), .int .i64 (pickZ ep 4294967296), .int .i64 (pickZ sq 4294967296), .slice (some ⟨g', 0, none⟩) 40 cap']) ∧
        Rd w' g' 0 (fixB (sbytes s) 40) ∧ w.heap.size ≤ g' ∧ Below w.heap.size w w' := by
  obtain ⟨a0, b0⟩ := h0
  obtain ⟨a1, b1⟩ := h1
  obtain ⟨a2, b2⟩ := h2
  obtain ⟨a3, b3⟩ := h3
  have hcv : ∀ o1 o2 o3 : Obj, (convert 22 9 (.slice a len cap)).run Try.prog (((w.alloc o1).alloc o2).alloc o3).drew = .ok (.string s) (((w.alloc o1).alloc o2).alloc o3).drew := fun o1 o2 o3 =>
    hconv _ ((((Below.refl _ _).alloc (Nat.le_refl _) _).alloc (by simp) _).alloc (by simp; omega) _).drew
  clear hconv
  have p0 := pickZ_lo kd 3 (by omega)
  have p0' := pickZ_hi kd 3 (by omega)
  have hw1 : IntKind.i64.wrap (1 + pickZ kd 3) = 1 + pickZ kd 3 := by rw [IntKind.wrap_i64]; omega
  go_enter Try.func7, Try.ntmps7
  go_wp2_with fail
  go_region_held3 (fun w' => w'.cell? ⟨w.heap.size, 0, none⟩ = some (.int .i64 kd) ∧ w'.cell? ⟨w.heap.size, 1, none⟩ = some (.int .i64 ix)) (simp [go_sem, World.cell?_alloc_past])
    (first
      | (go_at_call 5; refine (pick_any _ _ _ (by omega) (by omega) (by omega) (by omega)).mono ?_; rintro e w' ⟨rfl, rfl⟩))
  all_goals go_wp2_with (first | (go_at_call 5; refine (pick_any _ _ _ (by omega) (by omega) (by omega) (by omega)).mono ?_; rintro e w' ⟨rfl, rfl⟩))
  all_goals
    refine (fixed_40 _ _).mono ?_
    rintro e w1 ⟨rfl, hb1⟩
    obtain ⟨C, W2, hby, hRd, hb2⟩ := bytes_pack s w1
    have hb3 := hb1.trans (hb2.mono hb1.size)
    obtain ⟨hcc, hff⟩ := bcell hb3
    have hsz : w.heap.size + 1 + 1 < w1.heap.size := by have := hb1.size; simp at this; omega
    have hb0 : Below w.heap.size w W2 := ((((Below.refl _ _).alloc (Nat.le_refl _) _).alloc (by simp) _).alloc (by simp; omega) _).drew.trans (hb3.mono (by simp; omega))
    clear hb1 hb2 hb3
    go_wp2
    refine bodyPost_ret (v := .agg #[.int .i64 (1 + pickZ kd 3), .int .i64 (pickZ ix 256), .int .i64 (pickZ ep 4294967296), .int .i64 (pickZ sq 4294967296), .slice (some ⟨w1.heap.size, 0, none⟩) 40 C]) (by simp [results, Try.results7, go_sem, hcc]) rfl ⟨w1.heap.size, C, rfl, ?_, by omega, ?_⟩
    · exact (((((hRd.other _ _ (by simp; omega)).other _ _ (by simp; omega)).other _ _ (by simp; omega)).other _ _ (by simp; omega)).other _ _ (by simp; omega)).other _ _ (by simp; omega)
    · exact (((((hb0.setCell (by simp; omega) _).setCell (by simp) _).setCell (by simp) _).setCell (by simp) _).setCell (by simp) _).setCell (by simp) _
end Go.Proofs.Ytloaefcgcniacaa
