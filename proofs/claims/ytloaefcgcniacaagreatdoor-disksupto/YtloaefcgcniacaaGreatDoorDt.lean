import Derived.Test.YtloaefcgcniacaaGreatDoorDA3
import Derived.StillTail
import Derived.StillTactics
namespace Go.Proofs.YtloaefcgcniacaaGreatDoor
open Go.RowKit
set_option linter.unusedVariables false

theorem wpAny_forced {P : Program} {md : Region.Mode} {ops : Array Oper} {Q : Exit → Act → World → Prop} {fuel : Nat} {listed : Array Bool} {a : Act} {w : World} (i : Nat) (hr : Region.ready md ops listed = [i])
    (h : wpOp P ops Q i (wpAny P md ops Q fuel (listed.setIfInBounds i true)) a w) : wpAny P md ops Q (fuel + 1) listed a w :=
  ⟨(fun h0 => by rw [hr] at h0; cases h0), (fun j hj => by rw [hr] at hj; rw [List.mem_singleton.1 hj]; exact h)⟩

theorem wpAny_still_tail {P : Program} {Q : Exit → Act → World → Prop} {a : Act} {w : World} {l : List Oper} (m n : Nat) (listed : Array Bool) (hsel : Region.noSelect l.toArray = true) (hn : n < l.length) (hmn : m ≤ n) (hs : Region.sinkB .any l.toArray n = true) (hc : Region.chainB .any l.toArray n = true)
    (inv : HeadInv .any l.toArray n listed) (hlex : Region.lexHead .any l.toArray (l.length - n) (n - m) m listed = true)
    (h : wpStill P l.toArray w (fun a' => wpList P l.toArray Q (l.drop n) a' w) ((l.take n).drop m) a) : wpAny P .any l.toArray Q (l.length - m) listed a w := by
  have htl : ((l.take n).drop m).length = n - m := by simp; omega
  have hdl : (l.drop n).length = l.length - n := by simp
  have H := wpAnyL_lex (md := .any) (g := l.length - n) hsel hs hc (by simpa using hn) ((l.take n).drop m) m listed a (fun j hj => by
    rw [htl] at hj
    rw [List.getElem?_drop, List.getElem?_take, if_pos (by omega)]
    simp) (by rw [htl]; omega) inv (by rw [htl]; exact hlex) h
  have := wpAny_of_head (Q' := Q) (g := l.length - n) (fun listed a' hL => by
    have := wpAny_of_seq (md := .any) (Q' := Q) (l.drop n) n listed a' w (fun j => by simp [List.getElem?_drop]) (by rw [hdl]; exact hL.1) hL.2
    rwa [hdl] at this) _ _ _ H
  rw [htl, show n - m + (l.length - n) = l.length - m by omega] at this
  exact this

theorem headInv0 {l : List Oper} (n : Nat) : HeadInv .any l.toArray n (Array.replicate l.toArray.size false) :=
  ⟨by simp, fun j oj _ hl => (by rw [getD_replicate_false] at hl; cases hl), fun t _ ht => getD_in (by simpa using ht) (getD_replicate_false _ _)⟩

theorem headPut {md : Region.Mode} {ops : Array Oper} {n : Nat} {listed : Array Bool} (i : Nat) (inv : HeadInv md ops n listed) (hr : Region.ready md ops listed = [i]) (hin : i < n) : HeadInv md ops n (listed.setIfInBounds i true) :=
  inv.set (by rw [hr]; exact List.mem_singleton.2 rfl) hin
end Go.Proofs.YtloaefcgcniacaaGreatDoor
