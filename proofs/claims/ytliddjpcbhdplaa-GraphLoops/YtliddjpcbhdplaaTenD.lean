
/- Contracts of what holds two tensors against each other: the program's and the document's. -/
import Derived.Test.YtliddjpcbhdplaaTenC
namespace Go.Proofs.Ytliddjpcbhdplaa
open Go.RowKit

/-- as many, and the rule holds at each place -/
def allB (rule : Nat → Nat → Bool) (xs ys : List Nat) : Bool := decide (xs.length = ys.length ∧ ∀ j, j < xs.length → rule (xs.getD j 0) (ys.getD j 0) = true)
theorem allB_len {rule : Nat → Nat → Bool} {xs ys : List Nat} (h : xs.length ≠ ys.length) : allB rule xs ys = false := decide_eq_false (fun e => h e.1)
theorem allB_at {rule : Nat → Nat → Bool} {xs ys : List Nat} {k : Nat} (hk : k < xs.length) (h : rule (xs.getD k 0) (ys.getD k 0) = false) : allB rule xs ys = false :=
  decide_eq_false (fun e => by have := e.2 k hk; rw [h] at this; cases this)
theorem allB_yes {rule : Nat → Nat → Bool} {xs ys : List Nat} (hl : xs.length = ys.length) (h : ∀ j, j < xs.length → rule (xs.getD j 0) (ys.getD j 0) = true) : allB rule xs ys = true := decide_eq_true ⟨hl, h⟩

/-- alike as tensors, be they any or not -/
def sameT (s : List Int) (d : List Nat) (s' : List Int) (d' : List Nat) : Bool := sameB s s' && allB sameF d d'
theorem sameT_no {s : List Int} {d : List Nat} {s' : List Int} {d' : List Nat} (h : sameB s s' = false) : sameT s d s' d' = false := by unfold sameT; rw [h]; rfl
theorem sameT_yes {s : List Int} {d : List Nat} {s' : List Int} {d' : List Nat} (h : sameB s s' = true) : sameT s d s' d' = allB sameF d d' := by unfold sameT; rw [h]; rfl

end Go.Proofs.Ytliddjpcbhdplaa
