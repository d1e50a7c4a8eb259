
/- Contracts of what asks whether numbers are finite, of roots and of what is without a sign. -/
import Derived.Test.YtliddjpcbhdplaaTenD
import Derived.Laws.BitsAllLaws
namespace Go.Proofs.Ytliddjpcbhdplaa
open Go.RowKit

/-- the number without its sign -/
def absN (x : Nat) : Nat := x &&& 9223372036854775807
theorem absN_w64 {x : Nat} (h : W64 x) : W64 (absN x) := Nat.lt_of_le_of_lt Nat.and_le_left h

/-- is it an infinity? -/
def infB (x : Nat) : Bool := FloatKind.f64.format.order (absN x) 9218868437227405311 == some Ordering.gt

/-- neither NaN nor infinity? No. -/
def endB (x : Nat) : Bool := nanW x || infB x
theorem endB_nan {x : Nat} (h : nanW x = true) : endB x = true := by unfold endB; rw [h]; rfl
theorem endB_num {x : Nat} (h : nanW x = false) : endB x = infB x := by unfold endB; rw [h]; rfl

/-- does the rule hold somewhere? -/
def anyB (rule : Nat → Bool) (xs : List Nat) : Bool := decide (∃ j, j < xs.length ∧ rule (xs.getD j 0) = true)
theorem anyB_at {rule : Nat → Bool} {xs : List Nat} {k : Nat} (hk : k < xs.length) (h : rule (xs.getD k 0) = true) : anyB rule xs = true := decide_eq_true ⟨k, hk, h⟩
theorem anyB_no {rule : Nat → Bool} {xs : List Nat} (h : ∀ j, j < xs.length → rule (xs.getD j 0) = false) : anyB rule xs = false :=
  decide_eq_false (fun ⟨j, hj, e⟩ => by rw [h j hj] at e; cases e)

/-- a tensor that is finite -/
def finT (s : List Int) (d : List Nat) : Bool := mayT s d && !anyB endB d
theorem finT_no {s : List Int} {d : List Nat} (h : mayT s d = false) : finT s d = false := by unfold finT; rw [h]; rfl
theorem finT_yes {s : List Int} {d : List Nat} (h : mayT s d = true) : finT s d = !anyB endB d := by unfold finT; rw [h]; rfl
theorem finT_any' {s : List Int} {d : List Nat} (h : anyB endB d = true) : finT s d = false := by unfold finT; rw [h]; simp
theorem finT_none {s : List Int} {d : List Nat} (h : anyB endB d = false) : finT s d = mayT s d := by unfold finT; rw [h]; simp

end Go.Proofs.Ytliddjpcbhdplaa
