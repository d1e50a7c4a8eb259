
/- Contracts of the functions that tell whether two rows of integers are one. -/
import Derived.Test.YtmiipiocnlefbaaProg
import Derived.Test.YtmiipiocnlefbaaPure
import Derived.Test.YtmiipiocnlefbaaBase
import Derived.Deep.QuietTactic
import Derived.BigQuiet
namespace Go.Proofs.Ytmiipiocnlefbaa
open Go.RowKit

def sameB (xs ys : List Int) : Bool := decide (xs = ys)

theorem same_len {xs ys : List Int} (h : xs.length ≠ ys.length) : sameB xs ys = false := by
  unfold sameB; rw [decide_eq_false_iff_not]; intro e; exact h (by rw [e])
theorem same_at {xs ys : List Int} {k : Nat} (h : xs.getD k 0 ≠ ys.getD k 0) : sameB xs ys = false := by
  unfold sameB; rw [decide_eq_false_iff_not]; intro e; exact h (by rw [e])
theorem same_all {xs ys : List Int} (hl : xs.length = ys.length) (h : ∀ j, j < xs.length → xs.getD j 0 = ys.getD j 0) : sameB xs ys = true := by
  unfold sameB
  rw [decide_eq_true_eq]
  apply List.ext_getElem hl
  intro i h1 h2
  have := h i h1
  rw [getD_at h1, getD_at h2] at this
  exact this

end Go.Proofs.Ytmiipiocnlefbaa
