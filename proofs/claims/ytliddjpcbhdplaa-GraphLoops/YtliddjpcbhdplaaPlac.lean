
/- Contracts of the functions on places: where one stands, which one stands there. -/
import Derived.Test.YtliddjpcbhdplaaStri
import Derived.Test.YtliddjpcbhdplaaSame
namespace Go.Proofs.Ytliddjpcbhdplaa
open Go.RowKit

/-- is the k-th number of the place within the shape's? -/
def inB (s a : List Int) (k : Nat) : Bool := decide (0 ≤ a.getD k 0) && decide (a.getD k 0 < s.getD k 0)
theorem insB_eq (s a : List Int) : decide (∀ k, k < s.length → inB s a k = true) = insB s a := rfl

end Go.Proofs.Ytliddjpcbhdplaa
