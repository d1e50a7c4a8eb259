
/- Contracts of the functions on single numbers: the program's, the document's and the library's. -/
import Derived.Test.YtliddjpcbhdplaaProg
import Derived.Test.YtliddjpcbhdplaaFBase
import Derived.Deep.QuietTactic
import Derived.BigQuiet
namespace Go.Proofs.Ytliddjpcbhdplaa
open Go.RowKit

/-- some number with these bits, any NaN for the one -/
def FltIs (e : Ending) (c : Nat) : Prop := ∃ r, e = .returned (.float .f64 r) ∧ cn r = c ∧ W64 r

/-- alike bit for bit, all NaNs one -/
def sameF (x y : Nat) : Bool := (((cn x : Nat) : Int) == ((cn y : Nat) : Int))
theorem sameF_iff {x y : Nat} : sameF x y = true ↔ cn x = cn y := by
  unfold sameF
  rw [beq_iff_eq]
  exact Int.ofNat_inj

end Go.Proofs.Ytliddjpcbhdplaa
