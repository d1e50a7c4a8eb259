
/- Contracts of the document's own functions on sizes, and of those that tell whether two rows are one. -/
import Derived.Test.YthofnmaobmfoiaaProg
import Derived.Test.YthofnmaobmfoiaaPure
import Derived.Test.YthofnmaobmfoiaaBase
import Derived.Deep.QuietTactic
import Derived.BigQuiet
namespace Go.Proofs.Ythofnmaobmfoiaa
open Go.RowKit

end Go.Proofs.Ythofnmaobmfoiaa
