
/- The contract of the document's own fold. -/
import Derived.Test.YthofnmaobmfoiaaRealC
namespace Go.Proofs.Ythofnmaobmfoiaa
open Go.RowKit

end Go.Proofs.Ythofnmaobmfoiaa
