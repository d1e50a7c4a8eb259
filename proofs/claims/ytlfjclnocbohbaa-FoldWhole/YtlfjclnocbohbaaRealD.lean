
/- The contract of the document's own fold. -/
import Derived.Test.YtlfjclnocbohbaaRealC
namespace Go.Proofs.Ytlfjclnocbohbaa
open Go.RowKit

end Go.Proofs.Ytlfjclnocbohbaa
