
/- The contract of the document's Hook: hooks and a tensor that may be. -/
import Derived.Test.YtliddjpcbhdplaaHokG
namespace Go.Proofs.Ytliddjpcbhdplaa
open Go.RowKit

end Go.Proofs.Ytliddjpcbhdplaa
