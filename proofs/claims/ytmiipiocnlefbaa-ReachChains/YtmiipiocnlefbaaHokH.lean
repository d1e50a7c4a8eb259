
/- The contract of the document's Hook: hooks and a tensor that may be. -/
import Derived.Test.YtmiipiocnlefbaaHokG
namespace Go.Proofs.Ytmiipiocnlefbaa
open Go.RowKit

end Go.Proofs.Ytmiipiocnlefbaa
