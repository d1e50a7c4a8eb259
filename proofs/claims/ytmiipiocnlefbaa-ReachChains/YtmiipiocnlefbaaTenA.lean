
/- Contracts of what copies slices and asks tensors whether they may be. -/
import Derived.Test.YtmiipiocnlefbaaShapeA
import Derived.Test.YtmiipiocnlefbaaRefA
import Derived.Test.YtmiipiocnlefbaaFNum
import Derived.Deep.RegionWith
namespace Go.Proofs.Ytmiipiocnlefbaa
open Go.RowKit

end Go.Proofs.Ytmiipiocnlefbaa
