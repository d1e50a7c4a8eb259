
/- Contracts of the document's own functions on sizes, and of those that tell whether two rows are one. -/
import Derived.Test.YtmiipiocnlefbaaProg
import Derived.Test.YtmiipiocnlefbaaPure
import Derived.Test.YtmiipiocnlefbaaBase
import Derived.Deep.QuietTactic
import Derived.BigQuiet
namespace Go.Proofs.Ytmiipiocnlefbaa
open Go.RowKit

end Go.Proofs.Ytmiipiocnlefbaa
