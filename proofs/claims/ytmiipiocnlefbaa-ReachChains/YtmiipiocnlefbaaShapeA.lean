
/- Contracts of the functions that tell sizes, and whether two rows are one: the program's and the document's. -/
import Derived.Test.YtmiipiocnlefbaaProg
import Derived.Test.YtmiipiocnlefbaaPure
import Derived.Test.YtmiipiocnlefbaaBase
import Derived.Deep.QuietTactic
import Derived.BigQuiet
namespace Go.Proofs.Ytmiipiocnlefbaa
open Go.RowKit

end Go.Proofs.Ytmiipiocnlefbaa
