
/- The law FoldParts, walked, and how its argument comes in. -/
import Derived.Test.YtnmpbjjppdkomaaLawFC
import Derived.Test.YtnmpbjjppdkomaaOpnT
