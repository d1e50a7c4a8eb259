
/- The law FoldTrees, walked, and how its argument comes in. -/
import Derived.Test.YtnmpbjjppdkomaaLawFA
import Derived.Test.YtnmpbjjppdkomaaOpnT
