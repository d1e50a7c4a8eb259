
/- The law FoldOrders, walked, and how its arguments come in. -/
import Derived.Test.YtnmpbjjppdkomaaLawFD
import Derived.Test.YtnmpbjjppdkomaaOpnT
