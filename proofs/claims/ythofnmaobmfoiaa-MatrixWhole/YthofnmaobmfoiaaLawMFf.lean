
/- What the frame of MatrixWhole needs: the walk, and how its arguments come in. -/
import Derived.Test.YthofnmaobmfoiaaLawMF
import Derived.Test.YthofnmaobmfoiaaOpnA
