
/- What the frame of MatrixRows needs: the walk, and how its arguments come in. -/
import Derived.Test.YtgdmhmnmhfpkkaaLawME
import Derived.Test.YtgdmhmnmhfpkkaaOpnA
