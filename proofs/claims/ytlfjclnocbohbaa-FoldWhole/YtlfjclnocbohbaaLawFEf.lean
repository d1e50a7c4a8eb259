
/- The law FoldWhole, walked, and how its arguments come in. -/
import Derived.Test.YtlfjclnocbohbaaLawFE
import Derived.Test.YtlfjclnocbohbaaOpnQ
