
/- The law HookParts, walked, and how its arguments come in. -/
import Derived.Test.YtlfjclnocbohbaaLawHB
import Derived.Test.YtlfjclnocbohbaaOpnH
