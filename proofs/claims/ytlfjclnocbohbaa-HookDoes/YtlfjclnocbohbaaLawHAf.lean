
/- The law HookDoes, walked, and how its arguments come in. -/
import Derived.Test.YtlfjclnocbohbaaLawHA
import Derived.Test.YtlfjclnocbohbaaOpnH
