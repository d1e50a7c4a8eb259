
/- The contract of the document's own Tree. -/
import Derived.Test.YtlfjclnocbohbaaFldC
import Derived.Test.YtlfjclnocbohbaaRealD
import Derived.Deep.RegionWith
namespace Go.Proofs.Ytlfjclnocbohbaa
open Go.RowKit

theorem laid_new8 {w0 w2 : World} {s : List Int} {n m1 c1 G b : Nat} {a1 : Option Addr} (O : Own w2 3 b (.slice a1 m1 c1) s) (hb : w0.heap.size ≤ b) (OG : OwnG w2 23 G n n (List.replicate n 0)) (hG : b ≤ G) (K : Kp w0 w2) :
    Laid w0 (w2.alloc (.cells #[.slice a1 m1 c1, .slice (some ⟨G, 0, none⟩) n n] 31)) s n w2.heap.size a1 m1 c1 G :=
  ⟨Bx.made w2 _ _, OG.keep (Kp.alloc _ _), (O.weak hb).keep (Kp.alloc _ _), K.trans (Kp.alloc _ _), Nat.le_trans hb hG, K.size⟩

theorem infoFlt8 : (Try.prog.info? 23).map (fun i => (i.zero, i.size, i.bytes)) = some (some (.float .f64 0), 1, 8) := by kernel_rfl

end Go.Proofs.Ytlfjclnocbohbaa
