
/- Contracts of step and Do. -/
import Derived.Test.YtliddjpcbhdplaaHokD
import Derived.Deep.DeepCutAuto
import Derived.Deep.RegionHeldLaw
namespace Go.Proofs.Ytliddjpcbhdplaa
open Go.RowKit

/-- of numbers after some hooks: the next one -/
theorem st_next {hs : List Hk} {j : Nat} {c0 ds : List Nat} (hj : j < hs.length) (h : hkL (hs.take j) c0 = some (ds.map cn)) :
    hkL (hs.take (j + 1)) c0 = if (hs.getD j hnil).k = 4 ∧ anyB endB ds = true then none else some (ds.map (hkC (hs.getD j hnil))) := by
  rw [hkL_step hj, h]
  show oneH _ _ = _
  unfold oneH
  rw [anyB_cn, List.map_map]
  have e : (hkC (hs.getD j hnil) ∘ cn) = hkC (hs.getD j hnil) := funext fun x => hkC_cn _ x
  rw [e]

end Go.Proofs.Ytliddjpcbhdplaa
