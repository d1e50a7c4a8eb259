
/- The law KernelShapes, walked. -/
import Derived.Test.YtcegkaemcjlfgaaKerG
import Derived.Test.YtcegkaemcjlfgaaOpn
namespace Go.Proofs.Ytcegkaemcjlfgaa
open Go.RowKit

theorem sameT_refl4 (s : List Int) (d : List Nat) : sameT s d s d = true := by
  unfold sameT sameB allB sameF
  simp
theorem rsh_same {f s t : List Int} {d : List Nat} (h1 : mayT f d = true) (h2 : mayT s d = true) : rshS s d t = rshS f d t ∧ rshD s d t = rshD f d t ∧ rshE s d t = rshE f d t := by
  refine ⟨?_, ?_, ?_⟩
  · unfold rshS; rw [h1, h2]
  · unfold rshD; rw [h1, h2]
  · unfold rshE; rw [h1, h2]

end Go.Proofs.Ytcegkaemcjlfgaa
