/-
  No cell of these rows narrows 'for every input' (looked for: loops, veiled, ifaces, maps, wideKeys, modest, calm, conditions, laid).
  DERIVED. THE GIVEN ROWS OF THIS SEAT. 2 by the template 'for every input the law returns true; each argument reads behind the call as it read before'; 0 by the template 'total and deterministic' (their statements: YtcegkaemcjlfgabTotals.lean).
  GIVEN WITH THE SEED: the statements are not yours to turn. If you find one false, say at which input.
  Laid BY PROGRAM, IN A SANDBOX (cutbox-rows.mjs): the forced cells as the released guide's own fill.sh prints them over the translation 53d56b90fa6356d5… (all of the seat's roots in one cut). By AI agents, Wed Nov 11 2026. No macro, syntax, notation, axiom, sorry.
-/
import Derived.Test.YtcegkaemcjlfgabChecked
import GoSem.Claim
import GoSem.ClaimJoined
import GoSem.ClaimMapViews
import Derived.JoinedTies
import Derived.KernelRfl
namespace Go.Proofs.Ytcegkaemcjlfgab
/- THE CELL 'sum', in the pinned program and in every row, IS THE sha256 OF THE DUMP (.gsa) THAT YtcegkaemcjlfgabProg.lean LOADS. Nothing in Lean hashes anything: it is a label: what it is worth is what the hold of that sum in a sandbox is worth. -/
noncomputable def Try.pinned : Pinned := { name := "ytcegkaemcjlfgab", sum := "53d56b90fa6356d5f22ff8ec3c5ee1513b37065a0c2472e2dc307ad5b25149fd", checked := Try.checked }
namespace Rows
def none {H : Type} : Left H := { results := [], args := [] }

/-- 'backstitchlaw4.KernelShapes': WHATEVER THE INPUT: true; the input reads as it did. -/
def kernelShapesSpec : ChangeSpec := { name := "kernelShapes", fn := fun _ => fun
  | [d1, d2, d3] => { results := [.lit (.bool true)], args := [d1, d2, d3] }
  | _ => none }
def kernelShapesRow : OpenClaim := { program := "ytcegkaemcjlfgab", sum := "53d56b90fa6356d5f22ff8ec3c5ee1513b37065a0c2472e2dc307ad5b25149fd", func := "backstitch/backstitchlaw4.KernelShapes", spec := "kernelShapes", inPlace := ["math.Float64bits"], unfollowed := true, recurses := true, apart := false }
def KernelShapesSaid : Prop := kernelShapesRow.holds Try.pinned (OpenSpec.ofChange kernelShapesSpec)

/-- ITS FALSE NEIGHBOUR: 'it returns false'. Refute it at one input. -/
def kernelShapesWrong : ChangeSpec := { name := "kernelShapes", fn := fun _ => fun
  | [d1, d2, d3] => { results := [.lit (.bool false)], args := [d1, d2, d3] }
  | _ => none }
def KernelShapesWrongFalsely : Prop := kernelShapesRow.holds Try.pinned (OpenSpec.ofChange kernelShapesWrong)

/-- 'backstitchlaw4.KernelGathers': WHATEVER THE INPUT: true; the input reads as it did. -/
def kernelGathersSpec : ChangeSpec := { name := "kernelGathers", fn := fun _ => fun
  | [d1, d2] => { results := [.lit (.bool true)], args := [d1, d2] }
  | _ => none }
def kernelGathersRow : OpenClaim := { program := "ytcegkaemcjlfgab", sum := "53d56b90fa6356d5f22ff8ec3c5ee1513b37065a0c2472e2dc307ad5b25149fd", func := "backstitch/backstitchlaw4.KernelGathers", spec := "kernelGathers", unfollowed := true, recurses := true, apart := false }
def KernelGathersSaid : Prop := kernelGathersRow.holds Try.pinned (OpenSpec.ofChange kernelGathersSpec)

/-- ITS FALSE NEIGHBOUR: 'it returns false'. Refute it at one input. -/
def kernelGathersWrong : ChangeSpec := { name := "kernelGathers", fn := fun _ => fun
  | [d1, d2] => { results := [.lit (.bool false)], args := [d1, d2] }
  | _ => none }
def KernelGathersWrongFalsely : Prop := kernelGathersRow.holds Try.pinned (OpenSpec.ofChange kernelGathersWrong)

/- THE SECOND FORM. 'bulk': how many values and letters a reading holds, each counted each time it is reached (what is shared counts as often as it is met; a slice's spare places count too). A statement '..UptoSaid' is the law's where the arguments, and the package variables that the reading takes, are together of bulk at most 1048576: NARROWER than '..Said'. Prove '..Said' where nothing that the law and all that it calls make is longer than what came in: it says more and counts as full. Else prove '..UptoSaid'. A law counts once. -/
mutual
def uptoBulk {H : Type} : DataW H → Nat
  | .lit (.string bytes) => bytes.length + 1
  | .lit _ => 1
  | .nil => 1
  | .ptr d => uptoBulk d + 1
  | .slice elems spare => uptoBulkAll elems + uptoBulkAll spare + 1
  | .agg parts => uptoBulkAll parts + 1
  | .iface _ d => uptoBulk d + 1
  | .map entries => uptoBulkEntries entries + 1
  | .held _ => 1
def uptoBulkAll {H : Type} : List (DataW H) → Nat
  | [] => 0
  | d :: r => uptoBulk d + uptoBulkAll r
def uptoBulkEntries {H : Type} : List (Lit × DataW H) → Nat
  | [] => 0
  | x :: r => uptoBulkEntry x + uptoBulkEntries r
def uptoBulkEntry {H : Type} : Lit × DataW H → Nat
  | (.string bytes, d) => bytes.length + uptoBulk d + 1
  | (_, d) => uptoBulk d + 1
 end
def uptoSmall : (H : Type) → List (DataW H) → Bool := fun _ ds => decide (uptoBulkAll ds ≤ 1048576)
def OpenSpec.upto (s : _root_.Go.ChangeSpec) : _root_.Go.OpenSpec := { _root_.Go.OpenSpec.ofChange s with cond := some uptoSmall }

/-- 'backstitchlaw4.KernelShapes', WHERE WHAT IT READS IS OF BULK AT MOST 1048576: true; the input reads as it did. -/
def kernelShapesUptoRow : OpenClaim := { program := "ytcegkaemcjlfgab", sum := "53d56b90fa6356d5f22ff8ec3c5ee1513b37065a0c2472e2dc307ad5b25149fd", func := "backstitch/backstitchlaw4.KernelShapes", spec := "kernelShapes", inPlace := ["math.Float64bits"], unfollowed := true, recurses := true, apart := false, narrowed := true }
def KernelShapesUptoSaid : Prop := kernelShapesUptoRow.holds Try.pinned (OpenSpec.upto kernelShapesSpec)

/-- 'backstitchlaw4.KernelGathers', WHERE WHAT IT READS IS OF BULK AT MOST 1048576: true; the input reads as it did. -/
def kernelGathersUptoRow : OpenClaim := { program := "ytcegkaemcjlfgab", sum := "53d56b90fa6356d5f22ff8ec3c5ee1513b37065a0c2472e2dc307ad5b25149fd", func := "backstitch/backstitchlaw4.KernelGathers", spec := "kernelGathers", unfollowed := true, recurses := true, apart := false, narrowed := true }
def KernelGathersUptoSaid : Prop := kernelGathersUptoRow.holds Try.pinned (OpenSpec.upto kernelGathersSpec)

end Rows
end Go.Proofs.Ytcegkaemcjlfgab
