/-
  No cell of these rows narrows 'for every input' (looked for: loops, veiled, ifaces, maps, wideKeys, modest, calm, conditions, laid).
  DERIVED. THE GIVEN ROWS OF THIS SEAT. 3 by the template 'for every input the law returns true; each argument reads behind the call as it read before'; 0 by the template 'total and deterministic' (their statements: YtcegkaemcjlfgaaTotals.lean).
  GIVEN WITH THE SEED: the statements are not yours to turn. If you find one false, say at which input.
  Laid BY PROGRAM, IN A SANDBOX (cutbox-rows.mjs): the forced cells as the released guide's own fill.sh prints them over the translation 8ca89de746aad138… (all of the seat's roots in one cut). By AI agents, Wed Nov 11 2026. No macro, syntax, notation, axiom, sorry.
-/
import Derived.Test.YtcegkaemcjlfgaaChecked
import GoSem.Claim
import GoSem.ClaimJoined
import GoSem.ClaimMapViews
import Derived.JoinedTies
import Derived.KernelRfl
namespace Go.Proofs.Ytcegkaemcjlfgaa
/- THE CELL 'sum', in the pinned program and in every row, IS THE sha256 OF THE DUMP (.gsa) THAT YtcegkaemcjlfgaaProg.lean LOADS. Nothing in Lean hashes anything: it is a label: what it is worth is what the hold of that sum in a sandbox is worth. -/
noncomputable def Try.pinned : Pinned := { name := "ytcegkaemcjlfgaa", sum := "8ca89de746aad13874e5c2806042ed41acdb6f2591d8a27771548278ef41a4a9", checked := Try.checked }
namespace Rows
def none {H : Type} : Left H := { results := [], args := [] }

/-- 'backstitchlaw4.KernelSpreads': WHATEVER THE INPUT: true; the input reads as it did. -/
def kernelSpreadsSpec : ChangeSpec := { name := "kernelSpreads", fn := fun _ => fun
  | [d1, d2] => { results := [.lit (.bool true)], args := [d1, d2] }
  | _ => none }
def kernelSpreadsRow : OpenClaim := { program := "ytcegkaemcjlfgaa", sum := "8ca89de746aad13874e5c2806042ed41acdb6f2591d8a27771548278ef41a4a9", func := "backstitch/backstitchlaw4.KernelSpreads", spec := "kernelSpreads", inPlace := ["math.Float64bits"], unfollowed := true, recurses := true, apart := false }
def KernelSpreadsSaid : Prop := kernelSpreadsRow.holds Try.pinned (OpenSpec.ofChange kernelSpreadsSpec)

/-- ITS FALSE NEIGHBOUR: 'it returns false'. Refute it at one input. -/
def kernelSpreadsWrong : ChangeSpec := { name := "kernelSpreads", fn := fun _ => fun
  | [d1, d2] => { results := [.lit (.bool false)], args := [d1, d2] }
  | _ => none }
def KernelSpreadsWrongFalsely : Prop := kernelSpreadsRow.holds Try.pinned (OpenSpec.ofChange kernelSpreadsWrong)

/-- 'backstitchlaw4.KernelBack': WHATEVER THE INPUT: true; the input reads as it did. -/
def kernelBackSpec : ChangeSpec := { name := "kernelBack", fn := fun _ => fun
  | [d1, d2, d3] => { results := [.lit (.bool true)], args := [d1, d2, d3] }
  | _ => none }
def kernelBackRow : OpenClaim := { program := "ytcegkaemcjlfgaa", sum := "8ca89de746aad13874e5c2806042ed41acdb6f2591d8a27771548278ef41a4a9", func := "backstitch/backstitchlaw4.KernelBack", spec := "kernelBack", unfollowed := true, recurses := true, apart := false }
def KernelBackSaid : Prop := kernelBackRow.holds Try.pinned (OpenSpec.ofChange kernelBackSpec)

/-- ITS FALSE NEIGHBOUR: 'it returns false'. Refute it at one input. -/
def kernelBackWrong : ChangeSpec := { name := "kernelBack", fn := fun _ => fun
  | [d1, d2, d3] => { results := [.lit (.bool false)], args := [d1, d2, d3] }
  | _ => none }
def KernelBackWrongFalsely : Prop := kernelBackRow.holds Try.pinned (OpenSpec.ofChange kernelBackWrong)

/-- 'backstitchlaw4.KernelPlaces': WHATEVER THE INPUT: true; the input reads as it did. -/
def kernelPlacesSpec : ChangeSpec := { name := "kernelPlaces", fn := fun _ => fun
  | [d1, d2] => { results := [.lit (.bool true)], args := [d1, d2] }
  | _ => none }
def kernelPlacesRow : OpenClaim := { program := "ytcegkaemcjlfgaa", sum := "8ca89de746aad13874e5c2806042ed41acdb6f2591d8a27771548278ef41a4a9", func := "backstitch/backstitchlaw4.KernelPlaces", spec := "kernelPlaces", inPlace := ["math.Float64bits"], unfollowed := true, recurses := true, apart := false }
def KernelPlacesSaid : Prop := kernelPlacesRow.holds Try.pinned (OpenSpec.ofChange kernelPlacesSpec)

/-- ITS FALSE NEIGHBOUR: 'it returns false'. Refute it at one input. -/
def kernelPlacesWrong : ChangeSpec := { name := "kernelPlaces", fn := fun _ => fun
  | [d1, d2] => { results := [.lit (.bool false)], args := [d1, d2] }
  | _ => none }
def KernelPlacesWrongFalsely : Prop := kernelPlacesRow.holds Try.pinned (OpenSpec.ofChange kernelPlacesWrong)

/- THE SECOND FORM. 'bulk': how many values and letters a reading holds, each counted each time it is reached (what is shared counts as often as it is met; a slice's spare places count too). A statement '..UptoSaid' is the law's where the arguments, and the package variables that the reading takes, are together of bulk at most 1048576: NARROWER than '..Said'. Prove '..Said' where nothing that the law and all that it calls make is longer than what came in: it says more and counts as full. Else prove '..UptoSaid'. A law counts once. -/
mutual
def uptoBulk {H : Type} : DataW H → Nat
  | .lit (.string bytes) => bytes.length + 1
  | .lit _ => 1
  | .nil => 1
  | .ptr d => uptoBulk d + 1
  | .slice elems spare => uptoBulkAll elems + uptoBulkAll spare + 1
  | .agg parts => uptoBulkAll parts + 1
  | .iface _ d => uptoBulk d + 1
  | .map entries => uptoBulkEntries entries + 1
  | .held _ => 1
def uptoBulkAll {H : Type} : List (DataW H) → Nat
  | [] => 0
  | d :: r => uptoBulk d + uptoBulkAll r
def uptoBulkEntries {H : Type} : List (Lit × DataW H) → Nat
  | [] => 0
  | x :: r => uptoBulkEntry x + uptoBulkEntries r
def uptoBulkEntry {H : Type} : Lit × DataW H → Nat
  | (.string bytes, d) => bytes.length + uptoBulk d + 1
  | (_, d) => uptoBulk d + 1
 end
def uptoSmall : (H : Type) → List (DataW H) → Bool := fun _ ds => decide (uptoBulkAll ds ≤ 1048576)
def OpenSpec.upto (s : _root_.Go.ChangeSpec) : _root_.Go.OpenSpec := { _root_.Go.OpenSpec.ofChange s with cond := some uptoSmall }

/-- 'backstitchlaw4.KernelSpreads', WHERE WHAT IT READS IS OF BULK AT MOST 1048576: true; the input reads as it did. -/
def kernelSpreadsUptoRow : OpenClaim := { program := "ytcegkaemcjlfgaa", sum := "8ca89de746aad13874e5c2806042ed41acdb6f2591d8a27771548278ef41a4a9", func := "backstitch/backstitchlaw4.KernelSpreads", spec := "kernelSpreads", inPlace := ["math.Float64bits"], unfollowed := true, recurses := true, apart := false, narrowed := true }
def KernelSpreadsUptoSaid : Prop := kernelSpreadsUptoRow.holds Try.pinned (OpenSpec.upto kernelSpreadsSpec)

/-- 'backstitchlaw4.KernelBack', WHERE WHAT IT READS IS OF BULK AT MOST 1048576: true; the input reads as it did. -/
def kernelBackUptoRow : OpenClaim := { program := "ytcegkaemcjlfgaa", sum := "8ca89de746aad13874e5c2806042ed41acdb6f2591d8a27771548278ef41a4a9", func := "backstitch/backstitchlaw4.KernelBack", spec := "kernelBack", unfollowed := true, recurses := true, apart := false, narrowed := true }
def KernelBackUptoSaid : Prop := kernelBackUptoRow.holds Try.pinned (OpenSpec.upto kernelBackSpec)

/-- 'backstitchlaw4.KernelPlaces', WHERE WHAT IT READS IS OF BULK AT MOST 1048576: true; the input reads as it did. -/
def kernelPlacesUptoRow : OpenClaim := { program := "ytcegkaemcjlfgaa", sum := "8ca89de746aad13874e5c2806042ed41acdb6f2591d8a27771548278ef41a4a9", func := "backstitch/backstitchlaw4.KernelPlaces", spec := "kernelPlaces", inPlace := ["math.Float64bits"], unfollowed := true, recurses := true, apart := false, narrowed := true }
def KernelPlacesUptoSaid : Prop := kernelPlacesUptoRow.holds Try.pinned (OpenSpec.upto kernelPlacesSpec)

end Rows
end Go.Proofs.Ytcegkaemcjlfgaa
