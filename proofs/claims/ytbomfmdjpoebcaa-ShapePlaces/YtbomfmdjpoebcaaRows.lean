/-
  No cell of these rows narrows 'for every input' (looked for: loops, veiled, ifaces, maps, wideKeys, modest, calm, conditions, laid).
  DERIVED. THE GIVEN ROWS OF THIS SEAT. 6 by the template 'for every input the law returns true; each argument reads behind the call as it read before'; 0 by the template 'total and deterministic' (their statements: YtbomfmdjpoebcaaTotals.lean).
  GIVEN WITH THE SEED: the statements are not yours to turn. If you find one false, say at which input.
  Laid BY PROGRAM, IN A SANDBOX (cutbox-rows.mjs): the forced cells as the released guide's own fill.sh prints them over the translation 5dab208aa1ab0026… (all of the seat's roots in one cut). By AI agents, Wed Nov 11 2026. No macro, syntax, notation, axiom, sorry.
-/
import Derived.Test.YtbomfmdjpoebcaaChecked
import GoSem.Claim
import GoSem.ClaimJoined
import GoSem.ClaimMapViews
import Derived.JoinedTies
import Derived.KernelRfl
namespace Go.Proofs.Ytbomfmdjpoebcaa
/- THE CELL 'sum', in the pinned program and in every row, IS THE sha256 OF THE DUMP (.gsa) THAT YtbomfmdjpoebcaaProg.lean LOADS. Nothing in Lean hashes anything: it is a label: what it is worth is what the hold of that sum in a sandbox is worth. -/
noncomputable def Try.pinned : Pinned := { name := "ytbomfmdjpoebcaa", sum := "5dab208aa1ab0026877cdb670d41c15ee9de4374161b2278857eb7aaba1405cb", checked := Try.checked }
namespace Rows
def none {H : Type} : Left H := { results := [], args := [] }

/-- 'backstitchlaw1.ShapeReckons': WHATEVER THE INPUT: true; the input reads as it did. -/
def shapeReckonsSpec : ChangeSpec := { name := "shapeReckons", fn := fun _ => fun
  | [d1, d2, d3] => { results := [.lit (.bool true)], args := [d1, d2, d3] }
  | _ => none }
def shapeReckonsRow : OpenClaim := { program := "ytbomfmdjpoebcaa", sum := "5dab208aa1ab0026877cdb670d41c15ee9de4374161b2278857eb7aaba1405cb", func := "backstitch/backstitchlaw1.ShapeReckons", spec := "shapeReckons", unfollowed := true, recurses := true, apart := false }
def ShapeReckonsSaid : Prop := shapeReckonsRow.holds Try.pinned (OpenSpec.ofChange shapeReckonsSpec)

/-- ITS FALSE NEIGHBOUR: 'it returns false'. Refute it at one input. -/
def shapeReckonsWrong : ChangeSpec := { name := "shapeReckons", fn := fun _ => fun
  | [d1, d2, d3] => { results := [.lit (.bool false)], args := [d1, d2, d3] }
  | _ => none }
def ShapeReckonsWrongFalsely : Prop := shapeReckonsRow.holds Try.pinned (OpenSpec.ofChange shapeReckonsWrong)

/-- 'backstitchlaw1.ShapeSpreads': WHATEVER THE INPUT: true; the input reads as it did. -/
def shapeSpreadsSpec : ChangeSpec := { name := "shapeSpreads", fn := fun _ => fun
  | [d1, d2] => { results := [.lit (.bool true)], args := [d1, d2] }
  | _ => none }
def shapeSpreadsRow : OpenClaim := { program := "ytbomfmdjpoebcaa", sum := "5dab208aa1ab0026877cdb670d41c15ee9de4374161b2278857eb7aaba1405cb", func := "backstitch/backstitchlaw1.ShapeSpreads", spec := "shapeSpreads", unfollowed := true, recurses := true, apart := false }
def ShapeSpreadsSaid : Prop := shapeSpreadsRow.holds Try.pinned (OpenSpec.ofChange shapeSpreadsSpec)

/-- ITS FALSE NEIGHBOUR: 'it returns false'. Refute it at one input. -/
def shapeSpreadsWrong : ChangeSpec := { name := "shapeSpreads", fn := fun _ => fun
  | [d1, d2] => { results := [.lit (.bool false)], args := [d1, d2] }
  | _ => none }
def ShapeSpreadsWrongFalsely : Prop := shapeSpreadsRow.holds Try.pinned (OpenSpec.ofChange shapeSpreadsWrong)

/-- 'backstitchlaw1.ShapePlaces': WHATEVER THE INPUT: true; the input reads as it did. -/
def shapePlacesSpec : ChangeSpec := { name := "shapePlaces", fn := fun _ => fun
  | [d] => { results := [.lit (.bool true)], args := [d] }
  | _ => none }
def shapePlacesRow : OpenClaim := { program := "ytbomfmdjpoebcaa", sum := "5dab208aa1ab0026877cdb670d41c15ee9de4374161b2278857eb7aaba1405cb", func := "backstitch/backstitchlaw1.ShapePlaces", spec := "shapePlaces", unfollowed := true, recurses := true, apart := false }
def ShapePlacesSaid : Prop := shapePlacesRow.holds Try.pinned (OpenSpec.ofChange shapePlacesSpec)

/-- ITS FALSE NEIGHBOUR: 'it returns false'. Refute it at one input. -/
def shapePlacesWrong : ChangeSpec := { name := "shapePlaces", fn := fun _ => fun
  | [d] => { results := [.lit (.bool false)], args := [d] }
  | _ => none }
def ShapePlacesWrongFalsely : Prop := shapePlacesRow.holds Try.pinned (OpenSpec.ofChange shapePlacesWrong)

/-- 'backstitchlaw1.ShapeKnown': WHATEVER THE INPUT: true; the input reads as it did. -/
def shapeKnownSpec : ChangeSpec := { name := "shapeKnown", fn := fun _ => fun
  | [] => { results := [.lit (.bool true)], args := [] }
  | _ => none }
def shapeKnownRow : OpenClaim := { program := "ytbomfmdjpoebcaa", sum := "5dab208aa1ab0026877cdb670d41c15ee9de4374161b2278857eb7aaba1405cb", func := "backstitch/backstitchlaw1.ShapeKnown", spec := "shapeKnown", unfollowed := true, recurses := true, apart := false }
def ShapeKnownSaid : Prop := shapeKnownRow.holds Try.pinned (OpenSpec.ofChange shapeKnownSpec)

/-- ITS FALSE NEIGHBOUR: 'it returns false'. Refute it at one input. -/
def shapeKnownWrong : ChangeSpec := { name := "shapeKnown", fn := fun _ => fun
  | [] => { results := [.lit (.bool false)], args := [] }
  | _ => none }
def ShapeKnownWrongFalsely : Prop := shapeKnownRow.holds Try.pinned (OpenSpec.ofChange shapeKnownWrong)

/-- 'backstitchlaw1.ShapeThree': WHATEVER THE INPUT: true; the input reads as it did. -/
def shapeThreeSpec : ChangeSpec := { name := "shapeThree", fn := fun _ => fun
  | [d1, d2, d3] => { results := [.lit (.bool true)], args := [d1, d2, d3] }
  | _ => none }
def shapeThreeRow : OpenClaim := { program := "ytbomfmdjpoebcaa", sum := "5dab208aa1ab0026877cdb670d41c15ee9de4374161b2278857eb7aaba1405cb", func := "backstitch/backstitchlaw1.ShapeThree", spec := "shapeThree", unfollowed := true, recurses := true, apart := false }
def ShapeThreeSaid : Prop := shapeThreeRow.holds Try.pinned (OpenSpec.ofChange shapeThreeSpec)

/-- ITS FALSE NEIGHBOUR: 'it returns false'. Refute it at one input. -/
def shapeThreeWrong : ChangeSpec := { name := "shapeThree", fn := fun _ => fun
  | [d1, d2, d3] => { results := [.lit (.bool false)], args := [d1, d2, d3] }
  | _ => none }
def ShapeThreeWrongFalsely : Prop := shapeThreeRow.holds Try.pinned (OpenSpec.ofChange shapeThreeWrong)

/-- 'backstitchlaw1.ShapeOnes': WHATEVER THE INPUT: true; the input reads as it did. -/
def shapeOnesSpec : ChangeSpec := { name := "shapeOnes", fn := fun _ => fun
  | [d1, d2] => { results := [.lit (.bool true)], args := [d1, d2] }
  | _ => none }
def shapeOnesRow : OpenClaim := { program := "ytbomfmdjpoebcaa", sum := "5dab208aa1ab0026877cdb670d41c15ee9de4374161b2278857eb7aaba1405cb", func := "backstitch/backstitchlaw1.ShapeOnes", spec := "shapeOnes", unfollowed := true, recurses := true, apart := false }
def ShapeOnesSaid : Prop := shapeOnesRow.holds Try.pinned (OpenSpec.ofChange shapeOnesSpec)

/-- ITS FALSE NEIGHBOUR: 'it returns false'. Refute it at one input. -/
def shapeOnesWrong : ChangeSpec := { name := "shapeOnes", fn := fun _ => fun
  | [d1, d2] => { results := [.lit (.bool false)], args := [d1, d2] }
  | _ => none }
def ShapeOnesWrongFalsely : Prop := shapeOnesRow.holds Try.pinned (OpenSpec.ofChange shapeOnesWrong)

/- THE SECOND FORM. 'bulk': how many values and letters a reading holds, each counted each time it is reached (what is shared counts as often as it is met; a slice's spare places count too). A statement '..UptoSaid' is the law's where the arguments, and the package variables that the reading takes, are together of bulk at most 1048576: NARROWER than '..Said'. Prove '..Said' where nothing that the law and all that it calls make is longer than what came in: it says more and counts as full. Else prove '..UptoSaid'. A law counts once. -/
mutual
def uptoBulk {H : Type} : DataW H → Nat
  | .lit (.string bytes) => bytes.length + 1
  | .lit _ => 1
  | .nil => 1
  | .ptr d => uptoBulk d + 1
  | .slice elems spare => uptoBulkAll elems + uptoBulkAll spare + 1
  | .agg parts => uptoBulkAll parts + 1
  | .iface _ d => uptoBulk d + 1
  | .map entries => uptoBulkEntries entries + 1
  | .held _ => 1
def uptoBulkAll {H : Type} : List (DataW H) → Nat
  | [] => 0
  | d :: r => uptoBulk d + uptoBulkAll r
def uptoBulkEntries {H : Type} : List (Lit × DataW H) → Nat
  | [] => 0
  | x :: r => uptoBulkEntry x + uptoBulkEntries r
def uptoBulkEntry {H : Type} : Lit × DataW H → Nat
  | (.string bytes, d) => bytes.length + uptoBulk d + 1
  | (_, d) => uptoBulk d + 1
 end
def uptoSmall : (H : Type) → List (DataW H) → Bool := fun _ ds => decide (uptoBulkAll ds ≤ 1048576)
def OpenSpec.upto (s : _root_.Go.ChangeSpec) : _root_.Go.OpenSpec := { _root_.Go.OpenSpec.ofChange s with cond := some uptoSmall }

/-- 'backstitchlaw1.ShapeReckons', WHERE WHAT IT READS IS OF BULK AT MOST 1048576: true; the input reads as it did. -/
def shapeReckonsUptoRow : OpenClaim := { program := "ytbomfmdjpoebcaa", sum := "5dab208aa1ab0026877cdb670d41c15ee9de4374161b2278857eb7aaba1405cb", func := "backstitch/backstitchlaw1.ShapeReckons", spec := "shapeReckons", unfollowed := true, recurses := true, apart := false, narrowed := true }
def ShapeReckonsUptoSaid : Prop := shapeReckonsUptoRow.holds Try.pinned (OpenSpec.upto shapeReckonsSpec)

/-- 'backstitchlaw1.ShapeSpreads', WHERE WHAT IT READS IS OF BULK AT MOST 1048576: true; the input reads as it did. -/
def shapeSpreadsUptoRow : OpenClaim := { program := "ytbomfmdjpoebcaa", sum := "5dab208aa1ab0026877cdb670d41c15ee9de4374161b2278857eb7aaba1405cb", func := "backstitch/backstitchlaw1.ShapeSpreads", spec := "shapeSpreads", unfollowed := true, recurses := true, apart := false, narrowed := true }
def ShapeSpreadsUptoSaid : Prop := shapeSpreadsUptoRow.holds Try.pinned (OpenSpec.upto shapeSpreadsSpec)

/-- 'backstitchlaw1.ShapePlaces', WHERE WHAT IT READS IS OF BULK AT MOST 1048576: true; the input reads as it did. -/
def shapePlacesUptoRow : OpenClaim := { program := "ytbomfmdjpoebcaa", sum := "5dab208aa1ab0026877cdb670d41c15ee9de4374161b2278857eb7aaba1405cb", func := "backstitch/backstitchlaw1.ShapePlaces", spec := "shapePlaces", unfollowed := true, recurses := true, apart := false, narrowed := true }
def ShapePlacesUptoSaid : Prop := shapePlacesUptoRow.holds Try.pinned (OpenSpec.upto shapePlacesSpec)

/-- 'backstitchlaw1.ShapeKnown', WHERE WHAT IT READS IS OF BULK AT MOST 1048576: true; the input reads as it did. -/
def shapeKnownUptoRow : OpenClaim := { program := "ytbomfmdjpoebcaa", sum := "5dab208aa1ab0026877cdb670d41c15ee9de4374161b2278857eb7aaba1405cb", func := "backstitch/backstitchlaw1.ShapeKnown", spec := "shapeKnown", unfollowed := true, recurses := true, apart := false, narrowed := true }
def ShapeKnownUptoSaid : Prop := shapeKnownUptoRow.holds Try.pinned (OpenSpec.upto shapeKnownSpec)

/-- 'backstitchlaw1.ShapeThree', WHERE WHAT IT READS IS OF BULK AT MOST 1048576: true; the input reads as it did. -/
def shapeThreeUptoRow : OpenClaim := { program := "ytbomfmdjpoebcaa", sum := "5dab208aa1ab0026877cdb670d41c15ee9de4374161b2278857eb7aaba1405cb", func := "backstitch/backstitchlaw1.ShapeThree", spec := "shapeThree", unfollowed := true, recurses := true, apart := false, narrowed := true }
def ShapeThreeUptoSaid : Prop := shapeThreeUptoRow.holds Try.pinned (OpenSpec.upto shapeThreeSpec)

/-- 'backstitchlaw1.ShapeOnes', WHERE WHAT IT READS IS OF BULK AT MOST 1048576: true; the input reads as it did. -/
def shapeOnesUptoRow : OpenClaim := { program := "ytbomfmdjpoebcaa", sum := "5dab208aa1ab0026877cdb670d41c15ee9de4374161b2278857eb7aaba1405cb", func := "backstitch/backstitchlaw1.ShapeOnes", spec := "shapeOnes", unfollowed := true, recurses := true, apart := false, narrowed := true }
def ShapeOnesUptoSaid : Prop := shapeOnesUptoRow.holds Try.pinned (OpenSpec.upto shapeOnesSpec)

end Rows
end Go.Proofs.Ytbomfmdjpoebcaa
