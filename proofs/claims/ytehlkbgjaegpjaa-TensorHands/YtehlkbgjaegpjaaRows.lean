/-
  No cell of these rows narrows 'for every input' (looked for: loops, veiled, ifaces, maps, wideKeys, modest, calm, conditions, laid).
  DERIVED. THE GIVEN ROWS OF THIS SEAT. 5 by the template 'for every input the law returns true; each argument reads behind the call as it read before'; 0 by the template 'total and deterministic' (their statements: YtehlkbgjaegpjaaTotals.lean).
  GIVEN WITH THE SEED: the statements are not yours to turn. If you find one false, say at which input.
  Laid BY PROGRAM, IN A SANDBOX (cutbox-rows.mjs): the forced cells as the released guide's own fill.sh prints them over the translation 5eab9daefaf26e73… (all of the seat's roots in one cut). By AI agents, Wed Nov 11 2026. No macro, syntax, notation, axiom, sorry.
-/
import Derived.Test.YtehlkbgjaegpjaaChecked
import GoSem.Claim
import GoSem.ClaimJoined
import GoSem.ClaimMapViews
import Derived.JoinedTies
import Derived.KernelRfl
namespace Go.Proofs.Ytehlkbgjaegpjaa
/- THE CELL 'sum', in the pinned program and in every row, IS THE sha256 OF THE DUMP (.gsa) THAT YtehlkbgjaegpjaaProg.lean LOADS. Nothing in Lean hashes anything: it is a label: what it is worth is what the hold of that sum in a sandbox is worth. -/
noncomputable def Try.pinned : Pinned := { name := "ytehlkbgjaegpjaa", sum := "5eab9daefaf26e73b1f8c4c6f3bec8bcafcbb667146d924ed0ee814b73bbe5dc", checked := Try.checked }
namespace Rows
def none {H : Type} : Left H := { results := [], args := [] }

/-- 'backstitchlaw3.TensorMakes': WHATEVER THE INPUT: true; the input reads as it did. -/
def tensorMakesSpec : ChangeSpec := { name := "tensorMakes", fn := fun _ => fun
  | [d1, d2, d3] => { results := [.lit (.bool true)], args := [d1, d2, d3] }
  | _ => none }
def tensorMakesRow : OpenClaim := { program := "ytehlkbgjaegpjaa", sum := "5eab9daefaf26e73b1f8c4c6f3bec8bcafcbb667146d924ed0ee814b73bbe5dc", func := "backstitch/backstitchlaw3.TensorMakes", spec := "tensorMakes", inPlace := ["math.Float64bits", "math.Float64frombits"], unfollowed := true, recurses := true, apart := false }
def TensorMakesSaid : Prop := tensorMakesRow.holds Try.pinned (OpenSpec.ofChange tensorMakesSpec)

/-- ITS FALSE NEIGHBOUR: 'it returns false'. Refute it at one input. -/
def tensorMakesWrong : ChangeSpec := { name := "tensorMakes", fn := fun _ => fun
  | [d1, d2, d3] => { results := [.lit (.bool false)], args := [d1, d2, d3] }
  | _ => none }
def TensorMakesWrongFalsely : Prop := tensorMakesRow.holds Try.pinned (OpenSpec.ofChange tensorMakesWrong)

/-- 'backstitchlaw3.TensorAsks': WHATEVER THE INPUT: true; the input reads as it did. -/
def tensorAsksSpec : ChangeSpec := { name := "tensorAsks", fn := fun _ => fun
  | [d1, d2, d3] => { results := [.lit (.bool true)], args := [d1, d2, d3] }
  | _ => none }
def tensorAsksRow : OpenClaim := { program := "ytehlkbgjaegpjaa", sum := "5eab9daefaf26e73b1f8c4c6f3bec8bcafcbb667146d924ed0ee814b73bbe5dc", func := "backstitch/backstitchlaw3.TensorAsks", spec := "tensorAsks", inPlace := ["math.Float64bits", "math.Float64frombits"], unfollowed := true, recurses := true, apart := false }
def TensorAsksSaid : Prop := tensorAsksRow.holds Try.pinned (OpenSpec.ofChange tensorAsksSpec)

/-- ITS FALSE NEIGHBOUR: 'it returns false'. Refute it at one input. -/
def tensorAsksWrong : ChangeSpec := { name := "tensorAsks", fn := fun _ => fun
  | [d1, d2, d3] => { results := [.lit (.bool false)], args := [d1, d2, d3] }
  | _ => none }
def TensorAsksWrongFalsely : Prop := tensorAsksRow.holds Try.pinned (OpenSpec.ofChange tensorAsksWrong)

/-- 'backstitchlaw3.TensorKnown': WHATEVER THE INPUT: true; the input reads as it did. -/
def tensorKnownSpec : ChangeSpec := { name := "tensorKnown", fn := fun _ => fun
  | [] => { results := [.lit (.bool true)], args := [] }
  | _ => none }
def tensorKnownRow : OpenClaim := { program := "ytehlkbgjaegpjaa", sum := "5eab9daefaf26e73b1f8c4c6f3bec8bcafcbb667146d924ed0ee814b73bbe5dc", func := "backstitch/backstitchlaw3.TensorKnown", spec := "tensorKnown", inPlace := ["math.Float64bits", "math.Float64frombits"], unfollowed := true, recurses := true, apart := false }
def TensorKnownSaid : Prop := tensorKnownRow.holds Try.pinned (OpenSpec.ofChange tensorKnownSpec)

/-- ITS FALSE NEIGHBOUR: 'it returns false'. Refute it at one input. -/
def tensorKnownWrong : ChangeSpec := { name := "tensorKnown", fn := fun _ => fun
  | [] => { results := [.lit (.bool false)], args := [] }
  | _ => none }
def TensorKnownWrongFalsely : Prop := tensorKnownRow.holds Try.pinned (OpenSpec.ofChange tensorKnownWrong)

/-- 'backstitchlaw3.TensorMaps': WHATEVER THE INPUT: true; the input reads as it did. -/
def tensorMapsSpec : ChangeSpec := { name := "tensorMaps", fn := fun _ => fun
  | [d1, d2] => { results := [.lit (.bool true)], args := [d1, d2] }
  | _ => none }
def tensorMapsRow : OpenClaim := { program := "ytehlkbgjaegpjaa", sum := "5eab9daefaf26e73b1f8c4c6f3bec8bcafcbb667146d924ed0ee814b73bbe5dc", func := "backstitch/backstitchlaw3.TensorMaps", spec := "tensorMaps", inPlace := ["math.Float64bits", "math.Float64frombits", "math.sqrt"], unfollowed := true, recurses := true, apart := false }
def TensorMapsSaid : Prop := tensorMapsRow.holds Try.pinned (OpenSpec.ofChange tensorMapsSpec)

/-- ITS FALSE NEIGHBOUR: 'it returns false'. Refute it at one input. -/
def tensorMapsWrong : ChangeSpec := { name := "tensorMaps", fn := fun _ => fun
  | [d1, d2] => { results := [.lit (.bool false)], args := [d1, d2] }
  | _ => none }
def TensorMapsWrongFalsely : Prop := tensorMapsRow.holds Try.pinned (OpenSpec.ofChange tensorMapsWrong)

/-- 'backstitchlaw3.TensorHands': WHATEVER THE INPUT: true; the input reads as it did. -/
def tensorHandsSpec : ChangeSpec := { name := "tensorHands", fn := fun _ => fun
  | [d1, d2] => { results := [.lit (.bool true)], args := [d1, d2] }
  | _ => none }
def tensorHandsRow : OpenClaim := { program := "ytehlkbgjaegpjaa", sum := "5eab9daefaf26e73b1f8c4c6f3bec8bcafcbb667146d924ed0ee814b73bbe5dc", func := "backstitch/backstitchlaw3.TensorHands", spec := "tensorHands", inPlace := ["math.Float64bits", "math.Float64frombits"], unfollowed := true, recurses := true, apart := false }
def TensorHandsSaid : Prop := tensorHandsRow.holds Try.pinned (OpenSpec.ofChange tensorHandsSpec)

/-- ITS FALSE NEIGHBOUR: 'it returns false'. Refute it at one input. -/
def tensorHandsWrong : ChangeSpec := { name := "tensorHands", fn := fun _ => fun
  | [d1, d2] => { results := [.lit (.bool false)], args := [d1, d2] }
  | _ => none }
def TensorHandsWrongFalsely : Prop := tensorHandsRow.holds Try.pinned (OpenSpec.ofChange tensorHandsWrong)

/- THE SECOND FORM. 'bulk': how many values and letters a reading holds, each counted each time it is reached (what is shared counts as often as it is met; a slice's spare places count too). A statement '..UptoSaid' is the law's where the arguments, and the package variables that the reading takes, are together of bulk at most 1048576: NARROWER than '..Said'. Prove '..Said' where nothing that the law and all that it calls make is longer than what came in: it says more and counts as full. Else prove '..UptoSaid'. A law counts once. -/
mutual
def uptoBulk {H : Type} : DataW H → Nat
  | .lit (.string bytes) => bytes.length + 1
  | .lit _ => 1
  | .nil => 1
  | .ptr d => uptoBulk d + 1
  | .slice elems spare => uptoBulkAll elems + uptoBulkAll spare + 1
  | .agg parts => uptoBulkAll parts + 1
  | .iface _ d => uptoBulk d + 1
  | .map entries => uptoBulkEntries entries + 1
  | .held _ => 1
def uptoBulkAll {H : Type} : List (DataW H) → Nat
  | [] => 0
  | d :: r => uptoBulk d + uptoBulkAll r
def uptoBulkEntries {H : Type} : List (Lit × DataW H) → Nat
  | [] => 0
  | x :: r => uptoBulkEntry x + uptoBulkEntries r
def uptoBulkEntry {H : Type} : Lit × DataW H → Nat
  | (.string bytes, d) => bytes.length + uptoBulk d + 1
  | (_, d) => uptoBulk d + 1
 end
def uptoSmall : (H : Type) → List (DataW H) → Bool := fun _ ds => decide (uptoBulkAll ds ≤ 1048576)
def OpenSpec.upto (s : _root_.Go.ChangeSpec) : _root_.Go.OpenSpec := { _root_.Go.OpenSpec.ofChange s with cond := some uptoSmall }

/-- 'backstitchlaw3.TensorMakes', WHERE WHAT IT READS IS OF BULK AT MOST 1048576: true; the input reads as it did. -/
def tensorMakesUptoRow : OpenClaim := { program := "ytehlkbgjaegpjaa", sum := "5eab9daefaf26e73b1f8c4c6f3bec8bcafcbb667146d924ed0ee814b73bbe5dc", func := "backstitch/backstitchlaw3.TensorMakes", spec := "tensorMakes", inPlace := ["math.Float64bits", "math.Float64frombits"], unfollowed := true, recurses := true, apart := false, narrowed := true }
def TensorMakesUptoSaid : Prop := tensorMakesUptoRow.holds Try.pinned (OpenSpec.upto tensorMakesSpec)

/-- 'backstitchlaw3.TensorAsks', WHERE WHAT IT READS IS OF BULK AT MOST 1048576: true; the input reads as it did. -/
def tensorAsksUptoRow : OpenClaim := { program := "ytehlkbgjaegpjaa", sum := "5eab9daefaf26e73b1f8c4c6f3bec8bcafcbb667146d924ed0ee814b73bbe5dc", func := "backstitch/backstitchlaw3.TensorAsks", spec := "tensorAsks", inPlace := ["math.Float64bits", "math.Float64frombits"], unfollowed := true, recurses := true, apart := false, narrowed := true }
def TensorAsksUptoSaid : Prop := tensorAsksUptoRow.holds Try.pinned (OpenSpec.upto tensorAsksSpec)

/-- 'backstitchlaw3.TensorKnown', WHERE WHAT IT READS IS OF BULK AT MOST 1048576: true; the input reads as it did. -/
def tensorKnownUptoRow : OpenClaim := { program := "ytehlkbgjaegpjaa", sum := "5eab9daefaf26e73b1f8c4c6f3bec8bcafcbb667146d924ed0ee814b73bbe5dc", func := "backstitch/backstitchlaw3.TensorKnown", spec := "tensorKnown", inPlace := ["math.Float64bits", "math.Float64frombits"], unfollowed := true, recurses := true, apart := false, narrowed := true }
def TensorKnownUptoSaid : Prop := tensorKnownUptoRow.holds Try.pinned (OpenSpec.upto tensorKnownSpec)

/-- 'backstitchlaw3.TensorMaps', WHERE WHAT IT READS IS OF BULK AT MOST 1048576: true; the input reads as it did. -/
def tensorMapsUptoRow : OpenClaim := { program := "ytehlkbgjaegpjaa", sum := "5eab9daefaf26e73b1f8c4c6f3bec8bcafcbb667146d924ed0ee814b73bbe5dc", func := "backstitch/backstitchlaw3.TensorMaps", spec := "tensorMaps", inPlace := ["math.Float64bits", "math.Float64frombits", "math.sqrt"], unfollowed := true, recurses := true, apart := false, narrowed := true }
def TensorMapsUptoSaid : Prop := tensorMapsUptoRow.holds Try.pinned (OpenSpec.upto tensorMapsSpec)

/-- 'backstitchlaw3.TensorHands', WHERE WHAT IT READS IS OF BULK AT MOST 1048576: true; the input reads as it did. -/
def tensorHandsUptoRow : OpenClaim := { program := "ytehlkbgjaegpjaa", sum := "5eab9daefaf26e73b1f8c4c6f3bec8bcafcbb667146d924ed0ee814b73bbe5dc", func := "backstitch/backstitchlaw3.TensorHands", spec := "tensorHands", inPlace := ["math.Float64bits", "math.Float64frombits"], unfollowed := true, recurses := true, apart := false, narrowed := true }
def TensorHandsUptoSaid : Prop := tensorHandsUptoRow.holds Try.pinned (OpenSpec.upto tensorHandsSpec)

end Rows
end Go.Proofs.Ytehlkbgjaegpjaa
