/-
  No cell of these rows narrows 'for every input' (looked for: loops, veiled, ifaces, maps, wideKeys, modest, calm, conditions, laid).
  DERIVED. THE GIVEN ROWS OF THIS SEAT. 6 by the template 'for every input the law returns true; each argument reads behind the call as it read before'; 0 by the template 'total and deterministic' (their statements: YtenbmfhhmbfgoaaTotals.lean).
  GIVEN WITH THE SEED: the statements are not yours to turn. If you find one false, say at which input.
  Laid BY PROGRAM, IN A SANDBOX (cutbox-rows.mjs): the forced cells as the released guide's own fill.sh prints them over the translation 35645af438d48f1c… (all of the seat's roots in one cut). By AI agents, Wed Nov 11 2026. No macro, syntax, notation, axiom, sorry.
-/
import Derived.Test.YtenbmfhhmbfgoaaChecked
import GoSem.Claim
import GoSem.ClaimJoined
import GoSem.ClaimMapViews
import Derived.JoinedTies
import Derived.KernelRfl
namespace Go.Proofs.Ytenbmfhhmbfgoaa
/- THE CELL 'sum', in the pinned program and in every row, IS THE sha256 OF THE DUMP (.gsa) THAT YtenbmfhhmbfgoaaProg.lean LOADS. Nothing in Lean hashes anything: it is a label: what it is worth is what the hold of that sum in a sandbox is worth. -/
noncomputable def Try.pinned : Pinned := { name := "ytenbmfhhmbfgoaa", sum := "35645af438d48f1c08624ae64e672f026c63cf4166ddda5064609ecf911c3665", checked := Try.checked }
namespace Rows
def none {H : Type} : Left H := { results := [], args := [] }

/-- 'backstitchlaw15.SchedRuns': WHATEVER THE INPUT: true; the input reads as it did. -/
def schedRunsSpec : ChangeSpec := { name := "schedRuns", fn := fun _ => fun
  | [d1, d2, d3] => { results := [.lit (.bool true)], args := [d1, d2, d3] }
  | _ => none }
def schedRunsRow : OpenClaim := { program := "ytenbmfhhmbfgoaa", sum := "35645af438d48f1c08624ae64e672f026c63cf4166ddda5064609ecf911c3665", func := "backstitch/backstitchlaw15.SchedRuns", spec := "schedRuns", inPlace := ["slices.overlaps[int]"], unfollowed := true, recurses := true, apart := false }
def SchedRunsSaid : Prop := schedRunsRow.holds Try.pinned (OpenSpec.ofChange schedRunsSpec)

/-- ITS FALSE NEIGHBOUR: 'it returns false'. Refute it at one input. -/
def schedRunsWrong : ChangeSpec := { name := "schedRuns", fn := fun _ => fun
  | [d1, d2, d3] => { results := [.lit (.bool false)], args := [d1, d2, d3] }
  | _ => none }
def SchedRunsWrongFalsely : Prop := schedRunsRow.holds Try.pinned (OpenSpec.ofChange schedRunsWrong)

/-- 'backstitchlaw15.SchedKnown': WHATEVER THE INPUT: true; the input reads as it did. -/
def schedKnownSpec : ChangeSpec := { name := "schedKnown", fn := fun _ => fun
  | [] => { results := [.lit (.bool true)], args := [] }
  | _ => none }
def schedKnownRow : OpenClaim := { program := "ytenbmfhhmbfgoaa", sum := "35645af438d48f1c08624ae64e672f026c63cf4166ddda5064609ecf911c3665", func := "backstitch/backstitchlaw15.SchedKnown", spec := "schedKnown", inPlace := ["slices.overlaps[int]"], unfollowed := true, recurses := true, apart := false }
def SchedKnownSaid : Prop := schedKnownRow.holds Try.pinned (OpenSpec.ofChange schedKnownSpec)

/-- ITS FALSE NEIGHBOUR: 'it returns false'. Refute it at one input. -/
def schedKnownWrong : ChangeSpec := { name := "schedKnown", fn := fun _ => fun
  | [] => { results := [.lit (.bool false)], args := [] }
  | _ => none }
def SchedKnownWrongFalsely : Prop := schedKnownRow.holds Try.pinned (OpenSpec.ofChange schedKnownWrong)

/-- 'backstitchlaw15.SchedAll': WHATEVER THE INPUT: true; the input reads as it did. -/
def schedAllSpec : ChangeSpec := { name := "schedAll", fn := fun _ => fun
  | [d1, d2] => { results := [.lit (.bool true)], args := [d1, d2] }
  | _ => none }
def schedAllRow : OpenClaim := { program := "ytenbmfhhmbfgoaa", sum := "35645af438d48f1c08624ae64e672f026c63cf4166ddda5064609ecf911c3665", func := "backstitch/backstitchlaw15.SchedAll", spec := "schedAll", inPlace := ["slices.overlaps[int]"], unfollowed := true, recurses := true, apart := false }
def SchedAllSaid : Prop := schedAllRow.holds Try.pinned (OpenSpec.ofChange schedAllSpec)

/-- ITS FALSE NEIGHBOUR: 'it returns false'. Refute it at one input. -/
def schedAllWrong : ChangeSpec := { name := "schedAll", fn := fun _ => fun
  | [d1, d2] => { results := [.lit (.bool false)], args := [d1, d2] }
  | _ => none }
def SchedAllWrongFalsely : Prop := schedAllRow.holds Try.pinned (OpenSpec.ofChange schedAllWrong)

/-- 'backstitchlaw15.SchedLimit': WHATEVER THE INPUT: true; the input reads as it did. -/
def schedLimitSpec : ChangeSpec := { name := "schedLimit", fn := fun _ => fun
  | [d] => { results := [.lit (.bool true)], args := [d] }
  | _ => none }
def schedLimitRow : OpenClaim := { program := "ytenbmfhhmbfgoaa", sum := "35645af438d48f1c08624ae64e672f026c63cf4166ddda5064609ecf911c3665", func := "backstitch/backstitchlaw15.SchedLimit", spec := "schedLimit", inPlace := ["slices.overlaps[int]"], unfollowed := true, recurses := true, apart := false }
def SchedLimitSaid : Prop := schedLimitRow.holds Try.pinned (OpenSpec.ofChange schedLimitSpec)

/-- ITS FALSE NEIGHBOUR: 'it returns false'. Refute it at one input. -/
def schedLimitWrong : ChangeSpec := { name := "schedLimit", fn := fun _ => fun
  | [d] => { results := [.lit (.bool false)], args := [d] }
  | _ => none }
def SchedLimitWrongFalsely : Prop := schedLimitRow.holds Try.pinned (OpenSpec.ofChange schedLimitWrong)

/-- 'backstitchlaw15.SchedBorn': WHATEVER THE INPUT: true; the input reads as it did. -/
def schedBornSpec : ChangeSpec := { name := "schedBorn", fn := fun _ => fun
  | [d1, d2] => { results := [.lit (.bool true)], args := [d1, d2] }
  | _ => none }
def schedBornRow : OpenClaim := { program := "ytenbmfhhmbfgoaa", sum := "35645af438d48f1c08624ae64e672f026c63cf4166ddda5064609ecf911c3665", func := "backstitch/backstitchlaw15.SchedBorn", spec := "schedBorn", inPlace := ["slices.overlaps[int]"], unfollowed := true, recurses := true, apart := false }
def SchedBornSaid : Prop := schedBornRow.holds Try.pinned (OpenSpec.ofChange schedBornSpec)

/-- ITS FALSE NEIGHBOUR: 'it returns false'. Refute it at one input. -/
def schedBornWrong : ChangeSpec := { name := "schedBorn", fn := fun _ => fun
  | [d1, d2] => { results := [.lit (.bool false)], args := [d1, d2] }
  | _ => none }
def SchedBornWrongFalsely : Prop := schedBornRow.holds Try.pinned (OpenSpec.ofChange schedBornWrong)

/-- 'backstitchlaw15.SchedCuts': WHATEVER THE INPUT: true; the input reads as it did. -/
def schedCutsSpec : ChangeSpec := { name := "schedCuts", fn := fun _ => fun
  | [d1, d2, d3] => { results := [.lit (.bool true)], args := [d1, d2, d3] }
  | _ => none }
def schedCutsRow : OpenClaim := { program := "ytenbmfhhmbfgoaa", sum := "35645af438d48f1c08624ae64e672f026c63cf4166ddda5064609ecf911c3665", func := "backstitch/backstitchlaw15.SchedCuts", spec := "schedCuts", inPlace := ["slices.overlaps[int]"], unfollowed := true, recurses := true, apart := false }
def SchedCutsSaid : Prop := schedCutsRow.holds Try.pinned (OpenSpec.ofChange schedCutsSpec)

/-- ITS FALSE NEIGHBOUR: 'it returns false'. Refute it at one input. -/
def schedCutsWrong : ChangeSpec := { name := "schedCuts", fn := fun _ => fun
  | [d1, d2, d3] => { results := [.lit (.bool false)], args := [d1, d2, d3] }
  | _ => none }
def SchedCutsWrongFalsely : Prop := schedCutsRow.holds Try.pinned (OpenSpec.ofChange schedCutsWrong)

/- THE SECOND FORM. 'bulk': how many values and letters a reading holds, each counted each time it is reached (what is shared counts as often as it is met; a slice's spare places count too). A statement '..UptoSaid' is the law's where the arguments, and the package variables that the reading takes, are together of bulk at most 1048576: NARROWER than '..Said'. Prove '..Said' where nothing that the law and all that it calls make is longer than what came in: it says more and counts as full. Else prove '..UptoSaid'. A law counts once. -/
mutual
def uptoBulk {H : Type} : DataW H → Nat
  | .lit (.string bytes) => bytes.length + 1
  | .lit _ => 1
  | .nil => 1
  | .ptr d => uptoBulk d + 1
  | .slice elems spare => uptoBulkAll elems + uptoBulkAll spare + 1
  | .agg parts => uptoBulkAll parts + 1
  | .iface _ d => uptoBulk d + 1
  | .map entries => uptoBulkEntries entries + 1
  | .held _ => 1
def uptoBulkAll {H : Type} : List (DataW H) → Nat
  | [] => 0
  | d :: r => uptoBulk d + uptoBulkAll r
def uptoBulkEntries {H : Type} : List (Lit × DataW H) → Nat
  | [] => 0
  | x :: r => uptoBulkEntry x + uptoBulkEntries r
def uptoBulkEntry {H : Type} : Lit × DataW H → Nat
  | (.string bytes, d) => bytes.length + uptoBulk d + 1
  | (_, d) => uptoBulk d + 1
 end
def uptoSmall : (H : Type) → List (DataW H) → Bool := fun _ ds => decide (uptoBulkAll ds ≤ 1048576)
def OpenSpec.upto (s : _root_.Go.ChangeSpec) : _root_.Go.OpenSpec := { _root_.Go.OpenSpec.ofChange s with cond := some uptoSmall }

/-- 'backstitchlaw15.SchedRuns', WHERE WHAT IT READS IS OF BULK AT MOST 1048576: true; the input reads as it did. -/
def schedRunsUptoRow : OpenClaim := { program := "ytenbmfhhmbfgoaa", sum := "35645af438d48f1c08624ae64e672f026c63cf4166ddda5064609ecf911c3665", func := "backstitch/backstitchlaw15.SchedRuns", spec := "schedRuns", inPlace := ["slices.overlaps[int]"], unfollowed := true, recurses := true, apart := false, narrowed := true }
def SchedRunsUptoSaid : Prop := schedRunsUptoRow.holds Try.pinned (OpenSpec.upto schedRunsSpec)

/-- 'backstitchlaw15.SchedKnown', WHERE WHAT IT READS IS OF BULK AT MOST 1048576: true; the input reads as it did. -/
def schedKnownUptoRow : OpenClaim := { program := "ytenbmfhhmbfgoaa", sum := "35645af438d48f1c08624ae64e672f026c63cf4166ddda5064609ecf911c3665", func := "backstitch/backstitchlaw15.SchedKnown", spec := "schedKnown", inPlace := ["slices.overlaps[int]"], unfollowed := true, recurses := true, apart := false, narrowed := true }
def SchedKnownUptoSaid : Prop := schedKnownUptoRow.holds Try.pinned (OpenSpec.upto schedKnownSpec)

/-- 'backstitchlaw15.SchedAll', WHERE WHAT IT READS IS OF BULK AT MOST 1048576: true; the input reads as it did. -/
def schedAllUptoRow : OpenClaim := { program := "ytenbmfhhmbfgoaa", sum := "35645af438d48f1c08624ae64e672f026c63cf4166ddda5064609ecf911c3665", func := "backstitch/backstitchlaw15.SchedAll", spec := "schedAll", inPlace := ["slices.overlaps[int]"], unfollowed := true, recurses := true, apart := false, narrowed := true }
def SchedAllUptoSaid : Prop := schedAllUptoRow.holds Try.pinned (OpenSpec.upto schedAllSpec)

/-- 'backstitchlaw15.SchedLimit', WHERE WHAT IT READS IS OF BULK AT MOST 1048576: true; the input reads as it did. -/
def schedLimitUptoRow : OpenClaim := { program := "ytenbmfhhmbfgoaa", sum := "35645af438d48f1c08624ae64e672f026c63cf4166ddda5064609ecf911c3665", func := "backstitch/backstitchlaw15.SchedLimit", spec := "schedLimit", inPlace := ["slices.overlaps[int]"], unfollowed := true, recurses := true, apart := false, narrowed := true }
def SchedLimitUptoSaid : Prop := schedLimitUptoRow.holds Try.pinned (OpenSpec.upto schedLimitSpec)

/-- 'backstitchlaw15.SchedBorn', WHERE WHAT IT READS IS OF BULK AT MOST 1048576: true; the input reads as it did. -/
def schedBornUptoRow : OpenClaim := { program := "ytenbmfhhmbfgoaa", sum := "35645af438d48f1c08624ae64e672f026c63cf4166ddda5064609ecf911c3665", func := "backstitch/backstitchlaw15.SchedBorn", spec := "schedBorn", inPlace := ["slices.overlaps[int]"], unfollowed := true, recurses := true, apart := false, narrowed := true }
def SchedBornUptoSaid : Prop := schedBornUptoRow.holds Try.pinned (OpenSpec.upto schedBornSpec)

/-- 'backstitchlaw15.SchedCuts', WHERE WHAT IT READS IS OF BULK AT MOST 1048576: true; the input reads as it did. -/
def schedCutsUptoRow : OpenClaim := { program := "ytenbmfhhmbfgoaa", sum := "35645af438d48f1c08624ae64e672f026c63cf4166ddda5064609ecf911c3665", func := "backstitch/backstitchlaw15.SchedCuts", spec := "schedCuts", inPlace := ["slices.overlaps[int]"], unfollowed := true, recurses := true, apart := false, narrowed := true }
def SchedCutsUptoSaid : Prop := schedCutsUptoRow.holds Try.pinned (OpenSpec.upto schedCutsSpec)

end Rows
end Go.Proofs.Ytenbmfhhmbfgoaa
