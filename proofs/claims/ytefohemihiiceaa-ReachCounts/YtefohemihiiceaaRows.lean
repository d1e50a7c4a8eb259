/-
  No cell of these rows narrows 'for every input' (looked for: loops, veiled, ifaces, maps, wideKeys, modest, calm, conditions, laid).
  DERIVED. THE GIVEN ROWS OF THIS SEAT. 5 by the template 'for every input the law returns true; each argument reads behind the call as it read before'; 0 by the template 'total and deterministic' (their statements: YtefohemihiiceaaTotals.lean).
  GIVEN WITH THE SEED: the statements are not yours to turn. If you find one false, say at which input.
  Laid BY PROGRAM, IN A SANDBOX (cutbox-rows.mjs): the forced cells as the released guide's own fill.sh prints them over the translation 0e9c2d7a80bb4b41… (all of the seat's roots in one cut). By AI agents, Wed Nov 11 2026. No macro, syntax, notation, axiom, sorry.
-/
import Derived.Test.YtefohemihiiceaaChecked
import GoSem.Claim
import GoSem.ClaimJoined
import GoSem.ClaimMapViews
import Derived.JoinedTies
import Derived.KernelRfl
namespace Go.Proofs.Ytefohemihiiceaa
/- THE CELL 'sum', in the pinned program and in every row, IS THE sha256 OF THE DUMP (.gsa) THAT YtefohemihiiceaaProg.lean LOADS. Nothing in Lean hashes anything: it is a label: what it is worth is what the hold of that sum in a sandbox is worth. -/
noncomputable def Try.pinned : Pinned := { name := "ytefohemihiiceaa", sum := "0e9c2d7a80bb4b41782f461d81ca853e2cc860e52d96ce5786f4711c9b14d5c0", checked := Try.checked }
namespace Rows
def none {H : Type} : Left H := { results := [], args := [] }

/-- 'backstitchlaw11.ReachTells': WHATEVER THE INPUT: true; the input reads as it did. -/
def reachTellsSpec : ChangeSpec := { name := "reachTells", fn := fun _ => fun
  | [d1, d2] => { results := [.lit (.bool true)], args := [d1, d2] }
  | _ => none }
def reachTellsRow : OpenClaim := { program := "ytefohemihiiceaa", sum := "0e9c2d7a80bb4b41782f461d81ca853e2cc860e52d96ce5786f4711c9b14d5c0", func := "backstitch/backstitchlaw11.ReachTells", spec := "reachTells", unfollowed := true, recurses := true, apart := false }
def ReachTellsSaid : Prop := reachTellsRow.holds Try.pinned (OpenSpec.ofChange reachTellsSpec)

/-- ITS FALSE NEIGHBOUR: 'it returns false'. Refute it at one input. -/
def reachTellsWrong : ChangeSpec := { name := "reachTells", fn := fun _ => fun
  | [d1, d2] => { results := [.lit (.bool false)], args := [d1, d2] }
  | _ => none }
def ReachTellsWrongFalsely : Prop := reachTellsRow.holds Try.pinned (OpenSpec.ofChange reachTellsWrong)

/-- 'backstitchlaw11.ReachKnown': WHATEVER THE INPUT: true; the input reads as it did. -/
def reachKnownSpec : ChangeSpec := { name := "reachKnown", fn := fun _ => fun
  | [] => { results := [.lit (.bool true)], args := [] }
  | _ => none }
def reachKnownRow : OpenClaim := { program := "ytefohemihiiceaa", sum := "0e9c2d7a80bb4b41782f461d81ca853e2cc860e52d96ce5786f4711c9b14d5c0", func := "backstitch/backstitchlaw11.ReachKnown", spec := "reachKnown", unfollowed := true, recurses := true, apart := false }
def ReachKnownSaid : Prop := reachKnownRow.holds Try.pinned (OpenSpec.ofChange reachKnownSpec)

/-- ITS FALSE NEIGHBOUR: 'it returns false'. Refute it at one input. -/
def reachKnownWrong : ChangeSpec := { name := "reachKnown", fn := fun _ => fun
  | [] => { results := [.lit (.bool false)], args := [] }
  | _ => none }
def ReachKnownWrongFalsely : Prop := reachKnownRow.holds Try.pinned (OpenSpec.ofChange reachKnownWrong)

/-- 'backstitchlaw11.ReachCounts': WHATEVER THE INPUT: true; the input reads as it did. -/
def reachCountsSpec : ChangeSpec := { name := "reachCounts", fn := fun _ => fun
  | [d1, d2] => { results := [.lit (.bool true)], args := [d1, d2] }
  | _ => none }
def reachCountsRow : OpenClaim := { program := "ytefohemihiiceaa", sum := "0e9c2d7a80bb4b41782f461d81ca853e2cc860e52d96ce5786f4711c9b14d5c0", func := "backstitch/backstitchlaw11.ReachCounts", spec := "reachCounts", unfollowed := true, recurses := true, apart := false }
def ReachCountsSaid : Prop := reachCountsRow.holds Try.pinned (OpenSpec.ofChange reachCountsSpec)

/-- ITS FALSE NEIGHBOUR: 'it returns false'. Refute it at one input. -/
def reachCountsWrong : ChangeSpec := { name := "reachCounts", fn := fun _ => fun
  | [d1, d2] => { results := [.lit (.bool false)], args := [d1, d2] }
  | _ => none }
def ReachCountsWrongFalsely : Prop := reachCountsRow.holds Try.pinned (OpenSpec.ofChange reachCountsWrong)

/-- 'backstitchlaw11.ReachRoots': WHATEVER THE INPUT: true; the input reads as it did. -/
def reachRootsSpec : ChangeSpec := { name := "reachRoots", fn := fun _ => fun
  | [d1, d2] => { results := [.lit (.bool true)], args := [d1, d2] }
  | _ => none }
def reachRootsRow : OpenClaim := { program := "ytefohemihiiceaa", sum := "0e9c2d7a80bb4b41782f461d81ca853e2cc860e52d96ce5786f4711c9b14d5c0", func := "backstitch/backstitchlaw11.ReachRoots", spec := "reachRoots", unfollowed := true, recurses := true, apart := false }
def ReachRootsSaid : Prop := reachRootsRow.holds Try.pinned (OpenSpec.ofChange reachRootsSpec)

/-- ITS FALSE NEIGHBOUR: 'it returns false'. Refute it at one input. -/
def reachRootsWrong : ChangeSpec := { name := "reachRoots", fn := fun _ => fun
  | [d1, d2] => { results := [.lit (.bool false)], args := [d1, d2] }
  | _ => none }
def ReachRootsWrongFalsely : Prop := reachRootsRow.holds Try.pinned (OpenSpec.ofChange reachRootsWrong)

/-- 'backstitchlaw11.ReachChains': WHATEVER THE INPUT: true; the input reads as it did. -/
def reachChainsSpec : ChangeSpec := { name := "reachChains", fn := fun _ => fun
  | [d1, d2, d3] => { results := [.lit (.bool true)], args := [d1, d2, d3] }
  | _ => none }
def reachChainsRow : OpenClaim := { program := "ytefohemihiiceaa", sum := "0e9c2d7a80bb4b41782f461d81ca853e2cc860e52d96ce5786f4711c9b14d5c0", func := "backstitch/backstitchlaw11.ReachChains", spec := "reachChains", unfollowed := true, recurses := true, apart := false }
def ReachChainsSaid : Prop := reachChainsRow.holds Try.pinned (OpenSpec.ofChange reachChainsSpec)

/-- ITS FALSE NEIGHBOUR: 'it returns false'. Refute it at one input. -/
def reachChainsWrong : ChangeSpec := { name := "reachChains", fn := fun _ => fun
  | [d1, d2, d3] => { results := [.lit (.bool false)], args := [d1, d2, d3] }
  | _ => none }
def ReachChainsWrongFalsely : Prop := reachChainsRow.holds Try.pinned (OpenSpec.ofChange reachChainsWrong)

/- THE SECOND FORM. 'bulk': how many values and letters a reading holds, each counted each time it is reached (what is shared counts as often as it is met; a slice's spare places count too). A statement '..UptoSaid' is the law's where the arguments, and the package variables that the reading takes, are together of bulk at most 1048576: NARROWER than '..Said'. Prove '..Said' where nothing that the law and all that it calls make is longer than what came in: it says more and counts as full. Else prove '..UptoSaid'. A law counts once. -/
mutual
def uptoBulk {H : Type} : DataW H → Nat
  | .lit (.string bytes) => bytes.length + 1
  | .lit _ => 1
  | .nil => 1
  | .ptr d => uptoBulk d + 1
  | .slice elems spare => uptoBulkAll elems + uptoBulkAll spare + 1
  | .agg parts => uptoBulkAll parts + 1
  | .iface _ d => uptoBulk d + 1
  | .map entries => uptoBulkEntries entries + 1
  | .held _ => 1
def uptoBulkAll {H : Type} : List (DataW H) → Nat
  | [] => 0
  | d :: r => uptoBulk d + uptoBulkAll r
def uptoBulkEntries {H : Type} : List (Lit × DataW H) → Nat
  | [] => 0
  | x :: r => uptoBulkEntry x + uptoBulkEntries r
def uptoBulkEntry {H : Type} : Lit × DataW H → Nat
  | (.string bytes, d) => bytes.length + uptoBulk d + 1
  | (_, d) => uptoBulk d + 1
 end
def uptoSmall : (H : Type) → List (DataW H) → Bool := fun _ ds => decide (uptoBulkAll ds ≤ 1048576)
def OpenSpec.upto (s : _root_.Go.ChangeSpec) : _root_.Go.OpenSpec := { _root_.Go.OpenSpec.ofChange s with cond := some uptoSmall }

/-- 'backstitchlaw11.ReachTells', WHERE WHAT IT READS IS OF BULK AT MOST 1048576: true; the input reads as it did. -/
def reachTellsUptoRow : OpenClaim := { program := "ytefohemihiiceaa", sum := "0e9c2d7a80bb4b41782f461d81ca853e2cc860e52d96ce5786f4711c9b14d5c0", func := "backstitch/backstitchlaw11.ReachTells", spec := "reachTells", unfollowed := true, recurses := true, apart := false, narrowed := true }
def ReachTellsUptoSaid : Prop := reachTellsUptoRow.holds Try.pinned (OpenSpec.upto reachTellsSpec)

/-- 'backstitchlaw11.ReachKnown', WHERE WHAT IT READS IS OF BULK AT MOST 1048576: true; the input reads as it did. -/
def reachKnownUptoRow : OpenClaim := { program := "ytefohemihiiceaa", sum := "0e9c2d7a80bb4b41782f461d81ca853e2cc860e52d96ce5786f4711c9b14d5c0", func := "backstitch/backstitchlaw11.ReachKnown", spec := "reachKnown", unfollowed := true, recurses := true, apart := false, narrowed := true }
def ReachKnownUptoSaid : Prop := reachKnownUptoRow.holds Try.pinned (OpenSpec.upto reachKnownSpec)

/-- 'backstitchlaw11.ReachCounts', WHERE WHAT IT READS IS OF BULK AT MOST 1048576: true; the input reads as it did. -/
def reachCountsUptoRow : OpenClaim := { program := "ytefohemihiiceaa", sum := "0e9c2d7a80bb4b41782f461d81ca853e2cc860e52d96ce5786f4711c9b14d5c0", func := "backstitch/backstitchlaw11.ReachCounts", spec := "reachCounts", unfollowed := true, recurses := true, apart := false, narrowed := true }
def ReachCountsUptoSaid : Prop := reachCountsUptoRow.holds Try.pinned (OpenSpec.upto reachCountsSpec)

/-- 'backstitchlaw11.ReachRoots', WHERE WHAT IT READS IS OF BULK AT MOST 1048576: true; the input reads as it did. -/
def reachRootsUptoRow : OpenClaim := { program := "ytefohemihiiceaa", sum := "0e9c2d7a80bb4b41782f461d81ca853e2cc860e52d96ce5786f4711c9b14d5c0", func := "backstitch/backstitchlaw11.ReachRoots", spec := "reachRoots", unfollowed := true, recurses := true, apart := false, narrowed := true }
def ReachRootsUptoSaid : Prop := reachRootsUptoRow.holds Try.pinned (OpenSpec.upto reachRootsSpec)

/-- 'backstitchlaw11.ReachChains', WHERE WHAT IT READS IS OF BULK AT MOST 1048576: true; the input reads as it did. -/
def reachChainsUptoRow : OpenClaim := { program := "ytefohemihiiceaa", sum := "0e9c2d7a80bb4b41782f461d81ca853e2cc860e52d96ce5786f4711c9b14d5c0", func := "backstitch/backstitchlaw11.ReachChains", spec := "reachChains", unfollowed := true, recurses := true, apart := false, narrowed := true }
def ReachChainsUptoSaid : Prop := reachChainsUptoRow.holds Try.pinned (OpenSpec.upto reachChainsSpec)

end Rows
end Go.Proofs.Ytefohemihiiceaa
