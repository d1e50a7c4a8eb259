
/- What a graph Calls: the contract of calls and of the function that it hands back. -/
import Derived.Test.YtefohemihiiceaaGrA
import Derived.RangeFuncNested
import Derived.RangeFuncBound
import Derived.RangeFuncCalls
import Derived.RangeFuncLeaves
import Derived.Shelf.Abstract
import Derived.Shelf.RegionOpen
import Derived.OwnWalkIn
import Derived.TacticsInMore
import Derived.LoopNIn
import Derived.LoopIn
import Derived.Maps.OwnIn
namespace Go.Proofs.Ytefohemihiiceaa
open Go.RowKit Go.Shelf
attribute [local go_sem] Oper.semAt_some

/-- which graphs the nodes Call, one behind the other -/
def callsL : List Nd → List Int
  | [] => []
  | n :: r => if n.op = 16 then n.no :: callsL r else callsL r
theorem callsL_append : ∀ (a b : List Nd), callsL (a ++ b) = callsL a ++ callsL b
  | [], b => rfl
  | n :: r, b => by
    simp only [callsL, List.cons_append]
    split
    · rw [callsL_append r b]; rfl
    · exact callsL_append r b
theorem callsL_le : ∀ (a : List Nd), (callsL a).length ≤ a.length
  | [] => Nat.le_refl _
  | n :: r => by
    simp only [callsL]
    split
    · simpa using callsL_le r
    · have := callsL_le r
      simp
      omega
theorem callsL_yes {ns : List Nd} {k : Nat} (hk : k < ns.length) (h : (ns.getD k ndnil).op = 16) : callsL (ns.take (k + 1)) = callsL (ns.take k) ++ [(ns.getD k ndnil).no] := by
  have e : ns.getD k ndnil = ns[k] := by simp [hk]
  rw [e] at h ⊢
  rw [← List.take_append_getElem hk, callsL_append]
  simp [callsL, h]
theorem callsL_no {ns : List Nd} {k : Nat} (hk : k < ns.length) (h : ¬ (ns.getD k ndnil).op = 16) : callsL (ns.take (k + 1)) = callsL (ns.take k) := by
  have e : ns.getD k ndnil = ns[k] := by simp [hk]
  rw [e] at h
  rw [← List.take_append_getElem hk, callsL_append]
  simp [callsL, h]
theorem callsL_pre (ns : List Nd) (k : Nat) : callsL (ns.take k) <+: callsL ns := by
  conv => rhs; rw [← List.take_append_drop k ns]
  rw [callsL_append]
  exact List.prefix_append _ _

/-- one that the nodes Call -/
abbrev Cl (ns : List Nd) := { x : Int // x ∈ callsL ns ∧ (Lit.int .i64 x).wf = true }

theorem wf_I64 {x : Int} (h : I64 x) : (Lit.int .i64 x).wf = true := by
  unfold I64 at h

  exact WalkArith.wf_i64 (by omega)

end Go.Proofs.Ytefohemihiiceaa
