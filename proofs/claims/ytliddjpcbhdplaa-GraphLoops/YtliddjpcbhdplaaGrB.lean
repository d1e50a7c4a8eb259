
/- What a graph Calls: the contract of calls and of the function that it hands back. -/
import Derived.Test.YtliddjpcbhdplaaGrA
import Derived.RangeFuncNested
import Derived.RangeFuncBound
import Derived.RangeFuncCalls
import Derived.RangeFuncLeaves
import Derived.Shelf.Abstract
import Derived.Shelf.RegionOpen
import Derived.OwnWalkIn
import Derived.TacticsInMore
import Derived.LoopNIn
import Derived.LoopIn
import Derived.Maps.OwnIn
namespace Go.Proofs.Ytliddjpcbhdplaa
open Go.RowKit Go.Shelf
attribute [local go_sem] Oper.semAt_some

/-- which graphs the nodes Call, one behind the other -/
def callsL : List Nd → List Int
  | [] => []
  | n :: r => if n.op = 16 then n.no :: callsL r else callsL r
theorem callsL_append : ∀ (a b : List Nd), callsL (a ++ b) = callsL a ++ callsL b
  | [], b => rfl
  | n :: r, b => by
    simp only [callsL, List.cons_append]
    split
    · rw [callsL_append r b]; rfl
    · exact callsL_append r b
theorem callsL_le : ∀ (a : List Nd), (callsL a).length ≤ a.length
  | [] => Nat.le_refl _
  | n :: r => by
    simp only [callsL]
    split
    · simpa using callsL_le r
    · have := callsL_le r
      simp
      omega
theorem callsL_yes {ns : List Nd} {k : Nat} (hk : k < ns.length) (h : (ns.getD k ndnil).op = 16) : callsL (ns.take (k + 1)) = callsL (ns.take k) ++ [(ns.getD k ndnil).no] := by
  have e : ns.getD k ndnil = ns[k] := by simp [hk]
  rw [e] at h ⊢
  rw [← List.take_append_getElem hk, callsL_append]
  simp [callsL, h]
theorem callsL_no {ns : List Nd} {k : Nat} (hk : k < ns.length) (h : ¬ (ns.getD k ndnil).op = 16) : callsL (ns.take (k + 1)) = callsL (ns.take k) := by
  have e : ns.getD k ndnil = ns[k] := by simp [hk]
  rw [e] at h
  rw [← List.take_append_getElem hk, callsL_append]
  simp [callsL, h]
theorem callsL_pre (ns : List Nd) (k : Nat) : callsL (ns.take k) <+: callsL ns := by
  conv => rhs; rw [← List.take_append_drop k ns]
  rw [callsL_append]
  exact List.prefix_append _ _

/-- one that the nodes Call -/
abbrev Cl (ns : List Nd) := { x : Int // x ∈ callsL ns ∧ (Lit.int .i64 x).wf = true }

theorem wf_I64 {x : Int} (h : I64 x) : (Lit.int .i64 x).wf = true := by
  unfold I64 at h

  exact WalkArith.wf_i64 (by omega)

set_option maxHeartbeats 1000000 in
theorem calls_any (a : Option Addr) (n c : Nat) (w : World) :
    Calls Try.prog 38 #[.agg #[.slice a n c]] w fun e w' => e = .returned (.func (.func 51) #[] #[.pointer (some ⟨w.heap.size, 0, none⟩)]) ∧ w' = w.alloc (.cells #[.slice a n c] 34) := by
  go_enter Try.func38, Try.ntmps38
  go_wp2
  go_ret
  exact ⟨rfl, rfl⟩

set_option maxRecDepth 100000 in
set_option maxHeartbeats 4000000 in
/-- the function that calls hands back, whatever the round does -/
theorem calls1_in (F : Fence) (n : Nat) (h6 : F.fn 51) (hro : F.round = none) (hn : 1 ≤ n) (l Bn n₀ : Nat) (a : Option Addr) (c : Nat) (ns : List Nd) (W0 : World) (hns : Nodes W0 (.slice a ns.length c) ns) (hn0 : n₀ = W0.heap.size) (J Jx : List (Cl ns) → World → Prop)
    (hJa : ∀ pre W W', J pre W → W.grownBy W' none → J pre W')
    (hY : ∀ pre (x : Cl ns) W, J pre W → pre.length < ns.length → YieldAt F (n - 1) Try.prog l #[.int .i64 x.1] W fun e W' =>
      (e = .returned (.bool true) ∧ J (pre ++ [x]) W' ∧ Below n₀ W W') ∨ (e = .returned (.bool false) ∧ Jx (pre ++ [x]) W'))
    (W : World) (hW : Below n₀ W0 W) (hBn : W.cell? ⟨Bn, 0, none⟩ = some (.slice a ns.length c)) (h0 : J [] W) :
    CallsIn F n Try.prog 51 #[.func (.yield l) #[] #[], .pointer (some ⟨Bn, 0, none⟩)] W fun e W' => (∃ v, e = .returned v) ∧
      ((∃ ys : List (Cl ns), ys.map Subtype.val = callsL ns ∧ J ys W') ∨ (∃ pre : List (Cl ns), pre.map Subtype.val <+: callsL ns ∧ Jx pre W')) := by
  have hroom := hns.room
  have HN := hide hns
  clear hns
  refine callsIn_of_wp Try.func51 rfl h6 ?_ hro
  simp only [Try.ntmps51, List.size_toArray, List.length_cons, List.length_nil, Nat.reduceAdd, Nat.reduceSub, Array.replicate_succ, Array.replicate_zero, List.push_toArray, List.append_toArray, List.nil_append, List.cons_append]
  gi_wp2
  gi_loopw [8] (fun i wr => ∃ (k : Nat) (pre : List (Cl ns)), k ≤ ns.length ∧ i = .int .i64 k ∧ Hid (pre.map Subtype.val = callsL (ns.take k)) ∧ Hid (J pre wr) ∧ Hid (Below n₀ W0 wr)) (fun i _ => ns.length - (intOf i).toNat)
  case atStart => exact ⟨0, [], Nat.zero_le _, rfl, rfl, h0, hW⟩
  case round =>
    obtain ⟨k, pre, hk, rfl, HP, HJ, HB⟩ := hrel
    by_cases hlt : k < ns.length
    · have HK : Hid (Kp W0 wr) := by unfold Hid Kp; rw [← hn0]; exact unhide HB
      obtain ⟨b, off, rfl, hb, hnd⟩ := (unhide HN).one (unhide HK) hlt
      have c0 := hnd.op
      have c3 := hnd.no
      obtain ⟨a1, e1, c1, -⟩ := hnd.inn
      obtain ⟨a2, e2, c2, -⟩ := hnd.tt
      obtain ⟨a4, e4, c4, -⟩ := hnd.s
      obtain ⟨a5, e5, c5, -⟩ := hnd.d
      obtain ⟨a6, e6, c6, -⟩ := hnd.hk
      have wno := hide (wf_I64 hnd.wno)
      have hpl : Hid (pre.length < ns.length) := by
        have h1 := congrArg List.length (unhide HP)
        have h2 := callsL_le (ns.take k)
        simp at h1 h2
        unfold Hid
        omega
      have HY := hide (callsL_yes hlt)
      have HM : Hid ((ns.getD k ndnil).op = 16 → (ns.getD k ndnil).no ∈ callsL ns) := fun h => by
        have h1 := callsL_pre ns (k + 1)
        rw [callsL_yes hlt h] at h1
        exact h1.subset (by simp)
      have HNo := hide (callsL_no hlt)
      clear hnd
      generalize ns.getD k ndnil = nd at *
      by_cases h16 : nd.op = 16
      · have hJ9 := hJa pre wr (wr.alloc (.cells #[.int .i64 16, .slice a1 nd.inn.length e1, .slice a2 nd.tt.length e2, .int .i64 nd.no, .slice a4 nd.s.length e4, .slice a5 nd.d.length e5, .slice a6 nd.hk.length e6] 41)) (unhide HJ) (World.grownBy_alloc _ _ _)
        obtain ⟨fn, tmps, assign, body, hy, hR⟩ := hY pre ⟨nd.no, unhide HM h16, unhide wno⟩ _ hJ9 (unhide hpl)
        dsimp only at hy
        have hR' := hide hR
        have HY16 := hide (unhide HY h16)
        clear hJ9 HY HNo hR
        gi_wp2
        refine (unhide hR').mono ?_
        rintro e W3 (⟨rfl, hJ3, hk3⟩ | ⟨rfl, hJx3⟩)
        · have HJ3 := hide hJ3
          have HB3 : Hid (Below n₀ W0 W3) := ((unhide HB).alloc (by rw [hn0]; exact (unhide HB).size) _).trans hk3
          clear hJ3 hk3 hy
          gi_wp2
          go_roundw
          case rel => exact ⟨k + 1, pre ++ [⟨nd.no, unhide HM h16, unhide wno⟩], by omega, by go_num, by unfold Hid; rw [unhide HY16, ← unhide HP]; simp, HJ3, HB3⟩
          case measure => simp [intOf]; omega
        · have HJ3 := hide hJx3
          clear hJx3 hy
          gi_wp2
          refine bodyPost_ret (results_none rfl _ _ _) rfl ?_
          refine ⟨⟨_, rfl⟩, .inr ⟨_, ?_, unhide HJ3⟩⟩
          have h3 := callsL_pre ns (k + 1)
          rw [unhide HY16, ← unhide HP] at h3
          simpa using h3
      · have hb16 : (nd.op == 16) = false := beq_eq_false_iff_ne.2 h16
        have HNN := hide (unhide HNo h16)
        have HJ9 := hide (hJa pre wr (wr.alloc (.cells #[.int .i64 nd.op, .slice a1 nd.inn.length e1, .slice a2 nd.tt.length e2, .int .i64 nd.no, .slice a4 nd.s.length e4, .slice a5 nd.d.length e5, .slice a6 nd.hk.length e6] 41)) (unhide HJ) (World.grownBy_alloc _ _ _))
        clear HY HNo
        gi_wp2
        refine ⟨fun _ h => (by cases h), ?_⟩
        gi_wp2
        go_roundw
        case rel => exact ⟨k + 1, pre, by omega, by go_num, by unfold Hid; rw [unhide HNN]; exact unhide HP, unhide HJ9, (unhide HB).alloc (by rw [hn0]; exact (unhide HB).size) _⟩
        case measure => simp [intOf]; omega
    · obtain rfl : k = ns.length := by omega
      gi_wp2
      go_end0
      refine ⟨⟨_, rfl⟩, .inl ⟨pre, ?_, unhide HJ⟩⟩
      rw [unhide HP, List.take_length]

end Go.Proofs.Ytliddjpcbhdplaa
