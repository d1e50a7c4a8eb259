/- The law HookDoes: for every input the call returns true, and each argument reads afterwards as it read before; no condition of its own. -/
import Derived.Test.YtlfjclnocbohbaaRows
import Derived.Test.YtlfjclnocbohbaaLawHAf
import Derived.WalkKit
import Derived.ProofKit
import Derived.OpenShut
import Derived.ShutString
import Derived.Below
import Derived.Laws.Cover2
namespace Go.Proofs.Ytlfjclnocbohbaa.hookDoes
open Go.ChangeShapes Go.WideShapes Go.ChangeAt Go.RowKit
set_option linter.unusedVariables false

theorem own : ownKnob Try.prog.godebug = none := by kernel_rfl
theorem laidOut : laidOutB Try.prog = true := by kernel_rfl

theorem walk (a0 : Option Addr) (len0 cap0 : Nat) (p1 : Option Addr) (l1 c1 : Nat) (z1 : List Int) (p1' : Option Addr) (l1' c1' : Nat) (z1' : List Nat) (w : World) (w0 : InHooks w a0 len0 cap0) (w1 : InRowK .i64 w p1 l1 c1 z1) (w1' : InRowF w p1' l1' c1' z1') :
    Calls Try.prog 4 #[.slice a0 len0 cap0, .agg #[.slice p1 l1 c1, .slice p1' l1' c1']] w fun e w' => e = .returned (.bool true) ∧ Below w.heap.size w w' := by
  exact does_walk a0 len0 cap0 p1 l1 c1 z1 p1' l1' c1' z1' w w0 w1 w1'

set_option maxRecDepth 100000 in
set_option maxHeartbeats 2000000 in
theorem lifted (os : Os) (started : os.Started) (H : Type) (enc : TypeId × Value → H) :
    ReturnsInHanded {} Try.checked os 4 .any (Rows.hookDoesSpec.pre6 enc Try.prog Try.f4 Rows.hookDoesRow.domain false) (Rows.hookDoesSpec.post enc Try.prog Try.f4 false true false false) := by
  refine returnsInHanded_of_change (C := Try.checked) own started (by kernel_rfl) Try.func4
    (ChangeSpec.witness6 (enc := enc) (C := Try.checked) false ⟨#[], #[.slice none 0 0, .agg #[.slice none 0 0, .slice none 0 0]], []⟩ 8 (by kernel_rfl) (by kernel_rfl) (by kernel_rfl) (by kernel_rfl)) ?_
  intro W base args ds gs before hval0 hW hcnd _
  have hval : ∀ (j : Nat) t v, Try.f4.params[j]? = some t → args[j]? = some v → Value.okWide Try.prog W .any base t v := hval0
  have hW' := hW
  obtain ⟨p, q, hA0, hV, rfl, hfz, hnd⟩ := hW
  have hA : DataW.TrodAll enc Try.prog W 0 (fun _ => true) true Try.f4.params.toList args.toList ds p := hA0
  rw [Try.params4] at hA hval
  obtain ⟨v0, vs0, d0, ds0, p0, q0, hargs, rfl, rfl, h0, r0⟩ := trodAll_cons hA
  obtain ⟨v1, vs1, d1, ds1, p1, q1, rfl, rfl, rfl, h1, r1⟩ := trodAll_cons r0
  obtain ⟨rfl, rfl, rfl⟩ := trodAll_nil r1
  obtain rfl : args = #[v0, v1] := by cases args; simp_all
  obtain ⟨rfl, rfl⟩ := trodVars_none hV
  obtain ⟨a0, len0, cap0, rfl⟩ := okWide_slice Try.underlying39 (hval 0 39 v0 rfl rfl)
  have k0 := h0
  have lt0 : ∀ x ∈ p0, x.block < W.heap.size := by obtain ⟨m, hm⟩ := k0; exact DataW.trod_lt m _ _ _ hm
  have w0 : InHooks W a0 len0 cap0 := by
    obtain ⟨fuel, hf⟩ := h0
    exact open_hooks Try.underlying39 Try.underlying52 rfl rfl Try.underlying3 Try.underlying23 (by kernel_rfl) (fun _ => rfl) hf
  obtain ⟨cs1, rfl, hsz1⟩ := okWide_struct Try.underlying31 (hval 1 31 v1 rfl rfl)
  have k1 := h1
  have lt1 : ∀ x ∈ p1, x.block < W.heap.size := by obtain ⟨m, hm⟩ := k1; exact DataW.trod_lt m _ _ _ hm
  obtain ⟨y1, l1, c1, z1, y1', l1', c1', z1', hc1, w1, w1'⟩ : ∃ a len cap zs a' len' cap' zs', cs1.toList = [.slice a len cap, .slice a' len' cap'] ∧ InRowK .i64 W a len cap zs ∧ InRowF W a' len' cap' zs' := by
    obtain ⟨fuel, hf⟩ := h1
    exact open_pair_rows Try.underlying31 rfl Try.underlying28 Try.underlying29 Try.underlying3 Try.underlying23 (by kernel_rfl) (by kernel_rfl) (by kernel_rfl) (fun _ => rfl) hf
  obtain rfl : cs1 = #[.slice y1 l1 c1, .slice y1' l1' c1'] := by cases cs1; simp_all
  clear hA0 hval0
  refine (walk a0 len0 cap0 y1 l1 c1 z1 y1' l1' c1' z1' W w0 w1 w1').mono fun e W' ⟨he, bel⟩ => ?_
  subst he
  exact ⟨_, rfl, _, _, _, [], _, [], hW', trodAll_mk1 (shut_bool Try.underlying4 _), (trodAll_cons_mk (Below.trod laidOut (by kernel_rfl) (of_decide_eq_true (by kernel_rfl)) k0 bel lt0) (trodAll_cons_mk (Below.trod laidOut (by kernel_rfl) (of_decide_eq_true (by kernel_rfl)) k1 bel lt1) trodAll_mk0)), rfl, bel.frame _, fun h => by cases h⟩

theorem over : Rows.hookDoesRow.holds Try.pinned (OpenSpec.ofChange Rows.hookDoesSpec) :=
  OpenClaim.holds_of_wide 4 Try.f4 rfl rfl rfl rfl rfl rfl rfl ⟨rfl, rfl, rfl, rfl, rfl⟩ rfl rfl rfl rfl rfl (by kernel_rfl) Try.func4 (by kernel_rfl)
    (of_decide_eq_true (by kernel_rfl)) (by unfold Func.isWrapper; first | (rw [if_pos (by decide +kernel)]; kernel_rfl) | (rw [if_neg (by decide +kernel)]; exact ⟨rfl, rfl⟩))
    (fun os started H enc _ => lifted os started H enc)

theorem proved : Rows.HookDoesSaid := over
#print axioms proved
end Go.Proofs.Ytlfjclnocbohbaa.hookDoes

namespace Go.Proofs.Ytlfjclnocbohbaa
theorem hookDoes_holds : Rows.HookDoesSaid := hookDoes.proved
end Go.Proofs.Ytlfjclnocbohbaa
