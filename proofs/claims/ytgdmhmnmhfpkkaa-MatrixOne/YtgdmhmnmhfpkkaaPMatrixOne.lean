/- The law MatrixOne: for every input the call returns true, and each argument reads afterwards as it read before; no condition of its own. -/
import Derived.Test.YtgdmhmnmhfpkkaaRows
import Derived.Test.YtgdmhmnmhfpkkaaLawMB
import Derived.WalkKit
import Derived.ProofKit
import Derived.OpenShut
import Derived.ShutString
import Derived.Below
import Derived.Laws.Cover2
namespace Go.Proofs.Ytgdmhmnmhfpkkaa.matrixOne
open Go.ChangeShapes Go.WideShapes Go.ChangeAt Go.RowKit
set_option linter.unusedVariables false

theorem own : ownKnob Try.prog.godebug = none := by kernel_rfl
theorem laidOut : laidOutB Try.prog = true := by kernel_rfl

theorem walk (p0 : Option Addr) (l0 c0 : Nat) (z0 : List Int) (p0' : Option Addr) (l0' c0' : Nat) (z0' : List Nat) (w : World) (w0 : InRowK .i64 w p0 l0 c0 z0) (w0' : InRowF w p0' l0' c0' z0') :
    Calls Try.prog 6 #[.agg #[.slice p0 l0 c0, .slice p0' l0' c0']] w fun e w' => e = .returned (.bool true) ∧ Below w.heap.size w w' := by
  have r0 := w0'.roomy
  have e0 := w0.len
  have h0 := w0.ints
  have m0 := w0.max
  generalize z0.take l0 = s0 at *
  subst e0
  have e0' := w0'.len
  have h0' := w0'.flts
  have m0' := w0'.max
  generalize z0'.take l0' = s0' at *
  subst e0'
  exact one_walk p0' p0 c0 c0' s0 s0' w m0 m0' h0 h0' r0

set_option maxRecDepth 100000 in
set_option maxHeartbeats 2000000 in
theorem lifted (os : Os) (started : os.Started) (H : Type) (enc : TypeId × Value → H) :
    ReturnsInHanded {} Try.checked os 6 .any (Rows.matrixOneSpec.pre6 enc Try.prog Try.f6 Rows.matrixOneRow.domain false) (Rows.matrixOneSpec.post enc Try.prog Try.f6 false true false false) := by
  refine returnsInHanded_of_change (C := Try.checked) own started (by kernel_rfl) Try.func6
    (ChangeSpec.witness6 (enc := enc) (C := Try.checked) false ⟨#[], #[.agg #[.slice none 0 0, .slice none 0 0]], []⟩ 8 (by kernel_rfl) (by kernel_rfl) (by kernel_rfl) (by kernel_rfl)) ?_
  intro W base args ds gs before hval0 hW hcnd _
  have hval : ∀ (j : Nat) t v, Try.f6.params[j]? = some t → args[j]? = some v → Value.okWide Try.prog W .any base t v := hval0
  have hW' := hW
  obtain ⟨p, q, hA0, hV, rfl, hfz, hnd⟩ := hW
  have hA : DataW.TrodAll enc Try.prog W 0 (fun _ => true) true Try.f6.params.toList args.toList ds p := hA0
  rw [Try.params6] at hA hval
  obtain ⟨v0, vs0, d0, ds0, p0, q0, hargs, rfl, rfl, h0, r0⟩ := trodAll_cons hA
  obtain ⟨rfl, rfl, rfl⟩ := trodAll_nil r0
  obtain rfl : args = #[v0] := by cases args; simp_all
  obtain ⟨rfl, rfl⟩ := trodVars_none hV
  obtain ⟨cs0, rfl, hsz0⟩ := okWide_struct Try.underlying25 (hval 0 25 v0 rfl rfl)
  have k0 := h0
  have lt0 : ∀ x ∈ p0, x.block < W.heap.size := by obtain ⟨m, hm⟩ := k0; exact DataW.trod_lt m _ _ _ hm
  obtain ⟨y0, l0, c0, z0, y0', l0', c0', z0', hc0, w0, w0'⟩ : ∃ a len cap zs a' len' cap' zs', cs0.toList = [.slice a len cap, .slice a' len' cap'] ∧ InRowK .i64 W a len cap zs ∧ InRowF W a' len' cap' zs' := by
    obtain ⟨fuel, hf⟩ := h0
    exact open_pair_rows Try.underlying25 rfl Try.underlying22 Try.underlying23 Try.underlying3 Try.underlying42 (by kernel_rfl) (by kernel_rfl) (by kernel_rfl) (fun _ => rfl) hf
  obtain rfl : cs0 = #[.slice y0 l0 c0, .slice y0' l0' c0'] := by cases cs0; simp_all
  clear hA0 hval0
  refine (walk y0 l0 c0 z0 y0' l0' c0' z0' W w0 w0').mono fun e W' ⟨he, bel⟩ => ?_
  subst he
  exact ⟨_, rfl, _, _, _, [], _, [], hW', trodAll_mk1 (shut_bool Try.underlying4 _), (trodAll_cons_mk (Below.trod laidOut (by kernel_rfl) (of_decide_eq_true (by kernel_rfl)) k0 bel lt0) trodAll_mk0), rfl, bel.frame _, fun h => by cases h⟩

theorem over : Rows.matrixOneRow.holds Try.pinned (OpenSpec.ofChange Rows.matrixOneSpec) :=
  OpenClaim.holds_of_wide 6 Try.f6 rfl rfl rfl rfl rfl rfl rfl ⟨rfl, rfl, rfl, rfl, rfl⟩ rfl rfl rfl rfl rfl (by kernel_rfl) Try.func6 (by kernel_rfl)
    (of_decide_eq_true (by kernel_rfl)) (by unfold Func.isWrapper; first | (rw [if_pos (by decide +kernel)]; kernel_rfl) | (rw [if_neg (by decide +kernel)]; exact ⟨rfl, rfl⟩))
    (fun os started H enc _ => lifted os started H enc)

theorem proved : Rows.MatrixOneSaid := over
#print axioms proved
end Go.Proofs.Ytgdmhmnmhfpkkaa.matrixOne

namespace Go.Proofs.Ytgdmhmnmhfpkkaa
theorem matrixOne_holds : Rows.MatrixOneSaid := matrixOne.proved
end Go.Proofs.Ytgdmhmnmhfpkkaa
