/- The law FoldWhole: for every input the call returns true, and each argument reads afterwards as it read before; no condition of its own. -/
import Derived.Test.YtlfjclnocbohbaaRows
import Derived.Test.YtlfjclnocbohbaaLawFEf
import Derived.WalkKit
import Derived.ProofKit
import Derived.OpenShut
import Derived.ShutString
import Derived.Below
import Derived.Laws.Cover2
namespace Go.Proofs.Ytlfjclnocbohbaa.foldWhole
open Go.ChangeShapes Go.WideShapes Go.ChangeAt Go.RowKit
set_option linter.unusedVariables false

theorem own : ownKnob Try.prog.godebug = none := by kernel_rfl
theorem laidOut : laidOutB Try.prog = true := by kernel_rfl

theorem walk (a0 : Option Addr) (len0 cap0 : Nat) (z0 : Nat → Nat → Int) (a1_0 a1_1 a1_2 a1_3 : Nat) (w : World) (w0 : InQuad w a0 len0 z0) (w1_0 : W64 a1_0) (w1_1 : W64 a1_1) (w1_2 : W64 a1_2) (w1_3 : W64 a1_3) :
    Calls Try.prog 3 #[.slice a0 len0 cap0, .agg #[.float .f64 a1_0, .float .f64 a1_1, .float .f64 a1_2, .float .f64 a1_3]] w fun e w' => e = .returned (.bool true) ∧ Below w.heap.size w w' := by
  exact whole8_walk a0 len0 cap0 z0 a1_0 a1_1 a1_2 a1_3 w w0 w1_0 w1_1 w1_2 w1_3

set_option maxRecDepth 100000 in
set_option maxHeartbeats 2000000 in
theorem lifted (os : Os) (started : os.Started) (H : Type) (enc : TypeId × Value → H) :
    ReturnsInHanded {} Try.checked os 3 .any (Rows.foldWholeSpec.pre6 enc Try.prog Try.f3 Rows.foldWholeRow.domain false) (Rows.foldWholeSpec.post enc Try.prog Try.f3 false true false false) := by
  refine returnsInHanded_of_change (C := Try.checked) own started (by kernel_rfl) Try.func3
    (ChangeSpec.witness6 (enc := enc) (C := Try.checked) false ⟨#[], #[.slice none 0 0, .agg #[.float .f64 0, .float .f64 0, .float .f64 0, .float .f64 0]], []⟩ 8 (by kernel_rfl) (by kernel_rfl) (by kernel_rfl) (by kernel_rfl)) ?_
  intro W base args ds gs before hval0 hW hcnd _
  have hval : ∀ (j : Nat) t v, Try.f3.params[j]? = some t → args[j]? = some v → Value.okWide Try.prog W .any base t v := hval0
  have hW' := hW
  obtain ⟨p, q, hA0, hV, rfl, hfz, hnd⟩ := hW
  have hA : DataW.TrodAll enc Try.prog W 0 (fun _ => true) true Try.f3.params.toList args.toList ds p := hA0
  rw [Try.params3] at hA hval
  obtain ⟨v0, vs0, d0, ds0, p0, q0, hargs, rfl, rfl, h0, r0⟩ := trodAll_cons hA
  obtain ⟨v1, vs1, d1, ds1, p1, q1, rfl, rfl, rfl, h1, r1⟩ := trodAll_cons r0
  obtain ⟨rfl, rfl, rfl⟩ := trodAll_nil r1
  obtain rfl : args = #[v0, v1] := by cases args; simp_all
  obtain ⟨rfl, rfl⟩ := trodVars_none hV
  obtain ⟨a0, len0, cap0, rfl⟩ := okWide_slice Try.underlying22 (hval 0 22 v0 rfl rfl)
  have k0 := h0
  have lt0 : ∀ x ∈ p0, x.block < W.heap.size := by obtain ⟨m, hm⟩ := k0; exact DataW.trod_lt m _ _ _ hm
  obtain ⟨z0, w0⟩ : ∃ z, InQuad W a0 len0 z := by
    obtain ⟨fuel, hf⟩ := h0
    exact open_quads Try.underlying22 Try.underlying33 Try.underlying32 (by kernel_rfl) (by kernel_rfl) hf
  obtain ⟨cs1, rfl, hsz1⟩ := okWide_arrK Try.underlying24 (hval 1 24 v1 rfl rfl)
  have k1 := h1
  have lt1 : ∀ x ∈ p1, x.block < W.heap.size := by obtain ⟨m, hm⟩ := k1; exact DataW.trod_lt m _ _ _ hm
  obtain ⟨a1_0, a1_1, a1_2, a1_3, rfl, w1_0, w1_1, w1_2, w1_3⟩ : ∃ a1_0 a1_1 a1_2 a1_3, cs1 = #[.float .f64 a1_0, .float .f64 a1_1, .float .f64 a1_2, .float .f64 a1_3] ∧ W64 a1_0 ∧ W64 a1_1 ∧ W64 a1_2 ∧ W64 a1_3 := by
    obtain ⟨fuel, hf⟩ := h1
    exact open_arrF4 Try.underlying24 Try.underlying23 (by kernel_rfl) (by kernel_rfl) hsz1 hf
  clear hA0 hval0
  refine (walk a0 len0 cap0 z0 a1_0 a1_1 a1_2 a1_3 W w0 w1_0 w1_1 w1_2 w1_3).mono fun e W' ⟨he, bel⟩ => ?_
  subst he
  exact ⟨_, rfl, _, _, _, [], _, [], hW', trodAll_mk1 (shut_bool Try.underlying4 _), (trodAll_cons_mk (Below.trod laidOut (by kernel_rfl) (of_decide_eq_true (by kernel_rfl)) k0 bel lt0) (trodAll_cons_mk (Below.trod laidOut (by kernel_rfl) (of_decide_eq_true (by kernel_rfl)) k1 bel lt1) trodAll_mk0)), rfl, bel.frame _, fun h => by cases h⟩

theorem over : Rows.foldWholeRow.holds Try.pinned (OpenSpec.ofChange Rows.foldWholeSpec) :=
  OpenClaim.holds_of_wide 3 Try.f3 rfl rfl rfl rfl rfl rfl rfl ⟨rfl, rfl, rfl, rfl, rfl⟩ rfl rfl rfl rfl rfl (by kernel_rfl) Try.func3 (by kernel_rfl)
    (of_decide_eq_true (by kernel_rfl)) (by unfold Func.isWrapper; first | (rw [if_pos (by decide +kernel)]; kernel_rfl) | (rw [if_neg (by decide +kernel)]; exact ⟨rfl, rfl⟩))
    (fun os started H enc _ => lifted os started H enc)

theorem proved : Rows.FoldWholeSaid := over
#print axioms proved
end Go.Proofs.Ytlfjclnocbohbaa.foldWhole

namespace Go.Proofs.Ytlfjclnocbohbaa
theorem foldWhole_holds : Rows.FoldWholeSaid := foldWhole.proved
end Go.Proofs.Ytlfjclnocbohbaa
