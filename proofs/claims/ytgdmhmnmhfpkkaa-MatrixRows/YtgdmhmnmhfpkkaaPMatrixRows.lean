/- The law MatrixRows: for every input the call returns true, and each argument reads afterwards as it read before; no condition of its own. -/
import Derived.Test.YtgdmhmnmhfpkkaaRows
import Derived.Test.YtgdmhmnmhfpkkaaLawMEf
import Derived.WalkKit
import Derived.ProofKit
import Derived.OpenShut
import Derived.ShutString
import Derived.Below
import Derived.Laws.Cover2
namespace Go.Proofs.Ytgdmhmnmhfpkkaa.matrixRows
open Go.ChangeShapes Go.WideShapes Go.ChangeAt Go.RowKit
set_option linter.unusedVariables false

theorem own : ownKnob Try.prog.godebug = none := by kernel_rfl
theorem laidOut : laidOutB Try.prog = true := by kernel_rfl

theorem walk (p0 : Option Addr) (l0 c0 : Nat) (z0 : List Int) (p0' : Option Addr) (l0' c0' : Nat) (z0' : List Nat) (p1 : Option Addr) (l1 c1 : Nat) (z1 : List Int) (p1' : Option Addr) (l1' c1' : Nat) (z1' : List Nat) (a2_0 a2_1 : Int) (w : World) (w0 : InRowK .i64 w p0 l0 c0 z0) (w0' : InRowF w p0' l0' c0' z0') (w1 : InRowK .i64 w p1 l1 c1 z1) (w1' : InRowF w p1' l1' c1' z1') (w2_0 : (Lit.int .u8 a2_0).wf = true) (w2_1 : (Lit.int .u8 a2_1).wf = true) :
    Calls Try.prog 7 #[.agg #[.slice p0 l0 c0, .slice p0' l0' c0'], .agg #[.slice p1 l1 c1, .slice p1' l1' c1'], .agg #[.int .u8 a2_0, .int .u8 a2_1]] w fun e w' => e = .returned (.bool true) ∧ Below w.heap.size w w' := by
  have r0 := w0'.roomy
  have e0 := w0.len
  have h0 := w0.ints
  have m0 := w0.max
  generalize z0.take l0 = s0 at *
  subst e0
  have e0' := w0'.len
  have h0' := w0'.flts
  have m0' := w0'.max
  generalize z0'.take l0' = s0' at *
  subst e0'
  have e1 := w1.len
  have h1 := w1.ints
  have m1 := w1.max
  generalize z1.take l1 = s1 at *
  subst e1
  have e1' := w1'.len
  have h1' := w1'.flts
  have m1' := w1'.max
  generalize z1'.take l1' = s1' at *
  subst e1'
  exact rows_walk p0 p0' p1 p1' c0 c0' c1 c1' s0 s1 s0' s1' a2_0 a2_1 w m0 m0' m1 m1' h0 h0' h1 h1' r0 (bounds_u8 w2_0) (bounds_u8 w2_1)

set_option maxRecDepth 100000 in
set_option maxHeartbeats 2000000 in
theorem lifted (os : Os) (started : os.Started) (H : Type) (enc : TypeId × Value → H) :
    ReturnsInHanded {} Try.checked os 7 .any (Rows.matrixRowsSpec.pre6 enc Try.prog Try.f7 Rows.matrixRowsRow.domain false) (Rows.matrixRowsSpec.post enc Try.prog Try.f7 false true false false) := by
  refine returnsInHanded_of_change (C := Try.checked) own started (by kernel_rfl) Try.func7
    (ChangeSpec.witness6 (enc := enc) (C := Try.checked) false ⟨#[], #[.agg #[.slice none 0 0, .slice none 0 0], .agg #[.slice none 0 0, .slice none 0 0], .agg #[.int .u8 0, .int .u8 0]], []⟩ 8 (by kernel_rfl) (by kernel_rfl) (by kernel_rfl) (by kernel_rfl)) ?_
  intro W base args ds gs before hval0 hW hcnd _
  have hval : ∀ (j : Nat) t v, Try.f7.params[j]? = some t → args[j]? = some v → Value.okWide Try.prog W .any base t v := hval0
  have hW' := hW
  obtain ⟨p, q, hA0, hV, rfl, hfz, hnd⟩ := hW
  have hA : DataW.TrodAll enc Try.prog W 0 (fun _ => true) true Try.f7.params.toList args.toList ds p := hA0
  rw [Try.params7] at hA hval
  obtain ⟨v0, vs0, d0, ds0, p0, q0, hargs, rfl, rfl, h0, r0⟩ := trodAll_cons hA
  obtain ⟨v1, vs1, d1, ds1, p1, q1, rfl, rfl, rfl, h1, r1⟩ := trodAll_cons r0
  obtain ⟨v2, vs2, d2, ds2, p2, q2, rfl, rfl, rfl, h2, r2⟩ := trodAll_cons r1
  obtain ⟨rfl, rfl, rfl⟩ := trodAll_nil r2
  obtain rfl : args = #[v0, v1, v2] := by cases args; simp_all
  obtain ⟨rfl, rfl⟩ := trodVars_none hV
  obtain ⟨cs0, rfl, hsz0⟩ := okWide_struct Try.underlying25 (hval 0 25 v0 rfl rfl)
  have k0 := h0
  have lt0 : ∀ x ∈ p0, x.block < W.heap.size := by obtain ⟨m, hm⟩ := k0; exact DataW.trod_lt m _ _ _ hm
  obtain ⟨y0, l0, c0, z0, y0', l0', c0', z0', hc0, w0, w0'⟩ : ∃ a len cap zs a' len' cap' zs', cs0.toList = [.slice a len cap, .slice a' len' cap'] ∧ InRowK .i64 W a len cap zs ∧ InRowF W a' len' cap' zs' := by
    obtain ⟨fuel, hf⟩ := h0
    exact open_pair_rows Try.underlying25 rfl Try.underlying22 Try.underlying23 Try.underlying3 Try.underlying42 (by kernel_rfl) (by kernel_rfl) (by kernel_rfl) (fun _ => rfl) hf
  obtain rfl : cs0 = #[.slice y0 l0 c0, .slice y0' l0' c0'] := by cases cs0; simp_all
  obtain ⟨cs1, rfl, hsz1⟩ := okWide_struct Try.underlying25 (hval 1 25 v1 rfl rfl)
  have k1 := h1
  have lt1 : ∀ x ∈ p1, x.block < W.heap.size := by obtain ⟨m, hm⟩ := k1; exact DataW.trod_lt m _ _ _ hm
  obtain ⟨y1, l1, c1, z1, y1', l1', c1', z1', hc1, w1, w1'⟩ : ∃ a len cap zs a' len' cap' zs', cs1.toList = [.slice a len cap, .slice a' len' cap'] ∧ InRowK .i64 W a len cap zs ∧ InRowF W a' len' cap' zs' := by
    obtain ⟨fuel, hf⟩ := h1
    exact open_pair_rows Try.underlying25 rfl Try.underlying22 Try.underlying23 Try.underlying3 Try.underlying42 (by kernel_rfl) (by kernel_rfl) (by kernel_rfl) (fun _ => rfl) hf
  obtain rfl : cs1 = #[.slice y1 l1 c1, .slice y1' l1' c1'] := by cases cs1; simp_all
  obtain ⟨cs2, rfl, hsz2⟩ := okWide_arrK Try.underlying44 (hval 2 44 v2 rfl rfl)
  have k2 := h2
  have lt2 : ∀ x ∈ p2, x.block < W.heap.size := by obtain ⟨m, hm⟩ := k2; exact DataW.trod_lt m _ _ _ hm
  obtain ⟨a2_0, a2_1, rfl, w2_0, w2_1⟩ : ∃ a2_0 a2_1, cs2 = #[.int .u8 a2_0, .int .u8 a2_1] ∧ (Lit.int .u8 a2_0).wf = true ∧ (Lit.int .u8 a2_1).wf = true := by
    obtain ⟨fuel, hf⟩ := h2
    exact open_arr2 Try.underlying44 Try.underlying5 (by kernel_rfl) (by kernel_rfl) hsz2 hf
  clear hA0 hval0
  refine (walk y0 l0 c0 z0 y0' l0' c0' z0' y1 l1 c1 z1 y1' l1' c1' z1' a2_0 a2_1 W w0 w0' w1 w1' w2_0 w2_1).mono fun e W' ⟨he, bel⟩ => ?_
  subst he
  exact ⟨_, rfl, _, _, _, [], _, [], hW', trodAll_mk1 (shut_bool Try.underlying4 _), (trodAll_cons_mk (Below.trod laidOut (by kernel_rfl) (of_decide_eq_true (by kernel_rfl)) k0 bel lt0) (trodAll_cons_mk (Below.trod laidOut (by kernel_rfl) (of_decide_eq_true (by kernel_rfl)) k1 bel lt1) (trodAll_cons_mk (Below.trod laidOut (by kernel_rfl) (of_decide_eq_true (by kernel_rfl)) k2 bel lt2) trodAll_mk0))), rfl, bel.frame _, fun h => by cases h⟩

theorem over : Rows.matrixRowsRow.holds Try.pinned (OpenSpec.ofChange Rows.matrixRowsSpec) :=
  OpenClaim.holds_of_wide 7 Try.f7 rfl rfl rfl rfl rfl rfl rfl ⟨rfl, rfl, rfl, rfl, rfl⟩ rfl rfl rfl rfl rfl (by kernel_rfl) Try.func7 (by kernel_rfl)
    (of_decide_eq_true (by kernel_rfl)) (by unfold Func.isWrapper; first | (rw [if_pos (by decide +kernel)]; kernel_rfl) | (rw [if_neg (by decide +kernel)]; exact ⟨rfl, rfl⟩))
    (fun os started H enc _ => lifted os started H enc)

theorem proved : Rows.MatrixRowsSaid := over
#print axioms proved
end Go.Proofs.Ytgdmhmnmhfpkkaa.matrixRows

namespace Go.Proofs.Ytgdmhmnmhfpkkaa
theorem matrixRows_holds : Rows.MatrixRowsSaid := matrixRows.proved
end Go.Proofs.Ytgdmhmnmhfpkkaa
