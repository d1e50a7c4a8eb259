/- The law ReachCounts: for every input the call returns true, and each argument reads afterwards as it read before; no condition of its own. -/
import Derived.Test.YtefohemihiiceaaRows
import Derived.Test.YtefohemihiiceaaRchN
import Derived.WalkKit
import Derived.ProofKit
import Derived.OpenShut
import Derived.ShutString
import Derived.Below
import Derived.Laws.Cover2
import Derived.SizedLaws
namespace Go.Proofs.Ytefohemihiiceaa.reachCounts
open Go.ChangeShapes Go.WideShapes Go.ChangeAt Go.RowKit
set_option linter.unusedVariables false

theorem own : ownKnob Try.prog.godebug = none := by kernel_rfl
theorem laidOut : laidOutB Try.prog = true := by kernel_rfl

theorem walk (a0 : Option Addr) (len0 cap0 : Nat) (a1 : Int) (w : World) (w0 : InNodes w a0 len0 cap0) (y0 : ZNodes w a0 len0) (w1 : (Lit.int .i64 a1).wf = true) :
    Calls Try.prog 5 #[.agg #[.slice a0 len0 cap0], .int .i64 a1] w fun e w' => e = .returned (.bool true) ∧ Below w.heap.size w w' := by
  exact (counted_any a0 len0 cap0 a1 w w0 y0 (wf_i64 w1)).mono fun e w' h => h

set_option maxRecDepth 100000 in
set_option maxHeartbeats 2000000 in
theorem lifted (os : Os) (started : os.Started) (H : Type) (enc : TypeId × Value → H) :
    ReturnsInHanded {} Try.checked os 5 .any (Rows.reachCountsSpec.pre6 enc Try.prog Try.f5 Rows.reachCountsRow.domain false) (Rows.reachCountsSpec.post enc Try.prog Try.f5 false true false false) := by
  refine returnsInHanded_of_change_sized (C := Try.checked) own started (by kernel_rfl) Try.func5
    (ChangeSpec.witness6 (enc := enc) (C := Try.checked) false ⟨#[], #[.agg #[.slice none 0 0], .int .i64 0], []⟩ 8 (by kernel_rfl) (by kernel_rfl) (by kernel_rfl) (by kernel_rfl)) ?_
  intro W base args ds gs before hval0 hW hcnd hsized0 _
  have hval : ∀ (j : Nat) t v, Try.f5.params[j]? = some t → args[j]? = some v → Value.okWide Try.prog W .any base t v := hval0
  have hW' := hW
  obtain ⟨p, q, hA0, hV, rfl, hfz, hnd⟩ := hW
  have hA : DataW.TrodAll enc Try.prog W 0 (fun _ => true) true Try.f5.params.toList args.toList ds p := hA0
  rw [Try.params5] at hA hval
  have hsized := hsized0
  rw [Try.params5] at hsized
  obtain ⟨v0, vs0, d0, ds0, p0, q0, hargs, rfl, rfl, h0, r0⟩ := trodAll_cons hA
  obtain ⟨v1, vs1, d1, ds1, p1, q1, rfl, rfl, rfl, h1, r1⟩ := trodAll_cons r0
  obtain ⟨rfl, rfl, rfl⟩ := trodAll_nil r1
  obtain rfl : args = #[v0, v1] := by cases args; simp_all
  obtain ⟨rfl, rfl⟩ := trodVars_none hV
  obtain ⟨cs0, rfl, hsz0⟩ := okWide_struct Try.underlying24 (hval 0 24 v0 rfl rfl)
  have k0 := h0
  have lt0 : ∀ x ∈ p0, x.block < W.heap.size := by obtain ⟨m, hm⟩ := k0; exact DataW.trod_lt m _ _ _ hm
  obtain ⟨a0, len0, cap0, rfl, w0, y0⟩ : ∃ a len cap, cs0 = #[.slice a len cap] ∧ InNodes W a len cap ∧ ZNodes W a len := by
    obtain ⟨fuel, hf⟩ := h0
    have hs1 : cs0.toList.length = 1 := by
      obtain ⟨_, _, _, hl, _⟩ := trod_struct1 Try.underlying24 hf
      have h1 : Try.prog.cellsOf 24 = 1 := by kernel_rfl
      rw [h1] at hl
      exact hl
    obtain ⟨v, hv⟩ : ∃ v, cs0.toList = [v] := by
      match hcs : cs0.toList, hs1 with
      | [v], _ => exact ⟨v, rfl⟩
    have hfv : DataW.trod enc Try.prog W 0 (fun _ => true) true fuel 24 [v] = some (d0, p0) := by rw [← hv]; exact hf
    obtain ⟨a, len, cap, rfl, h1, h2⟩ := graph1_open (fun _ => rfl) hfv (fun m hm => by have := List.all_eq_true.1 hsized m (DataW.weights_mem_each (j := 0) (t := 24) (d := d0) rfl rfl m hm); simpa using this)
    exact ⟨a, len, cap, by cases cs0; simp_all, h1, h2⟩
  obtain ⟨a1, rfl, rfl, rfl, w1⟩ := open_int Try.underlying3 (hval 1 3 v1 rfl rfl) h1
  clear hA0 hval0
  refine (walk a0 len0 cap0 a1 W w0 y0 w1).mono fun e W' ⟨he, bel⟩ => ?_
  subst he
  exact ⟨_, rfl, _, _, _, [], _, [], hW', trodAll_mk1 (shut_bool Try.underlying4 _), (trodAll_cons_mk (Below.trod laidOut (by kernel_rfl) (of_decide_eq_true (by kernel_rfl)) k0 bel lt0) (trodAll_cons_mk (shut_int Try.underlying3 w1) trodAll_mk0)), rfl, bel.frame _, fun h => by cases h⟩

theorem over : Rows.reachCountsRow.holds Try.pinned (OpenSpec.ofChange Rows.reachCountsSpec) :=
  OpenClaim.holds_of_wide 5 Try.f5 rfl rfl rfl rfl rfl rfl rfl ⟨rfl, rfl, rfl, rfl, rfl⟩ rfl rfl rfl rfl rfl (by kernel_rfl) Try.func5 (by kernel_rfl)
    (of_decide_eq_true (by kernel_rfl)) (by unfold Func.isWrapper; first | (rw [if_pos (by decide +kernel)]; kernel_rfl) | (rw [if_neg (by decide +kernel)]; exact ⟨rfl, rfl⟩))
    (fun os started H enc _ => lifted os started H enc)

theorem proved : Rows.ReachCountsSaid := over
#print axioms proved
end Go.Proofs.Ytefohemihiiceaa.reachCounts

namespace Go.Proofs.Ytefohemihiiceaa
theorem reachCounts_holds : Rows.ReachCountsSaid := reachCounts.proved
end Go.Proofs.Ytefohemihiiceaa
