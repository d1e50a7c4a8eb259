
/- Contracts of Mul where nothing comes of it. -/
import Derived.Test.YthofnmaobmfoiaaMatC
import Derived.Deep.RegionHeld3
namespace Go.Proofs.Ythofnmaobmfoiaa
open Go.RowKit

set_option maxHeartbeats 4000000 in
theorem mul_no (sv dv sv2 dv2 : Value) (f g : List Int) (d e : List Nat) (w : World) (h1 : Ints w sv f) (hd : Flts w dv d) (h2 : Ints w sv2 g) (hd2 : Flts w dv2 e) (hf : fitB f d g e = false) :
    Calls Try.prog 6 #[.agg #[sv, dv], .agg #[sv2, dv2]] w fun ee w' => ee = .returned (.tuple #[.agg #[.slice none 0 0, .slice none 0 0], .int .i64 2]) ∧ Kp w w' := by
  have H1 := hide h1
  have H2 := hide h2
  have D1 := hide hd
  have D2 := hide hd2
  cases hm1 : matB f d
  · have E1 := hide hm1
    obtain ⟨aS, cS, rfl, -⟩ := h1.val
    obtain ⟨aD, cD, rfl, -⟩ := hd.val
    obtain ⟨aT, cT, rfl, -⟩ := h2.val
    obtain ⟨aE, cE, rfl, -⟩ := hd2.val
    generalize f.length = nS at *
    generalize d.length = nD at *
    generalize g.length = nT at *
    generalize e.length = nE at *
    clear h1 hd h2 hd2 hf hm1
    go_enter Try.func6, Try.ntmps6
    go_wp2_with fail
    obtain ⟨W, hW, x1, x2, x3, k0⟩ := boxes3_in w (.slice aS nS cS) (.slice aD nD cD) (.slice aT nT cT) (.slice aE nE cE) (.slice none 0 0) (.slice none 0 0)
    rw [← hW]
    clear hW
    have hRS : Hid (w.heap.size ≤ w.heap.size + 2) := by unfold Hid; omega
    have K0 := hide k0
    have X1 := hide x1
    have X2 := hide x2
    have X3 := hide x3
    clear x1 x2 x3 k0
    generalize w.heap.size + 2 = R at X3 hRS ⊢
    generalize w.heap.size + 1 = B2 at X2 ⊢
    generalize w.heap.size = B at X1 ⊢
    have C1 := hide (fun w0 (k : Kp W w0) => (mmay_any (.slice aS nS cS) (.slice aD nD cD) f d w0 ((unhide H1).keep ((unhide K0).trans k)) ((unhide D1).keep ((unhide K0).trans k))).mono (R' := fun ee w' => ee = .returned (.bool false) ∧ Hid (Kp W w') ∧ BxO w' B (.slice aS nS cS) (.slice aD nD cD) ∧ BxO w' B2 (.slice aT nT cT) (.slice aE nE cE) ∧ BxO w' R (.slice none 0 0) (.slice none 0 0)) (by
      rintro ee w' ⟨rfl, k'⟩
      exact ⟨by rw [unhide E1], k.trans k', ((unhide X1).keep (k.trans k')).o, ((unhide X2).keep (k.trans k')).o, ((unhide X3).keep (k.trans k')).o⟩))
    obtain ⟨c0, c1, -, -, -⟩ := (unhide X1).o
    obtain ⟨b0, b1, -, -, -⟩ := (unhide X2).o
    obtain ⟨r0, r1, r2, r3, -⟩ := (unhide X3).o
    clear H1 H2 D1 D2
    try go_wp2_with fail
    refine wp_region_any (by kernel_rfl) ?_
    try (change wpAny _ _ _ _ _ _ _ (World.drew _))
    refine wpAny_ready (rs := [0]) (by kernel_rfl) (by simp) ?_
    refine AllReady.cons rfl (fun K hK => ?_) AllReady.nil
    go_simp
    refine hK _ _ ?_
    clear hK K
    refine wpAny_ready (rs := [1]) (by kernel_rfl) (by simp) ?_
    refine AllReady.cons rfl (fun K hK => ?_) AllReady.nil
    go_simp
    go_wp2_with (go_at_call_of 9 (Value.agg #[Value.slice aS nS cS, Value.slice aD nD cD]); refine ((unhide C1) _ ?_).mono ?_; (first | (exact unhide (by assumption)) | exact Kp.drew W); rintro ee z1 ⟨rfl, KX, ⟨c0, c1, -, -, -⟩, ⟨b0, b1, -, -, -⟩, ⟨r0, r1, r2, r3, -⟩⟩)
    refine wpAny_take (i := 2) (v := ?_) rfl (by kernel_rfl) (by kernel_rfl) (by kernel_rfl) (fun _ _ _ h => h) (Or.inl ⟨by kernel_rfl, ?_⟩) ?_
    rotate_left
    focus (intro w; go_simp; try with_reducible rfl)
    simp only [List.getElem_toArray, List.getElem_cons_succ, List.getElem_cons_zero, Act.put, List.setIfInBounds_toArray, List.set_cons_zero, List.set_cons_succ]
    refine wpAny_take (i := 3) (v := ?_) rfl (by kernel_rfl) (by kernel_rfl) (by kernel_rfl) (fun _ _ _ h => h) (Or.inl ⟨by kernel_rfl, ?_⟩) ?_
    rotate_left
    focus (intro w; go_simp; try with_reducible rfl)
    simp only [List.getElem_toArray, List.getElem_cons_succ, List.getElem_cons_zero, Act.put, List.setIfInBounds_toArray, List.set_cons_zero, List.set_cons_succ]
    refine wpAny_take (i := 4) (v := undef) rfl (by kernel_rfl) (by kernel_rfl) (by kernel_rfl) (fun _ _ _ h => h) (Or.inr ⟨by kernel_rfl, rfl⟩) ?_
    simp only [List.getElem_toArray, List.getElem_cons_succ, List.getElem_cons_zero, Act.put, List.setIfInBounds_toArray, List.set_cons_zero, List.set_cons_succ]
    refine wpAny_take (i := 5) (v := undef) rfl (by kernel_rfl) (by kernel_rfl) (by kernel_rfl) (fun _ _ _ h => h) (Or.inr ⟨by kernel_rfl, rfl⟩) ?_
    simp only [List.getElem_toArray, List.getElem_cons_succ, List.getElem_cons_zero, Act.put, List.setIfInBounds_toArray, List.set_cons_zero, List.set_cons_succ]
    refine wpAny_take (i := 6) (v := undef) rfl (by kernel_rfl) (by kernel_rfl) (by kernel_rfl) (fun _ _ _ h => h) (Or.inr ⟨by kernel_rfl, rfl⟩) ?_
    simp only [List.getElem_toArray, List.getElem_cons_succ, List.getElem_cons_zero, Act.put, List.setIfInBounds_toArray, List.set_cons_zero, List.set_cons_succ]
    refine wpAny_take (i := 7) (v := ?_) rfl (by kernel_rfl) (by kernel_rfl) (by kernel_rfl) (fun _ _ _ h => h) (Or.inl ⟨by kernel_rfl, ?_⟩) ?_
    rotate_left
    focus (intro w; go_simp; try with_reducible rfl)
    simp only [List.getElem_toArray, List.getElem_cons_succ, List.getElem_cons_zero, Act.put, List.setIfInBounds_toArray, List.set_cons_zero, List.set_cons_succ]
    refine wpAny_take (i := 8) (v := ?_) rfl (by kernel_rfl) (by kernel_rfl) (by kernel_rfl) (fun _ _ _ h => h) (Or.inl ⟨by kernel_rfl, ?_⟩) ?_
    rotate_left
    focus (intro w; go_simp; try with_reducible rfl)
    simp only [List.getElem_toArray, List.getElem_cons_succ, List.getElem_cons_zero, Act.put, List.setIfInBounds_toArray, List.set_cons_zero, List.set_cons_succ]
    refine wpAny_take (i := 9) (v := undef) rfl (by kernel_rfl) (by kernel_rfl) (by kernel_rfl) (fun _ _ _ h => h) (Or.inr ⟨by kernel_rfl, rfl⟩) ?_
    simp only [List.getElem_toArray, List.getElem_cons_succ, List.getElem_cons_zero, Act.put, List.setIfInBounds_toArray, List.set_cons_zero, List.set_cons_succ]
    refine wpAny_take (i := 10) (v := undef) rfl (by kernel_rfl) (by kernel_rfl) (by kernel_rfl) (fun _ _ _ h => h) (Or.inr ⟨by kernel_rfl, rfl⟩) ?_
    simp only [List.getElem_toArray, List.getElem_cons_succ, List.getElem_cons_zero, Act.put, List.setIfInBounds_toArray, List.set_cons_zero, List.set_cons_succ]
    refine wpAny_take (i := 11) (v := undef) rfl (by kernel_rfl) (by kernel_rfl) (by kernel_rfl) (fun _ _ _ h => h) (Or.inr ⟨by kernel_rfl, rfl⟩) ?_
    simp only [List.getElem_toArray, List.getElem_cons_succ, List.getElem_cons_zero, Act.put, List.setIfInBounds_toArray, List.set_cons_zero, List.set_cons_succ]
    refine wpAny_take (i := 12) (v := undef) rfl (by kernel_rfl) (by kernel_rfl) (by kernel_rfl) (fun _ _ _ h => h) (Or.inr ⟨by kernel_rfl, rfl⟩) ?_
    simp only [List.getElem_toArray, List.getElem_cons_succ, List.getElem_cons_zero, Act.put, List.setIfInBounds_toArray, List.set_cons_zero, List.set_cons_succ]
    refine wpAny_take (i := 13) (v := undef) rfl (by kernel_rfl) (by kernel_rfl) (by kernel_rfl) (fun _ _ _ h => h) (Or.inr ⟨by kernel_rfl, rfl⟩) ?_
    simp only [List.getElem_toArray, List.getElem_cons_succ, List.getElem_cons_zero, Act.put, List.setIfInBounds_toArray, List.set_cons_zero, List.set_cons_succ]
    refine wpAny_take (i := 14) (v := undef) rfl (by kernel_rfl) (by kernel_rfl) (by kernel_rfl) (fun _ _ _ h => h) (Or.inr ⟨by kernel_rfl, rfl⟩) ?_
    simp only [List.getElem_toArray, List.getElem_cons_succ, List.getElem_cons_zero, Act.put, List.setIfInBounds_toArray, List.set_cons_zero, List.set_cons_succ]
    refine wpAny_take (i := 15) (v := undef) rfl (by kernel_rfl) (by kernel_rfl) (by kernel_rfl) (fun _ _ _ h => h) (Or.inr ⟨by kernel_rfl, rfl⟩) ?_
    simp only [List.getElem_toArray, List.getElem_cons_succ, List.getElem_cons_zero, Act.put, List.setIfInBounds_toArray, List.set_cons_zero, List.set_cons_succ]
    refine wpAny_take (i := 16) (v := undef) rfl (by kernel_rfl) (by kernel_rfl) (by kernel_rfl) (fun _ _ _ h => h) (Or.inr ⟨by kernel_rfl, rfl⟩) ?_
    simp only [List.getElem_toArray, List.getElem_cons_succ, List.getElem_cons_zero, Act.put, List.setIfInBounds_toArray, List.set_cons_zero, List.set_cons_succ]
    refine wpAny_take (i := 17) (v := undef) rfl (by kernel_rfl) (by kernel_rfl) (by kernel_rfl) (fun _ _ _ h => h) (Or.inr ⟨by kernel_rfl, rfl⟩) ?_
    simp only [List.getElem_toArray, List.getElem_cons_succ, List.getElem_cons_zero, Act.put, List.setIfInBounds_toArray, List.set_cons_zero, List.set_cons_succ]
    refine wpAny_take (i := 18) (v := ?_) rfl (by kernel_rfl) (by kernel_rfl) (by kernel_rfl) (fun _ _ _ h => h) (Or.inl ⟨by kernel_rfl, ?_⟩) ?_
    rotate_left
    focus (intro w; go_simp; try with_reducible rfl)
    simp only [List.getElem_toArray, List.getElem_cons_succ, List.getElem_cons_zero, Act.put, List.setIfInBounds_toArray, List.set_cons_zero, List.set_cons_succ]
    refine wpAny_done (by kernel_rfl) ?_ _
    all_goals (
      have x9 := (unhide X3).keep (unhide KX)
      obtain ⟨d0, d1, d2, d3, -⟩ := x9.o
      have y9 := x9.set (.slice none 0 0) (.slice none 0 0)
      obtain ⟨y0, y1, -, -, -⟩ := y9.o
      have KF := hide ((((unhide K0).trans (unhide KX)).set (unhide hRS) (i := 0) (.slice none 0 0)).set (unhide hRS) (i := 1) (.slice none 0 0))
      clear x9 y9
      go_wp2
      generalize ((z1.setCell ⟨R, 0, none⟩ (.slice none 0 0)).setCell ⟨R, 1, none⟩ (.slice none 0 0)) = w9 at *
      refine bodyPost_ret (v := .tuple #[.agg #[.slice none 0 0, .slice none 0 0], .int .i64 2]) (by simp [results, Try.results6, go_sem, y0, y1]) rfl ⟨rfl, unhide KF⟩)
  · cases hm2 : matB g e
    · have E1 := hide hm1
      have E2 := hide hm2
      obtain ⟨aS, cS, rfl, -⟩ := h1.val
      obtain ⟨aD, cD, rfl, -⟩ := hd.val
      obtain ⟨aT, cT, rfl, -⟩ := h2.val
      obtain ⟨aE, cE, rfl, -⟩ := hd2.val
      generalize f.length = nS at *
      generalize d.length = nD at *
      generalize g.length = nT at *
      generalize e.length = nE at *
      clear h1 hd h2 hd2 hf hm1 hm2
      go_enter Try.func6, Try.ntmps6
      go_wp2_with fail
      obtain ⟨W, hW, x1, x2, x3, k0⟩ := boxes3_in w (.slice aS nS cS) (.slice aD nD cD) (.slice aT nT cT) (.slice aE nE cE) (.slice none 0 0) (.slice none 0 0)
      rw [← hW]
      clear hW
      have hRS : Hid (w.heap.size ≤ w.heap.size + 2) := by unfold Hid; omega
      have K0 := hide k0
      have X1 := hide x1
      have X2 := hide x2
      have X3 := hide x3
      clear x1 x2 x3 k0
      generalize w.heap.size + 2 = R at X3 hRS ⊢
      generalize w.heap.size + 1 = B2 at X2 ⊢
      generalize w.heap.size = B at X1 ⊢
      have C1 := hide (fun w0 (k : Kp W w0) => (mmay_any (.slice aS nS cS) (.slice aD nD cD) f d w0 ((unhide H1).keep ((unhide K0).trans k)) ((unhide D1).keep ((unhide K0).trans k))).mono (R' := fun ee w' => ee = .returned (.bool true) ∧ Hid (Kp W w') ∧ BxO w' B (.slice aS nS cS) (.slice aD nD cD) ∧ BxO w' B2 (.slice aT nT cT) (.slice aE nE cE) ∧ BxO w' R (.slice none 0 0) (.slice none 0 0)) (by
        rintro ee w' ⟨rfl, k'⟩
        exact ⟨by rw [unhide E1], k.trans k', ((unhide X1).keep (k.trans k')).o, ((unhide X2).keep (k.trans k')).o, ((unhide X3).keep (k.trans k')).o⟩))
      have C2 := hide (fun w0 (k : Kp W w0) => (mmay_any (.slice aT nT cT) (.slice aE nE cE) g e w0 ((unhide H2).keep ((unhide K0).trans k)) ((unhide D2).keep ((unhide K0).trans k))).mono (R' := fun ee w' => ee = .returned (.bool false) ∧ Hid (Kp W w') ∧ BxO w' B (.slice aS nS cS) (.slice aD nD cD) ∧ BxO w' B2 (.slice aT nT cT) (.slice aE nE cE) ∧ BxO w' R (.slice none 0 0) (.slice none 0 0)) (by
        rintro ee w' ⟨rfl, k'⟩
        exact ⟨by rw [unhide E2], k.trans k', ((unhide X1).keep (k.trans k')).o, ((unhide X2).keep (k.trans k')).o, ((unhide X3).keep (k.trans k')).o⟩))
      obtain ⟨c0, c1, -, -, -⟩ := (unhide X1).o
      obtain ⟨b0, b1, -, -, -⟩ := (unhide X2).o
      obtain ⟨r0, r1, r2, r3, -⟩ := (unhide X3).o
      clear H1 H2 D1 D2
      try go_wp2_with fail
      refine wp_region_any (by kernel_rfl) ?_
      try (change wpAny _ _ _ _ _ _ _ (World.drew _))
      refine wpAny_ready (rs := [0]) (by kernel_rfl) (by simp) ?_
      refine AllReady.cons rfl (fun K hK => ?_) AllReady.nil
      go_simp
      refine hK _ _ ?_
      clear hK K
      refine wpAny_ready (rs := [1]) (by kernel_rfl) (by simp) ?_
      refine AllReady.cons rfl (fun K hK => ?_) AllReady.nil
      go_simp
      go_wp2_with (go_at_call_of 9 (Value.agg #[Value.slice aS nS cS, Value.slice aD nD cD]); refine ((unhide C1) _ ?_).mono ?_; (first | (exact unhide (by assumption)) | exact Kp.drew W); rintro ee z1 ⟨rfl, KX, ⟨c0, c1, -, -, -⟩, ⟨b0, b1, -, -, -⟩, ⟨r0, r1, r2, r3, -⟩⟩)
      refine wpAny_take (i := 2) (v := ?_) rfl (by kernel_rfl) (by kernel_rfl) (by kernel_rfl) (fun _ _ _ h => h) (Or.inl ⟨by kernel_rfl, ?_⟩) ?_
      rotate_left
      focus (intro w; go_simp; try with_reducible rfl)
      simp only [List.getElem_toArray, List.getElem_cons_succ, List.getElem_cons_zero, Act.put, List.setIfInBounds_toArray, List.set_cons_zero, List.set_cons_succ]
      refine wpAny_take (i := 3) (v := ?_) rfl (by kernel_rfl) (by kernel_rfl) (by kernel_rfl) (fun _ _ _ h => h) (Or.inl ⟨by kernel_rfl, ?_⟩) ?_
      rotate_left
      focus (intro w; go_simp; try with_reducible rfl)
      simp only [List.getElem_toArray, List.getElem_cons_succ, List.getElem_cons_zero, Act.put, List.setIfInBounds_toArray, List.set_cons_zero, List.set_cons_succ]
      refine wpAny_ready (rs := [4]) (by kernel_rfl) (by simp) ?_
      refine AllReady.cons rfl (fun K hK => ?_) AllReady.nil
      go_simp
      refine hK _ _ ?_
      clear hK K
      refine wpAny_ready (rs := [5]) (by kernel_rfl) (by simp) ?_
      refine AllReady.cons rfl (fun K hK => ?_) AllReady.nil
      go_simp
      go_wp2_with (go_at_call 9; refine ((unhide C2) _ ?_).mono ?_; (first | (exact unhide (by assumption)) | exact Kp.drew W); rintro ee z2 ⟨rfl, KX, ⟨c0, c1, -, -, -⟩, ⟨b0, b1, -, -, -⟩, ⟨r0, r1, r2, r3, -⟩⟩)
      refine wpAny_take (i := 6) (v := ?_) rfl (by kernel_rfl) (by kernel_rfl) (by kernel_rfl) (fun _ _ _ h => h) (Or.inl ⟨by kernel_rfl, ?_⟩) ?_
      rotate_left
      focus (intro w; go_simp; try with_reducible rfl)
      simp only [List.getElem_toArray, List.getElem_cons_succ, List.getElem_cons_zero, Act.put, List.setIfInBounds_toArray, List.set_cons_zero, List.set_cons_succ]
      refine wpAny_take (i := 7) (v := ?_) rfl (by kernel_rfl) (by kernel_rfl) (by kernel_rfl) (fun _ _ _ h => h) (Or.inl ⟨by kernel_rfl, ?_⟩) ?_
      rotate_left
      focus (intro w; go_simp; try with_reducible rfl)
      simp only [List.getElem_toArray, List.getElem_cons_succ, List.getElem_cons_zero, Act.put, List.setIfInBounds_toArray, List.set_cons_zero, List.set_cons_succ]
      refine wpAny_take (i := 8) (v := ?_) rfl (by kernel_rfl) (by kernel_rfl) (by kernel_rfl) (fun _ _ _ h => h) (Or.inl ⟨by kernel_rfl, ?_⟩) ?_
      rotate_left
      focus (intro w; go_simp; try with_reducible rfl)
      simp only [List.getElem_toArray, List.getElem_cons_succ, List.getElem_cons_zero, Act.put, List.setIfInBounds_toArray, List.set_cons_zero, List.set_cons_succ]
      refine wpAny_take (i := 9) (v := undef) rfl (by kernel_rfl) (by kernel_rfl) (by kernel_rfl) (fun _ _ _ h => h) (Or.inr ⟨by kernel_rfl, rfl⟩) ?_
      simp only [List.getElem_toArray, List.getElem_cons_succ, List.getElem_cons_zero, Act.put, List.setIfInBounds_toArray, List.set_cons_zero, List.set_cons_succ]
      refine wpAny_take (i := 10) (v := undef) rfl (by kernel_rfl) (by kernel_rfl) (by kernel_rfl) (fun _ _ _ h => h) (Or.inr ⟨by kernel_rfl, rfl⟩) ?_
      simp only [List.getElem_toArray, List.getElem_cons_succ, List.getElem_cons_zero, Act.put, List.setIfInBounds_toArray, List.set_cons_zero, List.set_cons_succ]
      refine wpAny_take (i := 11) (v := undef) rfl (by kernel_rfl) (by kernel_rfl) (by kernel_rfl) (fun _ _ _ h => h) (Or.inr ⟨by kernel_rfl, rfl⟩) ?_
      simp only [List.getElem_toArray, List.getElem_cons_succ, List.getElem_cons_zero, Act.put, List.setIfInBounds_toArray, List.set_cons_zero, List.set_cons_succ]
      refine wpAny_take (i := 12) (v := undef) rfl (by kernel_rfl) (by kernel_rfl) (by kernel_rfl) (fun _ _ _ h => h) (Or.inr ⟨by kernel_rfl, rfl⟩) ?_
      simp only [List.getElem_toArray, List.getElem_cons_succ, List.getElem_cons_zero, Act.put, List.setIfInBounds_toArray, List.set_cons_zero, List.set_cons_succ]
      refine wpAny_take (i := 13) (v := undef) rfl (by kernel_rfl) (by kernel_rfl) (by kernel_rfl) (fun _ _ _ h => h) (Or.inr ⟨by kernel_rfl, rfl⟩) ?_
      simp only [List.getElem_toArray, List.getElem_cons_succ, List.getElem_cons_zero, Act.put, List.setIfInBounds_toArray, List.set_cons_zero, List.set_cons_succ]
      refine wpAny_take (i := 14) (v := undef) rfl (by kernel_rfl) (by kernel_rfl) (by kernel_rfl) (fun _ _ _ h => h) (Or.inr ⟨by kernel_rfl, rfl⟩) ?_
      simp only [List.getElem_toArray, List.getElem_cons_succ, List.getElem_cons_zero, Act.put, List.setIfInBounds_toArray, List.set_cons_zero, List.set_cons_succ]
      refine wpAny_take (i := 15) (v := undef) rfl (by kernel_rfl) (by kernel_rfl) (by kernel_rfl) (fun _ _ _ h => h) (Or.inr ⟨by kernel_rfl, rfl⟩) ?_
      simp only [List.getElem_toArray, List.getElem_cons_succ, List.getElem_cons_zero, Act.put, List.setIfInBounds_toArray, List.set_cons_zero, List.set_cons_succ]
      refine wpAny_take (i := 16) (v := undef) rfl (by kernel_rfl) (by kernel_rfl) (by kernel_rfl) (fun _ _ _ h => h) (Or.inr ⟨by kernel_rfl, rfl⟩) ?_
      simp only [List.getElem_toArray, List.getElem_cons_succ, List.getElem_cons_zero, Act.put, List.setIfInBounds_toArray, List.set_cons_zero, List.set_cons_succ]
      refine wpAny_take (i := 17) (v := undef) rfl (by kernel_rfl) (by kernel_rfl) (by kernel_rfl) (fun _ _ _ h => h) (Or.inr ⟨by kernel_rfl, rfl⟩) ?_
      simp only [List.getElem_toArray, List.getElem_cons_succ, List.getElem_cons_zero, Act.put, List.setIfInBounds_toArray, List.set_cons_zero, List.set_cons_succ]
      refine wpAny_take (i := 18) (v := ?_) rfl (by kernel_rfl) (by kernel_rfl) (by kernel_rfl) (fun _ _ _ h => h) (Or.inl ⟨by kernel_rfl, ?_⟩) ?_
      rotate_left
      focus (intro w; go_simp; try with_reducible rfl)
      simp only [List.getElem_toArray, List.getElem_cons_succ, List.getElem_cons_zero, Act.put, List.setIfInBounds_toArray, List.set_cons_zero, List.set_cons_succ]
      refine wpAny_done (by kernel_rfl) ?_ _
      all_goals (
        have x9 := (unhide X3).keep (unhide KX)
        obtain ⟨d0, d1, d2, d3, -⟩ := x9.o
        have y9 := x9.set (.slice none 0 0) (.slice none 0 0)
        obtain ⟨y0, y1, -, -, -⟩ := y9.o
        have KF := hide ((((unhide K0).trans (unhide KX)).set (unhide hRS) (i := 0) (.slice none 0 0)).set (unhide hRS) (i := 1) (.slice none 0 0))
        clear x9 y9
        go_wp2
        generalize ((z2.setCell ⟨R, 0, none⟩ (.slice none 0 0)).setCell ⟨R, 1, none⟩ (.slice none 0 0)) = w9 at *
        refine bodyPost_ret (v := .tuple #[.agg #[.slice none 0 0, .slice none 0 0], .int .i64 2]) (by simp [results, Try.results6, go_sem, y0, y1]) rfl ⟨rfl, unhide KF⟩)
    · have E1 := hide hm1
      have E2 := hide hm2
      have hne : (f.getD 1 0 != g.getD 0 0) = true := by
        unfold fitB at hf
        rw [hm1, hm2] at hf
        simp only [Bool.true_and] at hf
        rw [bne, hf]
        rfl
      obtain ⟨p, m, rfl, -, -, -, -⟩ := two_of (matB_yes.1 hm1).1 (matB_yes.1 hm1).2
      obtain ⟨m', n, rfl, -, -, -, -⟩ := two_of (matB_yes.1 hm2).1 (matB_yes.1 hm2).2
      obtain ⟨bs, os, cS, rfl, hbs, -, hs1⟩ := h1.two
      obtain ⟨bt, ot, cT, rfl, hbt, ht0, -⟩ := h2.two
      obtain ⟨aD, cD, rfl, -⟩ := hd.val
      obtain ⟨aE, cE, rfl, -⟩ := hd2.val
      have hne' : ((m : Int) != (m' : Int)) = true := hne
      generalize d.length = nD at *
      generalize e.length = nE at *
      clear h1 hd h2 hd2 hf hm1 hm2 hne
      go_enter Try.func6, Try.ntmps6
      go_wp2_with fail
      obtain ⟨W, hW, x1, x2, x3, k0⟩ := boxes3_in w (.slice (some ⟨bs, os, none⟩) 2 cS) (.slice aD nD cD) (.slice (some ⟨bt, ot, none⟩) 2 cT) (.slice aE nE cE) (.slice none 0 0) (.slice none 0 0)
      rw [← hW]
      clear hW
      have hRS : Hid (w.heap.size ≤ w.heap.size + 2) := by unfold Hid; omega
      have K0 := hide k0
      have X1 := hide x1
      have X2 := hide x2
      have X3 := hide x3
      clear x1 x2 x3 k0
      generalize w.heap.size + 2 = R at X3 hRS ⊢
      generalize w.heap.size + 1 = B2 at X2 ⊢
      generalize w.heap.size = B at X1 ⊢
      have C1 := hide (fun w0 (k : Kp W w0) => (mmay_any (.slice (some ⟨bs, os, none⟩) 2 cS) (.slice aD nD cD) [(p : Int), (m : Int)] d w0 ((unhide H1).keep ((unhide K0).trans k)) ((unhide D1).keep ((unhide K0).trans k))).mono (R' := fun ee w' => ee = .returned (.bool true) ∧ Hid (Kp W w') ∧ BxO w' B (.slice (some ⟨bs, os, none⟩) 2 cS) (.slice aD nD cD) ∧ BxO w' B2 (.slice (some ⟨bt, ot, none⟩) 2 cT) (.slice aE nE cE) ∧ BxO w' R (.slice none 0 0) (.slice none 0 0) ∧ w'.cell? ⟨bs, os + 1, none⟩ = some (.int .i64 (m : Int)) ∧ w'.cell? ⟨bt, ot, none⟩ = some (.int .i64 (m' : Int))) (by
        rintro ee w' ⟨rfl, k'⟩
        exact ⟨by rw [unhide E1], k.trans k', ((unhide X1).keep (k.trans k')).o, ((unhide X2).keep (k.trans k')).o, ((unhide X3).keep (k.trans k')).o, (Below.cell ((unhide K0).trans (k.trans k')) (p := ⟨bs, os + 1, none⟩) hbs).trans hs1, (Below.cell ((unhide K0).trans (k.trans k')) (p := ⟨bt, ot, none⟩) hbt).trans ht0⟩))
      have C2 := hide (fun w0 (k : Kp W w0) => (mmay_any (.slice (some ⟨bt, ot, none⟩) 2 cT) (.slice aE nE cE) [(m' : Int), (n : Int)] e w0 ((unhide H2).keep ((unhide K0).trans k)) ((unhide D2).keep ((unhide K0).trans k))).mono (R' := fun ee w' => ee = .returned (.bool true) ∧ Hid (Kp W w') ∧ BxO w' B (.slice (some ⟨bs, os, none⟩) 2 cS) (.slice aD nD cD) ∧ BxO w' B2 (.slice (some ⟨bt, ot, none⟩) 2 cT) (.slice aE nE cE) ∧ BxO w' R (.slice none 0 0) (.slice none 0 0) ∧ w'.cell? ⟨bs, os + 1, none⟩ = some (.int .i64 (m : Int)) ∧ w'.cell? ⟨bt, ot, none⟩ = some (.int .i64 (m' : Int))) (by
        rintro ee w' ⟨rfl, k'⟩
        exact ⟨by rw [unhide E2], k.trans k', ((unhide X1).keep (k.trans k')).o, ((unhide X2).keep (k.trans k')).o, ((unhide X3).keep (k.trans k')).o, (Below.cell ((unhide K0).trans (k.trans k')) (p := ⟨bs, os + 1, none⟩) hbs).trans hs1, (Below.cell ((unhide K0).trans (k.trans k')) (p := ⟨bt, ot, none⟩) hbt).trans ht0⟩))
      obtain ⟨c0, c1, -, -, -⟩ := (unhide X1).o
      obtain ⟨b0, b1, -, -, -⟩ := (unhide X2).o
      obtain ⟨r0, r1, r2, r3, -⟩ := (unhide X3).o
      have s0 := (Below.cell (unhide K0) (p := ⟨bs, os + 1, none⟩) hbs).trans hs1
      have s1 := (Below.cell (unhide K0) (p := ⟨bt, ot, none⟩) hbt).trans ht0
      clear H1 H2 D1 D2 hs1 ht0
      try go_wp2_with fail
      go_region_held3 (fun w' => w'.cell? ⟨B, 0, none⟩ = some (.slice (some ⟨bs, os, none⟩) 2 cS) ∧ w'.cell? ⟨B, 1, none⟩ = some (.slice aD nD cD) ∧ w'.cell? ⟨B2, 0, none⟩ = some (.slice (some ⟨bt, ot, none⟩) 2 cT) ∧ w'.cell? ⟨B2, 1, none⟩ = some (.slice aE nE cE) ∧ w'.cell? ⟨bs, os + 1, none⟩ = some (.int .i64 (m : Int)) ∧ w'.cell? ⟨bt, ot, none⟩ = some (.int .i64 (m' : Int))) (go_keep)
        (first
          | (go_at_call_of 9 (Value.agg #[Value.slice (some (Addr.mk bs os none)) 2 cS, Value.slice aD nD cD]); refine ((unhide C1) _ ?_).mono ?_; (first | (exact unhide (by assumption)) | exact Kp.drew W); rintro ee z1 ⟨rfl, KX, ⟨c0, c1, -, -, -⟩, ⟨b0, b1, -, -, -⟩, ⟨r0, r1, r2, r3, -⟩, s0, s1⟩)
          | (go_at_call 9; refine ((unhide C2) _ ?_).mono ?_; (first | (exact unhide (by assumption)) | exact Kp.drew W); rintro ee z2 ⟨rfl, KX, ⟨c0, c1, -, -, -⟩, ⟨b0, b1, -, -, -⟩, ⟨r0, r1, r2, r3, -⟩, s0, s1⟩))
      all_goals (
        have x9 := (unhide X3).keep (unhide KX)
        obtain ⟨d0, d1, d2, d3, -⟩ := x9.o
        have y9 := x9.set (.slice none 0 0) (.slice none 0 0)
        obtain ⟨y0, y1, -, -, -⟩ := y9.o
        have KF := hide ((((unhide K0).trans (unhide KX)).set (unhide hRS) (i := 0) (.slice none 0 0)).set (unhide hRS) (i := 1) (.slice none 0 0))
        clear x9 y9
        go_wp2
        generalize ((z2.setCell ⟨R, 0, none⟩ (.slice none 0 0)).setCell ⟨R, 1, none⟩ (.slice none 0 0)) = w9 at *
        refine bodyPost_ret (v := .tuple #[.agg #[.slice none 0 0, .slice none 0 0], .int .i64 2]) (by simp [results, Try.results6, go_sem, y0, y1]) rfl ⟨rfl, unhide KF⟩)

end Go.Proofs.Ythofnmaobmfoiaa
