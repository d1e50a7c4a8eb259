
/- The contract of the document's own fold. -/
import Derived.Test.YtnmpbjjppdkomaaRealC
namespace Go.Proofs.Ytnmpbjjppdkomaa
open Go.RowKit

set_option maxHeartbeats 4000000 in
theorem rfold_any : ∀ (f : Nat) (v : Value) (xs : List Nat) (w : World), xs.length ≤ f → Flts w v xs →
    (∀ a n c, v = .slice a n c → n ≤ c ∧ c ≤ 9223372036854775807) →
    Calls Try.prog 26 #[v] w fun e w' => ∃ r, e = .returned (.float .f64 r) ∧ (cn r = foldC xs ∧ W64 r) ∧ w'.heap = w.heap ∧ Kp w w' := by
  intro f
  induction f with
  | zero =>
    intro v xs w hf h hcap
    have : xs = [] := List.eq_nil_of_length_eq_zero (by omega)
    subst this
    obtain ⟨a, cap, rfl, hv⟩ := h.val
    clear hv h hcap
    go_enter Try.func26, Try.ntmps26
    go_wp2_with fail
    go_ret
    exact ⟨0, rfl, ⟨rfl, w64_0⟩, rfl, Kp.refl _⟩
  | succ f ih =>
    intro v xs w hf h hcap
    have hr := h.room
    obtain ⟨a, cap, rfl, hv⟩ := h.val
    obtain ⟨hc1, hc2⟩ := hcap _ _ _ rfl
    clear hcap
    match hx : xs.length with
    | 0 =>
      have : xs = [] := List.eq_nil_of_length_eq_zero hx
      subst this
      clear hv h ih
      go_enter Try.func26, Try.ntmps26
      go_wp2_with fail
      go_ret
      exact ⟨0, rfl, ⟨rfl, w64_0⟩, rfl, Kp.refl _⟩
    | 1 =>
      match xs, hx with
      | [x], _ =>
        obtain ⟨b, off, rfl, hb, hc⟩ := hv (by simp)
        have hck := hc 0 (by simp)
        simp only [Nat.add_zero, List.getD_cons_zero] at hck
        have HW := hide (h.wf x (by simp))
        clear hc hv h ih
        go_enter Try.func26, Try.ntmps26
        go_wp2_with fail
        go_ret
        exact ⟨x, rfl, ⟨rfl, unhide HW⟩, rfl, Kp.refl _⟩
    | n + 2 =>
      obtain ⟨b, off, rfl, hb, hc⟩ := hv (by omega)
      clear hc hv
      have H := hide h
      have IH := hide ih
      clear h ih
      rw [hx] at hc1 hr
      obtain ⟨m, hm⟩ : ∃ m : Nat, (((n : Nat) : Int) + 2 + 1) / 2 = (m : Int) := ⟨_, (Int.toNat_of_nonneg (by omega)).symm⟩
      have hm1 : m < n + 2 := by omega
      have hm2 : 1 ≤ m := by omega
      have hmx : m = (xs.length + 1) / 2 := by omega
      have C1 : Hid (∀ w1, w1.heap = w.heap → Kp w w1 → Calls Try.prog 26 #[.slice (some ⟨b, off, none⟩) m cap] w1 fun e w' => ∃ r, e = .returned (.float .f64 r) ∧ Hid (cn r = foldC (xs.take m) ∧ W64 r) ∧ Hid (w'.heap = w.heap) ∧ Hid (Kp w w')) := by
        intro w1 e1 k1
        refine ((unhide IH) _ (xs.take m) w1 (by rw [List.length_take]; omega) (((unhide H).take (by omega) cap).heap e1) (by intro a n c e; cases e; omega)).mono ?_
        rintro e w2 ⟨r, rfl, h1, h2, h3⟩
        exact ⟨r, rfl, h1, h2.trans e1, k1.trans h3⟩
      have C2 : Hid (∀ w1, w1.heap = w.heap → Kp w w1 → Calls Try.prog 26 #[.slice (some ⟨b, off + m, none⟩) (n + 2 - m) (cap - m)] w1 fun e w' => ∃ r, e = .returned (.float .f64 r) ∧ Hid (cn r = foldC (xs.drop m) ∧ W64 r) ∧ Hid (w'.heap = w.heap) ∧ Hid (Kp w w')) := by
        intro w1 e1 k1
        have h2 := (unhide H).drop (m := m) (by omega) (cap - m)
        rw [hx] at h2
        refine ((unhide IH) _ (xs.drop m) w1 (by rw [List.length_drop]; omega) (h2.heap e1) (by intro a n c e; cases e; omega)).mono ?_
        rintro e w2 ⟨r, rfl, h1, h2, h3⟩
        exact ⟨r, rfl, h1, h2.trans e1, k1.trans h3⟩
      have hop := fun t w x y => run_add_any (P := Try.prog) w t x y
      have HX := hide hx
      have HMX := hide hmx
      have HK0 := hide (Kp.drew w)
      clear H IH hx hmx
      go_enter Try.func26, Try.ntmps26
      go_wp2_with fail
      try simp only [hm]
      go_region_with (first
        | (go_at_call_of 26 (Value.slice (some (Addr.mk b off none)) m cap); refine ((unhide C1) _ ?_ ?_).mono ?_; (first | rfl | (exact unhide (by assumption))); (first | (exact unhide (by assumption)) | exact Kp.drew w); rintro e w1 ⟨r1, rfl, F1, G1, K1⟩)
        | (go_at_call 26; refine ((unhide C2) _ ?_ ?_).mono ?_; (first | rfl | (exact unhide (by assumption))); (first | (exact unhide (by assumption)) | exact Kp.drew w); rintro e w2 ⟨r2, rfl, F2, G2, K2⟩)
        | fail)
      all_goals (go_wp2_with fail)
      all_goals go_ret
      all_goals exact ⟨_, rfl, ⟨by rw [(flR_add _ _ _).1, foldC_two (by rw [unhide HX]; omega), ← unhide HMX, ← (unhide F1).1, ← (unhide F2).1, adC_cn], (flR_add _ _ _).2⟩, (flW_heap _ _ _ _).trans (unhide G2), (unhide K2).trans (flW_kp _ _ _ _)⟩


end Go.Proofs.Ytnmpbjjppdkomaa
