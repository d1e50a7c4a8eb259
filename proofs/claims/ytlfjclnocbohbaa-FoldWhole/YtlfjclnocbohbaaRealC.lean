
/- Contracts of the folds by halves. -/
import Derived.Test.YtlfjclnocbohbaaRealB
import Derived.Test.YtlfjclnocbohbaaFNum
import Derived.Deep.RegionWith
namespace Go.Proofs.Ytlfjclnocbohbaa
open Go.RowKit

theorem Flts.take {w : World} {b off n cap : Nat} {xs : List Nat} (h : Flts w (.slice (some ⟨b, off, none⟩) n cap) xs) {m : Nat} (hm : m ≤ n) (cap' : Nat) : Flts w (.slice (some ⟨b, off, none⟩) m cap') (xs.take m) := by
  obtain ⟨h1, h2, h0, a, c, e, h3⟩ := h
  cases e
  have hl : (xs.take m).length = m := by rw [List.length_take]; omega
  refine ⟨fun x hx => h1 x (List.mem_of_mem_take hx), by omega, (by intro n c h; cases h), some ⟨b, off, none⟩, cap', by rw [hl], fun hp => ?_⟩
  obtain ⟨b', off', e, hb, hc⟩ := h3 (by omega)
  cases e
  refine ⟨b, off, rfl, hb, fun i hi => ?_⟩
  have hi' : i < m := by omega
  have := hc i (by omega)
  simpa [List.getD_eq_getElem?_getD, List.getElem?_take, hi'] using this

theorem Flts.drop {w : World} {b off n cap : Nat} {xs : List Nat} (h : Flts w (.slice (some ⟨b, off, none⟩) n cap) xs) {m : Nat} (hm : m ≤ n) (cap' : Nat) : Flts w (.slice (some ⟨b, off + m, none⟩) (n - m) cap') (xs.drop m) := by
  obtain ⟨h1, h2, h0, a, c, e, h3⟩ := h
  cases e
  have hl : (xs.drop m).length = xs.length - m := by rw [List.length_drop]
  refine ⟨fun x hx => h1 x (List.mem_of_mem_drop hx), by omega, (by intro n c h; cases h), some ⟨b, off + m, none⟩, cap', by rw [hl], fun hp => ?_⟩
  obtain ⟨b', off', e, hb, hc⟩ := h3 (by omega)
  cases e
  refine ⟨b, off + m, rfl, hb, fun i hi => ?_⟩
  have := hc (m + i) (by omega)
  rw [← Nat.add_assoc] at this
  rw [this]
  simp [List.getD_eq_getElem?_getD]

theorem Flts.heap {w w' : World} {v : Value} {xs : List Nat} (h : Flts w v xs) (e : w'.heap = w.heap) : Flts w' v xs := by
  obtain ⟨h1, h2, h0, a, cap, rfl, h3⟩ := h
  refine ⟨h1, h2, h0, a, cap, rfl, fun hp => ?_⟩
  obtain ⟨b, off, rfl, hb, hc⟩ := h3 hp
  exact ⟨b, off, rfl, by rw [e]; exact hb, fun i hi => by have := hc i hi; unfold World.cell? at *; rw [e]; exact this⟩

set_option maxHeartbeats 4000000 in
theorem byhalves_any : ∀ (f : Nat) (v : Value) (xs : List Nat) (w : World), xs.length ≤ f → Flts w v xs →
    (∀ a n c, v = .slice a n c → n ≤ c ∧ c ≤ 9223372036854775807) →
    Calls Try.prog 60 #[v, .func (.func 61) #[] #[]] w fun e w' => ∃ r, e = .returned (.float .f64 r) ∧ (cn r = foldC xs ∧ W64 r) ∧ w'.heap = w.heap ∧ Kp w w' := by
  intro f
  induction f with
  | zero =>
    intro v xs w hf h hcap
    have : xs = [] := List.eq_nil_of_length_eq_zero (by omega)
    subst this
    obtain ⟨a, cap, rfl, hv⟩ := h.val
    clear hv h hcap
    go_enter Try.func60, Try.ntmps60
    go_wp2_with fail
    go_ret
    exact ⟨0, rfl, ⟨rfl, w64_0⟩, rfl, Kp.refl _⟩
  | succ f ih =>
    intro v xs w hf h hcap
    have hr := h.room
    obtain ⟨a, cap, rfl, hv⟩ := h.val
    obtain ⟨hc1, hc2⟩ := hcap _ _ _ rfl
    clear hcap
    match hx : xs.length with
    | 0 =>
      have : xs = [] := List.eq_nil_of_length_eq_zero hx
      subst this
      clear hv h ih
      go_enter Try.func60, Try.ntmps60
      go_wp2_with fail
      go_ret
      exact ⟨0, rfl, ⟨rfl, w64_0⟩, rfl, Kp.refl _⟩
    | 1 =>
      match xs, hx with
      | [x], _ =>
        obtain ⟨b, off, rfl, hb, hc⟩ := hv (by simp)
        have hck := hc 0 (by simp)
        simp only [Nat.add_zero, List.getD_cons_zero] at hck
        have HW := hide (h.wf x (by simp))
        clear hc hv h ih
        go_enter Try.func60, Try.ntmps60
        go_wp2_with fail
        go_ret
        exact ⟨x, rfl, ⟨rfl, unhide HW⟩, rfl, Kp.refl _⟩
    | n + 2 =>
      obtain ⟨b, off, rfl, hb, hc⟩ := hv (by omega)
      clear hc hv
      have H := hide h
      have IH := hide ih
      clear h ih
      rw [hx] at hc1 hr
      obtain ⟨m, hm⟩ : ∃ m : Nat, (((n : Nat) : Int) + 2 - ((n : Int) + 2) / 2) = (m : Int) := ⟨_, (Int.toNat_of_nonneg (by omega)).symm⟩
      have hm1 : m < n + 2 := by omega
      have hm2 : 1 ≤ m := by omega
      have hmx : m = (xs.length + 1) / 2 := by omega
      have C1 : Hid (∀ w1, w1.heap = w.heap → Kp w w1 → Calls Try.prog 60 #[.slice (some ⟨b, off, none⟩) m cap, .func (.func 61) #[] #[]] w1 fun e w' => ∃ r, e = .returned (.float .f64 r) ∧ Hid (cn r = foldC (xs.take m) ∧ W64 r) ∧ Hid (w'.heap = w.heap) ∧ Hid (Kp w w')) := by
        intro w1 e1 k1
        refine ((unhide IH) _ (xs.take m) w1 (by rw [List.length_take]; omega) (((unhide H).take (by omega) cap).heap e1) (by intro a n c e; cases e; omega)).mono ?_
        rintro e w2 ⟨r, rfl, h1, h2, h3⟩
        exact ⟨r, rfl, h1, h2.trans e1, k1.trans h3⟩
      have C2 : Hid (∀ w1, w1.heap = w.heap → Kp w w1 → Calls Try.prog 60 #[.slice (some ⟨b, off + m, none⟩) (n + 2 - m) (cap - m), .func (.func 61) #[] #[]] w1 fun e w' => ∃ r, e = .returned (.float .f64 r) ∧ Hid (cn r = foldC (xs.drop m) ∧ W64 r) ∧ Hid (w'.heap = w.heap) ∧ Hid (Kp w w')) := by
        intro w1 e1 k1
        have h2 := (unhide H).drop (m := m) (by omega) (cap - m)
        rw [hx] at h2
        refine ((unhide IH) _ (xs.drop m) w1 (by rw [List.length_drop]; omega) (h2.heap e1) (by intro a n c e; cases e; omega)).mono ?_
        rintro e w2 ⟨r, rfl, h1, h2, h3⟩
        exact ⟨r, rfl, h1, h2.trans e1, k1.trans h3⟩
      have C3 : Hid (∀ x y w1, w1.heap = w.heap → Kp w w1 → Calls Try.prog 61 #[.float .f64 x, .float .f64 y] w1 fun e w' => ∃ r, e = .returned (.float .f64 r) ∧ Hid (cn r = adC x y ∧ W64 r) ∧ Hid (w'.heap = w.heap) ∧ Hid (Kp w w')) := by
        intro x y w1 e1 k1
        refine (plus_any x y w1).mono ?_
        rintro e w2 ⟨r, rfl, h1, h2, h3⟩
        exact ⟨r, rfl, h1, h2.trans e1, k1.trans h3⟩
      have HX := hide hx
      have HMX := hide hmx
      have HK0 := hide (Kp.drew w)
      clear H IH hx hmx
      go_enter Try.func60, Try.ntmps60
      go_wp2_with fail
      try simp only [hm]
      go_region_with (first
        | (go_at_call_of 60 (Value.slice (some (Addr.mk b off none)) m cap); refine ((unhide C1) _ ?_ ?_).mono ?_; (first | rfl | (exact unhide (by assumption))); (first | (exact unhide (by assumption)) | exact Kp.drew w); rintro e w1 ⟨r1, rfl, F1, G1, K1⟩)
        | (go_at_call 60; refine ((unhide C2) _ ?_ ?_).mono ?_; (first | rfl | (exact unhide (by assumption))); (first | (exact unhide (by assumption)) | exact Kp.drew w); rintro e w2 ⟨r2, rfl, F2, G2, K2⟩)
        | (go_at_call 61; refine ((unhide C3) _ _ _ ?_ ?_).mono ?_; (exact unhide (by assumption)); (exact unhide (by assumption)); rintro e w3 ⟨r3, rfl, F3, G3, K3⟩))
      all_goals (go_wp2_with fail)
      all_goals go_ret
      all_goals exact ⟨r3, rfl, ⟨by rw [(unhide F3).1, foldC_two (by rw [unhide HX]; omega), ← unhide HMX, ← (unhide F1).1, ← (unhide F2).1, adC_cn], (unhide F3).2⟩, unhide G3, unhide K3⟩

set_option maxHeartbeats 400000 in
theorem fold_any (v : Value) (xs : List Nat) (w : World) (h : Flts w v xs) (hc : Roomy v) :
    Calls Try.prog 46 #[v] w fun e w' => ∃ r, e = .returned (.float .f64 r) ∧ (cn r = foldC xs ∧ W64 r) ∧ w'.heap = w.heap ∧ Kp w w' := by
  have HE := hide (byhalves_any xs.length v xs w (Nat.le_refl _) h hc)
  clear h hc
  go_enter Try.func46, Try.ntmps46
  go_wp2_with fail
  refine (unhide HE).mono ?_
  rintro e w1 ⟨r, rfl, h1, hh, k1⟩
  have H1 := hide h1
  have HH := hide hh
  have K1 := hide k1
  clear h1 k1 hh HE
  go_wp2
  go_ret
  exact ⟨r, rfl, unhide H1, unhide HH, unhide K1⟩

end Go.Proofs.Ytlfjclnocbohbaa
