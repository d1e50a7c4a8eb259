
/- What stands behind the graphs changes nothing: the plain mathematics of the law GraphFirst. -/
import Derived.Test.YtliddjpcbhdplaaGrH
namespace Go.Proofs.Ytliddjpcbhdplaa

theorem fnz_none {f : Nat → Int} : ∀ {k : Nat}, fnz f k = 0 → ∀ i, i < k → f i = 0
  | 0, _, i, hi => by omega
  | k + 1, h, i, hi => by
    by_cases e : fnz f k = 0
    · by_cases e2 : i = k
      · subst e2
        rw [fnz, if_pos e] at h
        exact h
      · exact fnz_none e i (by omega)
    · rw [fnz, if_neg e] at h
      exact absurd h e
theorem fnz_spec {f : Nat → Int} : ∀ {k : Nat}, fnz f k ≠ 0 → ∃ j, j < k ∧ (∀ i, i < j → f i = 0) ∧ f j ≠ 0 ∧ fixN f k = j ∧ fnz f k = f j
  | 0, h => absurd rfl h
  | k + 1, h => by
    by_cases e : fnz f k = 0
    · rw [fnz, if_pos e] at h
      have z := fnz_none e
      exact ⟨k, by omega, z, h, fixN_at z h (by omega), fnz_at z h (by omega)⟩
    · obtain ⟨j, h1, h2, h3, _, _⟩ := fnz_spec e
      exact ⟨j, by omega, h2, h3, fixN_at h2 h3 (by omega), fnz_at h2 h3 (by omega)⟩

/-- the second errs where the first does, and not where the first says 6 -/
structure Tame (f f' : Nat → Int) (k : Nat) : Prop where
  z : ∀ i, i < k → f i = 0 → f' i = 0
  s : ∀ i, i < k → f i ≠ 0 → f i ≠ 6 → f' i = f i
theorem tame_none {f f' : Nat → Int} {k k' : Nat} (h : Tame f f' k) (_hk : k ≤ k') (h0 : fnz f k = 0) : fnz f' k' = 0 ∨ k ≤ fixN f' k' := by
  by_cases e : fnz f' k' = 0
  · exact .inl e
  · obtain ⟨j, _, _, h3, h4, _⟩ := fnz_spec e
    rw [h4]
    refine .inr (Nat.le_of_not_lt fun hj => h3 (h.z j hj (fnz_none h0 j hj)))
theorem tame_zero {f f' : Nat → Int} {k : Nat} (h : Tame f f' k) (h0 : fnz f k = 0) : fnz f' k = 0 :=
  fnz_zero fun i hi => h.z i hi (fnz_none h0 i hi)
theorem tame_same {f f' : Nat → Int} {k k' : Nat} (h : Tame f f' k) (hk : k ≤ k') (h0 : fnz f k ≠ 0) (h6 : fnz f k ≠ 6) : fnz f' k' = fnz f k ∧ fixN f' k' = fixN f k ∧ fixN f k < k := by
  obtain ⟨j, h1, h2, h3, h4, h5⟩ := fnz_spec h0
  rw [h5] at h6 ⊢
  have e := h.s j h1 h3 h6
  have hz : ∀ i, i < j → f' i = 0 := fun i hi => h.z i (by omega) (h2 i hi)
  rw [h4, ← e]
  exact ⟨fnz_at hz (by rw [e]; exact h3) (by omega), fixN_at hz (by rw [e]; exact h3) (by omega), h1⟩
theorem tame_six {f f' : Nat → Int} {k k' : Nat} (h : Tame f f' k) (h6 : fnz f k = 6) : fnz f' k' = 0 ∨ fixN f k < fixN f' k' ∨ (fixN f' k' = fixN f k ∧ fixN f k < k ∧ f (fixN f k) = 6 ∧ f' (fixN f k) ≠ 0) := by
  by_cases e : fnz f' k' = 0
  · exact .inl e
  · obtain ⟨j', _, _, g3, g4, _⟩ := fnz_spec e
    obtain ⟨j, h1, h2, h3, h4, h5⟩ := fnz_spec (f := f) (k := k) (by rw [h6]; decide)
    rw [h4, g4]
    rcases Nat.lt_trichotomy j j' with hj | hj | hj
    · exact .inr (.inl hj)
    · subst hj
      exact .inr (.inr ⟨rfl, h1, by rw [← h5]; exact h6, g3⟩)
    · exact absurd (h.z j' (by omega) (h2 j' hj)) g3

theorem ek_tame {gc gc' : Int} (h : gc ≤ gc') (lv : List (List Int)) (at_ : Int) (n : Nd) (k : Nat) : Tame (ek gc lv at_ n) (ek gc' lv at_ n) k := by
  refine ⟨fun i _ => ?_, fun i _ => ?_⟩
  · by_cases e : i = 5
    · subst e
      simp only [ek, unE]
      intro h1
      split at h1
      · rename_i hb
        have : (decide (n.op ≠ 16) || (decide (0 ≤ n.no) && decide (n.no < gc'))) = true := by
          simp only [Bool.or_eq_true, Bool.and_eq_true, decide_eq_true_eq] at hb ⊢
          rcases hb with hb | ⟨h2, h3⟩
          · exact .inl hb
          · exact .inr ⟨h2, by omega⟩
        rw [if_pos this]
      · exact absurd h1 (by decide)
    · intro h1
      rw [← h1]
      match i, e with
      | 0, _ | 1, _ | 2, _ | 3, _ | 4, _ | 6, _ | 7, _ | 8, _ | 9, _ => rfl
      | _ + 10, _ => rfl
  · by_cases e : i = 5
    · subst e
      simp only [ek, unE]
      intro h1 h2
      split at h1
      · exact absurd rfl h1
      · rename_i hb
        rw [if_neg hb] at h2
        exact absurd rfl h2
    · intro _ _
      match i, e with
      | 0, _ | 1, _ | 2, _ | 3, _ | 4, _ | 6, _ | 7, _ | 8, _ | 9, _ => rfl
      | _ + 10, _ => rfl
theorem nd_tame {gc gc' : Int} (h : gc ≤ gc') (lv : List (List Int)) (ns : List Nd) (k : Nat) : Tame (ndF gc lv ns) (ndF gc' lv ns) k :=
  ⟨fun _ _ h0 => tame_zero (ek_tame h lv _ _ 10) h0, fun _ _ h0 h6 => (tame_same (ek_tame h lv _ _ 10) (Nat.le_refl _) h0 h6).1⟩
theorem fst_zero {gc gc' : Int} (h : gc ≤ gc') {lv : List (List Int)} {ns : List Nd} (h0 : fstE gc lv ns = 0) : fstE gc' lv ns = 0 := by
  unfold fstE at *
  cases hb : badL ns
  · rw [hb] at h0
    exact tame_zero (nd_tame h lv ns _) h0
  · rw [hb, if_pos rfl] at h0
    exact absurd h0 (by decide)
theorem fst_same {gc gc' : Int} (h : gc ≤ gc') {lv : List (List Int)} {ns : List Nd} (h0 : fstE gc lv ns ≠ 0) (h6 : fstE gc lv ns ≠ 6) : fstE gc' lv ns = fstE gc lv ns ∧ fstA gc' lv ns = fstA gc lv ns := by
  have T := nd_tame h lv ns ns.length
  unfold fstE at h0 h6
  unfold fstE fstA
  by_cases hb : badL ns = true
  · rw [if_pos hb, if_pos hb, if_pos hb, if_pos hb]
    exact ⟨rfl, rfl⟩
  · rw [if_neg hb] at h0 h6
    rw [if_neg hb, if_neg hb, if_neg hb, if_neg hb]
    generalize ndF gc lv ns = f at *
    generalize ndF gc' lv ns = f' at *
    obtain ⟨h1, h2, _⟩ := tame_same T (Nat.le_refl _) h0 h6
    rw [h1, h2]
    exact ⟨rfl, rfl⟩
theorem fst_six {gc gc' : Int} (h : gc ≤ gc') {lv : List (List Int)} {ns : List Nd} (h6 : fstE gc lv ns = 6) (h0 : fstE gc' lv ns ≠ 0) : fstA gc lv ns ≤ fstA gc' lv ns := by
  unfold fstE fstA at *
  cases hb : badL ns
  · rw [hb] at h0 h6
    rcases tame_six (k' := ns.length) (nd_tame h lv ns ns.length) h6 with h1 | h1 | ⟨h1, _⟩
    · exact absurd h1 h0
    · simp only [Bool.false_eq_true, if_false]; omega
    · simp only [Bool.false_eq_true, if_false]; omega
  · exact Int.le_refl _
theorem gr_tame (lv : List (List Int)) (gs hs : List (List Nd)) : Tame (grF lv gs) (grF lv (gs ++ hs)) gs.length := by
  have hg : ∀ i, i < gs.length → (gs ++ hs).getD i [] = gs.getD i [] := fun i hi => by simp [List.getD, List.getElem?_append_left hi]
  have hl : (gs.length : Int) ≤ ((gs ++ hs).length : Int) := by rw [List.length_append]; omega
  refine ⟨fun i hi h0 => ?_, fun i hi h0 h6 => ?_⟩
  · unfold grF at *
    rw [hg i hi]
    exact fst_zero hl h0
  · unfold grF at *
    rw [hg i hi]
    exact (fst_same hl h0 h6).1
theorem first_law (lv : List (List Int)) (gs hs : List (List Nd)) (hl : (gs ++ hs).length ≤ 16) :
    (chE lv gs = 0 → chE lv (gs ++ hs) = 0 ∨ (gs.length : Int) ≤ chG lv (gs ++ hs)) ∧
    (chE lv gs = 6 → chE lv (gs ++ hs) = 0 ∨ (chE lv (gs ++ hs) ≠ 0 ∧ (chG lv gs < chG lv (gs ++ hs) ∨ (chG lv (gs ++ hs) = chG lv gs ∧ chA lv gs ≤ chA lv (gs ++ hs))))) ∧
    (chE lv gs ≠ 0 → chE lv gs ≠ 6 → chE lv (gs ++ hs) ≠ 0 ∧ chG lv (gs ++ hs) = chG lv gs ∧ chA lv (gs ++ hs) = chA lv gs ∧ chE lv (gs ++ hs) = chE lv gs) := by
  have hlI : (gs.length : Int) ≤ ((gs ++ hs).length : Int) := by rw [List.length_append]; omega
  have hlN : gs.length ≤ (gs ++ hs).length := by simp
  have hg : ∀ i, i < gs.length → (gs ++ hs).getD i [] = gs.getD i [] := fun i hi => by simp [List.getD, List.getElem?_append_left hi]
  have hb1 : badC lv gs = decide (32 < lv.length) := by unfold badC; rw [decide_eq_false (by omega)]; rfl
  have hb2 : badC lv (gs ++ hs) = decide (32 < lv.length) := by unfold badC; rw [decide_eq_false (by omega)]; rfl
  have T := gr_tame lv gs hs
  unfold chE chG chA
  rw [hb1, hb2]
  by_cases h32 : 32 < lv.length
  · rw [decide_eq_true h32]
    simp only [if_true]
    exact ⟨fun h => absurd h (by decide), fun h => absurd h (by decide), fun _ _ => ⟨by decide, trivial, trivial, trivial⟩⟩
  · rw [decide_eq_false h32]
    simp only [Bool.false_eq_true, if_false]
    refine ⟨fun h => ?_, fun h => ?_, fun h h6 => ?_⟩
    · rcases tame_none T hlN h with h1 | h1
      · exact .inl h1
      · exact .inr (by omega)
    · rcases tame_six (k' := (gs ++ hs).length) T h with h1 | h1 | ⟨h1, h2, h3, h4⟩
      · exact .inl h1
      · by_cases e : fnz (grF lv (gs ++ hs)) (gs ++ hs).length = 0
        · exact .inl e
        · exact .inr ⟨e, .inl (by omega)⟩
      · by_cases e : fnz (grF lv (gs ++ hs)) (gs ++ hs).length = 0
        · exact .inl e
        · refine .inr ⟨e, .inr ⟨congrArg Int.ofNat h1, ?_⟩⟩
          rw [if_neg e, if_neg (by rw [h]; decide), h1, hg _ h2]
          have h5 : fstE ((gs ++ hs).length : Int) lv ((gs ++ hs).getD (fixN (grF lv gs) gs.length) []) ≠ 0 := h4
          rw [hg _ h2] at h5
          exact fst_six hlI h3 h5
    · obtain ⟨h1, h2, h3⟩ := tame_same T hlN h h6
      refine ⟨by rw [h1]; exact h, congrArg Int.ofNat h2, ?_, h1⟩
      rw [if_neg (by rw [h1]; exact h), if_neg h, h2, hg _ h3]
      obtain ⟨j, g1, g2, g3, g4, g5⟩ := fnz_spec h
      rw [g5] at h h6
      rw [g4]
      exact (fst_same hlI (ns := gs.getD j []) h h6).2

end Go.Proofs.Ytliddjpcbhdplaa
