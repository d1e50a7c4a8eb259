
/- How many of each rank there are: plain lists, no program in it. -/
import Derived.Test.YthcilobmoeihbaaPilG
namespace Go.Proofs.Ythcilobmoeihbaa

/-- how many have that rank -/
def cntR (ss : List (Int × Int)) (r : Nat) : Int := ((ss.countP fun x => decide (x.2 = (r : Int)) : Nat) : Int)
theorem cntR_cons (x : Int × Int) (ss : List (Int × Int)) (r : Nat) : cntR (x :: ss) r = cntR ss r + (if x.2 = (r : Int) then 1 else 0) := by
  unfold cntR
  rw [List.countP_cons]
  by_cases h : x.2 = (r : Int)
  · simp [h]
  · simp [h]
theorem cntR_perm {a b : List (Int × Int)} (h : a.Perm b) (r : Nat) : cntR a r = cntR b r := by
  unfold cntR
  rw [h.countP_eq]
theorem cntR_le (ss : List (Int × Int)) (r : Nat) : 0 ≤ cntR ss r ∧ cntR ss r ≤ (ss.length : Int) := by
  unfold cntR
  have : (ss.countP fun x => decide (x.2 = (r : Int))) ≤ ss.length := List.countP_le_length
  exact ⟨Int.natCast_nonneg _, by omega⟩
theorem cntR_pos {ss : List (Int × Int)} {r : Nat} : cntR ss r ≠ 0 ↔ ∃ x ∈ ss, x.2 = (r : Int) := by
  unfold cntR
  have h1 : (((ss.countP fun x => decide (x.2 = (r : Int)) : Nat) : Int) ≠ 0) ↔ 0 < (ss.countP fun x => decide (x.2 = (r : Int))) := by omega
  rw [h1, List.countP_pos_iff]
  simp
theorem getD_set_of {cnt : List Int} {i r : Nat} {x : Int} (hi : i < cnt.length) : (cnt.set i x).getD r 0 = if r = i then x else cnt.getD r 0 := by
  by_cases e : r = i
  · subst e; simp [hi]
  · rw [if_neg e]
    simp [List.getD, Ne.symm e]
/-- the table of how many of each rank are there; all of them have come in -/
structure TI (z : Nat → Nat → Int) (k : Nat) (ss : List (Int × Int)) (cnt : List Int) : Prop where
  len : cnt.length = 256
  cnt_ : ∀ r, r < 256 → cnt.getD r 0 = cntR ss r
  mem : ∀ x ∈ ss, ∃ j, j < k ∧ x = ((j : Int), z j 0)
theorem rep_zero (n r : Nat) (h : r < n) : (List.replicate n (0 : Int)).getD r 0 = 0 := by rw [List.getD_eq_getElem?_getD]; simp [h]
theorem TI.start (z : Nat → Nat → Int) : TI z 0 [] (List.replicate 256 0) :=
  ⟨List.length_replicate, fun r hr => rep_zero 256 r hr, fun x hx => by cases hx⟩
theorem TI.push {z : Nat → Nat → Int} {k q : Nat} {ss : List (Int × Int)} {cnt : List Int} (h : TI z k ss cnt) (hq : z k 0 = (q : Int)) (hq2 : q < 256) : TI z (k + 1) (insI ((k : Int), (q : Int)) ss) (cnt.set q (cnt.getD q 0 + 1)) := by
  refine ⟨by rw [List.length_set]; exact h.len, fun r hr => ?_, fun x hx => ?_⟩
  · rw [getD_set_of (by rw [h.len]; exact hq2), cntR_perm (insI_perm _ _), cntR_cons]
    by_cases e : r = q
    · subst e
      rw [if_pos rfl, if_pos rfl, h.cnt_ r hr]
    · rw [if_neg e, if_neg (by simp only; omega), h.cnt_ r hr, Int.add_zero]
  · rcases List.mem_cons.1 ((insI_perm _ _).mem_iff.1 hx) with rfl | hx
    · exact ⟨k, Nat.lt_succ_self _, by rw [hq]⟩
    · obtain ⟨j, hj, e⟩ := h.mem x hx
      exact ⟨j, by omega, e⟩
theorem TI.pop {z : Nat → Nat → Int} {k r : Nat} {s : Int × Int} {t : List (Int × Int)} {cnt : List Int} (h : TI z k (s :: t) cnt) (hr : s.2 = (r : Int)) (hr2 : r < 256) : TI z k t (cnt.set r (cnt.getD r 0 - 1)) := by
  refine ⟨by rw [List.length_set]; exact h.len, fun q hq => ?_, fun x hx => h.mem x (List.mem_cons_of_mem _ hx)⟩
  rw [getD_set_of (by rw [h.len]; exact hr2)]
  by_cases e : q = r
  · subst e
    rw [if_pos rfl, h.cnt_ q hq, cntR_cons, if_pos hr]
    omega
  · rw [if_neg e, h.cnt_ q hq, cntR_cons, if_neg (by omega), Int.add_zero]
/-- somebody has a rank that is not above who is looked at -/
theorem TI.some_at {z : Nat → Nat → Int} {k n t : Nat} {s : Int × Int} {ss : List (Int × Int)} {cnt : List Int} (h : TI z k (s :: ss) cnt) (hkn : k ≤ n) (hz : ∀ j, j < n → 0 ≤ z j 0 ∧ z j 0 ≤ 255) (ha : ∀ r, t < r → r < 256 → cnt.getD r 0 = 0) : ∃ r : Nat, s.2 = (r : Int) ∧ r ≤ t := by
  obtain ⟨j, hj, e⟩ := h.mem s (List.mem_cons_self ..)
  have hz := hz j (by omega)
  have e2 : s.2 = z j 0 := by rw [e]
  refine ⟨(z j 0).toNat, by omega, ?_⟩
  rcases Nat.lt_or_ge t (z j 0).toNat with hlt | hge
  · have h1 := ha _ hlt (by omega)
    rw [h.cnt_ _ (by omega)] at h1
    exact absurd h1 (cntR_pos.2 ⟨s, List.mem_cons_self .., by omega⟩)
  · exact hge
/-- who comes next has the greatest rank -/
theorem TI.next {z : Nat → Nat → Int} {k n t : Nat} {s : Int × Int} {ss : List (Int × Int)} {cnt : List Int} (h : TI z k (s :: ss) cnt) (hkn : k ≤ n) (hz : ∀ j, j < n → 0 ≤ z j 0 ∧ z j 0 ≤ 255) (hs : Srt (s :: ss)) (ht : t < 256) (ha : ∀ r, t < r → r < 256 → cnt.getD r 0 = 0) (hn : cnt.getD t 0 ≠ 0) : s.2 = (t : Int) ∧ ∃ j : Nat, j < k ∧ s.1 = (j : Int) ∧ z j 0 = (t : Int) := by
  obtain ⟨r, hr, hrt⟩ := h.some_at hkn hz ha
  rw [h.cnt_ t ht] at hn
  obtain ⟨x, hx, e⟩ := cntR_pos.1 hn
  have h1 := hs.head x hx
  rw [ltI_no] at h1
  have e2 : s.2 = (t : Int) := by omega
  obtain ⟨j, hj, e3⟩ := h.mem s (List.mem_cons_self ..)
  exact ⟨e2, j, hj, by rw [e3], by rw [← e2, e3]⟩

end Go.Proofs.Ythcilobmoeihbaa
