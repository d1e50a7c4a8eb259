
/- Heaps in a row: plain mathematics, no program in it. -/
import Derived.WalkKit
namespace Go.Proofs.Ythcilobmoeihbaa

/-- a strict order of which two that come neither ahead of the other are one -/
structure Ord2 {α : Type} (lt : α → α → Bool) : Prop where
  asym : ∀ {a b}, lt a b = true → lt b a = false
  trans : ∀ {a b c}, lt b a = false → lt c b = false → lt c a = false
  one : ∀ {a b}, lt a b = false → lt b a = false → a = b

def par (k : Nat) : Nat := (k - 1) / 2
/-- from place lo on nobody among the first n comes ahead of whom he stands under -/
def HeapFrom {α : Type} (lt : α → α → Bool) (f : Nat → α) (lo n : Nat) : Prop := ∀ k, 0 < k → k < n → lo ≤ par k → lt (f k) (f (par k)) = false
theorem par_lt {k : Nat} (h : 0 < k) : par k < k := by unfold par; omega
theorem heap_top {α : Type} {lt : α → α → Bool} (ho : Ord2 lt) {f : Nat → α} {n : Nat} (h : HeapFrom lt f 0 n) : ∀ k, k < n → lt (f k) (f 0) = false := by
  intro k
  induction k using Nat.strongRecOn with
  | ind k ih =>
    intro hk
    by_cases h0 : k = 0
    · subst h0
      cases e : lt (f 0) (f 0)
      · rfl
      · exact absurd (ho.asym e) (by rw [e]; decide)
    · have hp := par_lt (show 0 < k by omega)
      exact ho.trans (ih (par k) hp (by omega)) (h k (by omega) hk (Nat.zero_le _))

/-- f with two places changed -/
def swp {α : Type} (f : Nat → α) (i j : Nat) (k : Nat) : α := if k = i then f j else if k = j then f i else f k
theorem swp_l {α : Type} (f : Nat → α) (i j : Nat) : swp f i j i = f j := by unfold swp; rw [if_pos rfl]
theorem swp_r {α : Type} (f : Nat → α) (i j : Nat) : swp f i j j = f i := by
  unfold swp
  by_cases e : j = i
  · rw [if_pos e, e]
  · rw [if_neg e, if_pos rfl]
theorem swp_n {α : Type} (f : Nat → α) {i j k : Nat} (h1 : k ≠ i) (h2 : k ≠ j) : swp f i j k = f k := by unfold swp; rw [if_neg h1, if_neg h2]

/-- on the way up: all is well but at place j, and those under j are well with whom j stands under -/
structure UpAt {α : Type} (lt : α → α → Bool) (f : Nat → α) (n j : Nat) : Prop where
  inb : j < n
  rest : ∀ k, 0 < k → k < n → k ≠ j → lt (f k) (f (par k)) = false
  over : 0 < j → ∀ k, 0 < k → k < n → par k = j → lt (f k) (f (par j)) = false
theorem UpAt.done {α : Type} {lt : α → α → Bool} {f : Nat → α} {n j : Nat} (h : UpAt lt f n j) (hs : j = 0 ∨ lt (f j) (f (par j)) = false) : HeapFrom lt f 0 n := by
  intro k h0 hk _
  by_cases e : k = j
  · subst e
    rcases hs with hs | hs
    · omega
    · exact hs
  · exact h.rest k h0 hk e
theorem UpAt.step {α : Type} {lt : α → α → Bool} (ho : Ord2 lt) {f : Nat → α} {n j : Nat} (h : UpAt lt f n j) (h0 : 0 < j) (hl : lt (f j) (f (par j)) = true) : UpAt lt (swp f (par j) j) n (par j) := by
  have hp := par_lt h0
  have hj := h.inb
  refine ⟨by omega, fun k k0 hk hne => ?_, fun p0 k k0 hk hpk => ?_⟩
  · by_cases e : k = j
    · subst e
      rw [swp_r, swp_l]
      exact ho.asym hl
    · rw [swp_n f hne e]
      by_cases e1 : par k = par j
      · rw [e1, swp_l]
        have h1 := h.rest k k0 hk e
        rw [e1] at h1
        exact ho.trans (ho.asym hl) h1
      · by_cases e2 : par k = j
        · rw [e2, swp_r]
          exact h.over h0 k k0 hk e2
        · rw [swp_n f e1 e2]
          exact h.rest k k0 hk e
  · have hpp := par_lt p0
    have n1 : par (par j) ≠ par j := by omega
    have n2 : par (par j) ≠ j := by omega
    rw [swp_n f n1 n2]
    have hq := h.rest (par j) p0 (by omega) (by omega)
    by_cases e : k = j
    · subst e
      rw [swp_r]
      exact hq
    · have hk1 : k ≠ par j := by
        intro e2
        have := par_lt k0
        omega
      rw [swp_n f hk1 e]
      have h1 := h.rest k k0 hk e
      rw [hpk] at h1
      exact ho.trans hq h1
theorem up_start {α : Type} {lt : α → α → Bool} {f : Nat → α} {n : Nat} (h : HeapFrom lt f 0 n) : UpAt lt f (n + 1) n :=
  ⟨Nat.lt_succ_self _, fun k k0 hk hne => h k k0 (by omega) (Nat.zero_le _), fun _ k k0 hk hpk => by
    have := par_lt k0
    omega⟩

/-- on the way down from lo: all is well but under place i -/
structure DownAt {α : Type} (lt : α → α → Bool) (f : Nat → α) (lo n i : Nat) : Prop where
  ge : lo ≤ i
  rest : ∀ k, 0 < k → k < n → lo ≤ par k → par k ≠ i → lt (f k) (f (par k)) = false
  over : lo < i → lo ≤ par i → ∀ k, 0 < k → k < n → par k = i → lt (f k) (f (par i)) = false
theorem down_start {α : Type} {lt : α → α → Bool} {f : Nat → α} {lo n : Nat} (h : HeapFrom lt f (lo + 1) n) : DownAt lt f lo n lo :=
  ⟨Nat.le_refl _, fun k k0 hk h1 h2 => h k k0 hk (by omega), fun h1 => absurd h1 (Nat.lt_irrefl _)⟩
theorem DownAt.done {α : Type} {lt : α → α → Bool} {f : Nat → α} {lo n i : Nat} (h : DownAt lt f lo n i) (hs : ∀ k, 0 < k → k < n → par k = i → lt (f k) (f i) = false) : HeapFrom lt f lo n := fun k k0 hk h1 => by
  by_cases e : par k = i
  · rw [e]; exact hs k k0 hk e
  · exact h.rest k k0 hk h1 e
theorem par_cases {k i : Nat} (h0 : 0 < k) (h : par k = i) : k = 2 * i + 1 ∨ k = 2 * i + 2 := by unfold par at h; omega
theorem par_l (i : Nat) : par (2 * i + 1) = i := by unfold par; omega
theorem par_r (i : Nat) : par (2 * i + 2) = i := by unfold par; omega
/-- j stands under i, and no other one under i comes ahead of j -/
theorem DownAt.step {α : Type} {lt : α → α → Bool} (ho : Ord2 lt) {f : Nat → α} {lo n i j : Nat} (h : DownAt lt f lo n i) (hj0 : 0 < j) (hjn : j < n) (hp : par j = i) (hb : ∀ k, 0 < k → k < n → par k = i → lt (f k) (f j) = false) (hl : lt (f j) (f i) = true) : DownAt lt (swp f i j) lo n j := by
  have hij : i < j := by rw [← hp]; exact par_lt hj0
  have hge := h.ge
  refine ⟨by omega, fun k k0 hk h1 h2 => ?_, fun _ _ k k0 hk hpk => ?_⟩
  · have hpk := par_lt k0
    by_cases e1 : par k = i
    · rw [e1, swp_l]
      by_cases e2 : k = j
      · subst e2
        rw [swp_r]
        exact ho.asym hl
      · rw [swp_n f (by omega) e2]
        exact hb k k0 hk e1
    · rw [swp_n f e1 h2]
      by_cases e3 : k = i
      · subst e3
        rw [swp_l]
        exact h.over (by omega) h1 j hj0 hjn hp
      · by_cases e4 : k = j
        · subst e4
          exact absurd hp e1
        · rw [swp_n f e3 e4]
          exact h.rest k k0 hk h1 e1
  · have hpk2 := par_lt k0
    rw [hp, swp_l, swp_n f (by omega) (by omega)]
    have := h.rest k k0 hk (by omega) (by omega)
    rw [hpk] at this
    exact this

/-- a row as a function -/
def atL {α : Type} (d : α) (xs : List α) (k : Nat) : α := xs.getD k d
def swpL {α : Type} (d : α) (xs : List α) (i j : Nat) : List α := (xs.set i (xs.getD j d)).set j (xs.getD i d)
theorem swpL_length {α : Type} (d : α) (xs : List α) (i j : Nat) : (swpL d xs i j).length = xs.length := by simp [swpL]
theorem swpL_at {α : Type} (d : α) {xs : List α} {i j : Nat} (hi : i < xs.length) (hj : j < xs.length) (k : Nat) : atL d (swpL d xs i j) k = swp (atL d xs) i j k := by
  unfold atL swpL swp
  by_cases e1 : k = j
  · subst e1
    by_cases e2 : k = i
    · subst e2
      simp [List.getD, hi]
    · rw [if_neg e2, if_pos rfl]
      simp [List.getD, hi, hj]
  · by_cases e2 : k = i
    · subst e2
      rw [if_pos rfl]
      simp [List.getD, hi, hj, Ne.symm e1]
    · rw [if_neg e2, if_neg e1]
      simp [List.getD, Ne.symm e1, Ne.symm e2]
theorem swpL_perm {α : Type} (d : α) {xs : List α} {i j : Nat} (hi : i < xs.length) (hj : j < xs.length) : (swpL d xs i j).Perm xs := by
  have e : swpL d xs i j = (xs.toArray.swap i j (by simpa using hi) (by simpa using hj)).toList := by
    apply List.ext_getElem?
    intro k
    simp [swpL, Array.swap, List.getD, hi, hj]
  rw [e]
  have := Array.swap_perm (xs := xs.toArray) (i := i) (j := j) (by simpa using hi) (by simpa using hj)
  simpa using this.toList

end Go.Proofs.Ythcilobmoeihbaa
