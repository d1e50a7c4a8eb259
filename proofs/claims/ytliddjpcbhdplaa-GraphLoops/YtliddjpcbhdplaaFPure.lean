
/- Plain mathematics of 64-bit numbers: what a NaN is, words up to the bits of a NaN, sums and products of such, sums of whole numbers exact; no program in it. -/
import Derived.Laws.FloatArith
namespace Go.Proofs.Ytliddjpcbhdplaa

abbrev DD : Ieee.Format := Ieee.double
theorem dd_binade : DD.binade = 4503599627370496 := by decide
theorem dd_inf : DD.infRung = 9218868437227405312 := by decide
theorem dd_sign : DD.signWeight = 9223372036854775808 := by decide
theorem dd_least : DD.leastPlace = -1074 := by decide
theorem dd_frac : DD.fractionBits = 52 := rfl

/-- the bits of some NaN -/
def nanW (x : Nat) : Bool := (DD.read x).isNaN
/-- the bits, those of every NaN the same -/
def cn (x : Nat) : Nat := if nanW x then 9221120237041090561 else x
def orN : Option Nat → Nat
  | some r => r
  | none => 9221120237041090561
/-- sum and product, any NaN the same -/
def adC (x y : Nat) : Nat := orN (DD.add x y)
def muC (x y : Nat) : Nat := orN (DD.mul x y)

theorem read_word (neg : Bool) (r : Nat) (h : r < 9223372036854775808) :
    DD.read (DD.word neg r) = if r < 4503599627370496 then .number neg r (-1074)
      else if r < 9218868437227405312 then .number neg (4503599627370496 + r % 4503599627370496) (-1074 + (r / 4503599627370496 - 1 : Nat))
      else if r = 9218868437227405312 then .infinity neg else .nan neg (r - 9218868437227405312) := by
  unfold Ieee.Format.read
  simp only [dd_binade, dd_inf, dd_sign, dd_least]
  have e1 : DD.word neg r % 9223372036854775808 = r := by
    unfold Ieee.Format.word
    rw [dd_sign]
    cases neg <;> simp <;> omega
  have e2 : (DD.word neg r / 9223372036854775808 % 2 == 1) = neg := by
    unfold Ieee.Format.word
    rw [dd_sign]
    cases neg
    · simp
      omega
    · simp
      omega
  rw [e1, e2]

theorem nan_word (neg : Bool) (r : Nat) (h : r ≤ 9218868437227405312) : nanW (DD.word neg r) = false := by
  unfold nanW
  rw [read_word neg r (by omega)]
  split
  · rfl
  · split
    · rfl
    · rw [if_pos (by omega)]; rfl

theorem nan_nearest (neg : Bool) (m : Nat) (p : Int) : nanW (DD.nearest neg m p) = false := by
  unfold Ieee.Format.nearest
  split
  · exact nan_word _ _ (by omega)
  · dsimp only
    exact nan_word _ _ (by rw [dd_inf]; exact Nat.min_le_right _ _)

theorem nan_write {d : Ieee.Datum} (h : d.isNaN = false) : nanW (DD.write d) = false := by
  cases d with
  | number neg m p => exact nan_nearest neg m p
  | infinity neg => exact nan_word _ _ (by rw [dd_inf]; omega)
  | nan neg t => cases h

theorem sum_notNaN {a b d : Ieee.Datum} (h : a.sum b = some d) : d.isNaN = false := by
  cases a <;> cases b <;> simp only [Ieee.Datum.sum] at h <;> first | (cases h; done) | skip
  · cases h; rfl
  · cases h; rfl
  · cases h; rfl
  · split at h <;> cases h; rfl

theorem product_notNaN {a b d : Ieee.Datum} (h : a.product b = some d) : d.isNaN = false := by
  cases a <;> cases b <;> simp only [Ieee.Datum.product] at h <;> first | (cases h; done) | skip
  · cases h; rfl
  · split at h <;> cases h; rfl
  · split at h <;> cases h; rfl
  · cases h; rfl

theorem add_notNaN {x y r : Nat} (h : DD.add x y = some r) : nanW r = false := by
  unfold Ieee.Format.add at h
  cases hs : (DD.read x).sum (DD.read y) with
  | none => rw [hs] at h; cases h
  | some d => rw [hs] at h; cases h; exact nan_write (sum_notNaN hs)

theorem mul_notNaN {x y r : Nat} (h : DD.mul x y = some r) : nanW r = false := by
  unfold Ieee.Format.mul at h
  cases hs : (DD.read x).product (DD.read y) with
  | none => rw [hs] at h; cases h
  | some d => rw [hs] at h; cases h; exact nan_write (product_notNaN hs)

theorem cn_nan {x : Nat} (h : nanW x = true) : cn x = 9221120237041090561 := by unfold cn; rw [if_pos h]
theorem cn_num {x : Nat} (h : nanW x = false) : cn x = x := by unfold cn; rw [if_neg (by simp [h])]
theorem nan_N0 : nanW 9221120237041090561 = true := by decide
theorem nan_cn (x : Nat) : nanW (cn x) = nanW x := by
  cases h : nanW x
  · rw [cn_num h, h]
  · rw [cn_nan h]; exact nan_N0
theorem cn_cn (x : Nat) : cn (cn x) = cn x := by
  cases h : nanW x
  · rw [cn_num h, cn_num h]
  · rw [cn_nan h]; rfl
theorem cn_N0 {x : Nat} : cn x = 9221120237041090561 ↔ nanW x = true := by
  constructor
  · intro h
    rw [← nan_cn, h]; exact nan_N0
  · exact cn_nan
theorem cn_eq {x y : Nat} : cn x = cn y ↔ (nanW x = true ∧ nanW y = true) ∨ x = y := by
  constructor
  · intro h
    cases hx : nanW x
    · cases hy : nanW y
      · right; rw [cn_num hx, cn_num hy] at h; exact h
      · rw [cn_nan hy] at h; rw [cn_N0.1 h] at hx; cases hx
    · left
      rw [cn_nan hx] at h
      exact ⟨rfl, cn_N0.1 h.symm⟩
  · rintro (⟨h, k⟩ | h)
    · rw [cn_nan h, cn_nan k]
    · rw [h]

theorem read_nan {x : Nat} (h : nanW x = true) : ∃ s t, DD.read x = .nan s t := by
  unfold nanW at h
  cases hd : DD.read x with
  | nan s t => exact ⟨s, t, rfl⟩
  | number _ _ _ => rw [hd] at h; cases h
  | infinity _ => rw [hd] at h; cases h

theorem sum_nan_l (s : Bool) (t : Nat) (d : Ieee.Datum) : (Ieee.Datum.nan s t).sum d = none := by cases d <;> rfl
theorem sum_nan_r (s : Bool) (t : Nat) (d : Ieee.Datum) : d.sum (Ieee.Datum.nan s t) = none := by cases d <;> rfl
theorem product_nan_l (s : Bool) (t : Nat) (d : Ieee.Datum) : (Ieee.Datum.nan s t).product d = none := by cases d <;> rfl
theorem product_nan_r (s : Bool) (t : Nat) (d : Ieee.Datum) : d.product (Ieee.Datum.nan s t) = none := by cases d <;> rfl

theorem adC_cn (x y : Nat) : adC (cn x) (cn y) = adC x y := by
  unfold adC Ieee.Format.add
  cases hx : nanW x
  · rw [cn_num hx]
    cases hy : nanW y
    · rw [cn_num hy]
    · obtain ⟨s, t, e⟩ := read_nan hy
      obtain ⟨s', t', e'⟩ := read_nan ((nan_cn y).trans hy)
      rw [e, e', sum_nan_r, sum_nan_r]
  · obtain ⟨s, t, e⟩ := read_nan hx
    obtain ⟨s', t', e'⟩ := read_nan ((nan_cn x).trans hx)
    rw [e, e', sum_nan_l, sum_nan_l]

theorem muC_cn (x y : Nat) : muC (cn x) (cn y) = muC x y := by
  unfold muC Ieee.Format.mul
  cases hx : nanW x
  · rw [cn_num hx]
    cases hy : nanW y
    · rw [cn_num hy]
    · obtain ⟨s, t, e⟩ := read_nan hy
      obtain ⟨s', t', e'⟩ := read_nan ((nan_cn y).trans hy)
      rw [e, e', product_nan_r, product_nan_r]
  · obtain ⟨s, t, e⟩ := read_nan hx
    obtain ⟨s', t', e'⟩ := read_nan ((nan_cn x).trans hx)
    rw [e, e', product_nan_l, product_nan_l]

theorem cn_adC (x y : Nat) : cn (adC x y) = adC x y := by
  unfold adC
  cases h : DD.add x y with
  | none => rfl
  | some r => exact cn_num (add_notNaN h)

theorem cn_muC (x y : Nat) : cn (muC x y) = muC x y := by
  unfold muC
  cases h : DD.mul x y with
  | none => rfl
  | some r => exact cn_num (mul_notNaN h)

theorem sum_comm (a b : Ieee.Datum) : a.sum b = b.sum a := by
  cases a <;> cases b <;> simp only [Ieee.Datum.sum]
  case number.number s m i t n j =>
    rw [Int.min_comm j i, Int.add_comm (Ieee.signed t n _), Bool.and_comm t s]
  case infinity.infinity s t =>
    by_cases h : s = t
    · subst h; rfl
    · rw [if_neg h, if_neg (fun e => h e.symm)]

theorem product_comm (a b : Ieee.Datum) : a.product b = b.product a := by
  cases a <;> cases b <;> simp only [Ieee.Datum.product]
  case number.number s m i t n j => rw [Nat.mul_comm m n, Int.add_comm i j, Bool.xor_comm s t]
  case infinity.infinity s t => rw [Bool.xor_comm s t]

theorem adC_comm (x y : Nat) : adC x y = adC y x := by unfold adC Ieee.Format.add; rw [sum_comm]
theorem muC_comm (x y : Nat) : muC x y = muC y x := by unfold muC Ieee.Format.mul; rw [product_comm]

theorem order_self (x : Nat) : (DD.order x x == some .eq) = !nanW x := by
  unfold Ieee.Format.order nanW
  cases DD.read x with
  | nan s t => rfl
  | infinity s => cases s <;> rfl
  | number s m i => simp [Ieee.Datum.order, Ieee.Datum.isNaN]

theorem order_self' (x : Nat) : (DD.order x x != some .eq) = nanW x := by
  unfold bne
  rw [order_self, Bool.not_not]

/-- Fold, up to the bits of NaNs -/
def foldF : Nat → List Nat → Nat
  | 0, _ => 0
  | f + 1, l =>
    match l with
    | [] => 0
    | [x] => cn x
    | l => adC (foldF f (l.take ((l.length + 1) / 2))) (foldF f (l.drop ((l.length + 1) / 2)))
def foldC (l : List Nat) : Nat := foldF l.length l
/-- Row, up to the bits of NaNs -/
def rowC (l : List Nat) : Nat := l.foldl adC 0

theorem foldF_two (f : Nat) (l : List Nat) (h : 2 ≤ l.length) : foldF (f + 1) l = adC (foldF f (l.take ((l.length + 1) / 2))) (foldF f (l.drop ((l.length + 1) / 2))) := by
  match l, h with
  | a :: b :: r, _ => rfl

theorem foldF_more : ∀ (f : Nat) (l : List Nat), l.length ≤ f → foldF f l = foldF l.length l
  | 0, l, h => by
    have : l = [] := List.eq_nil_of_length_eq_zero (by omega)
    subst this; rfl
  | f + 1, l, h => by
    match l, h with
    | [], _ => rfl
    | [x], _ => rfl
    | a :: b :: r, h =>
      generalize hl : a :: b :: r = l at *
      have h2 : 2 ≤ l.length := by rw [← hl]; simp
      obtain ⟨g, hg⟩ : ∃ g, l.length = g + 1 := ⟨l.length - 1, by omega⟩
      rw [foldF_two f l h2]
      rw [hg] at h ⊢
      rw [foldF_two g l h2, ← hg]
      rw [foldF_more f (l.take _) (by rw [List.length_take]; omega), foldF_more f (l.drop _) (by rw [List.length_drop]; omega)]
      rw [foldF_more g (l.take _) (by rw [List.length_take]; omega), foldF_more g (l.drop _) (by rw [List.length_drop]; omega)]
termination_by f => f

theorem foldC_two {l : List Nat} (h : 2 ≤ l.length) : foldC l = adC (foldC (l.take ((l.length + 1) / 2))) (foldC (l.drop ((l.length + 1) / 2))) := by
  unfold foldC
  obtain ⟨g, hg⟩ : ∃ g, l.length = g + 1 := ⟨l.length - 1, by omega⟩
  rw [show foldF l.length l = foldF (g + 1) l by rw [hg], foldF_two g l h]
  rw [foldF_more g (l.take _) (by rw [List.length_take]; omega), foldF_more g (l.drop _) (by rw [List.length_drop]; omega)]
theorem foldC_nil : foldC [] = 0 := rfl
theorem foldC_one (x : Nat) : foldC [x] = cn x := rfl

theorem foldC_twice {l : List Nat} (h : 1 ≤ l.length) : foldC (l ++ l) = adC (foldC l) (foldC l) := by
  rw [foldC_two (by rw [List.length_append]; omega)]
  rw [show ((l ++ l).length + 1) / 2 = l.length by rw [List.length_append]; omega]
  rw [List.take_left, List.drop_left]

theorem rowC_snoc (l : List Nat) (x : Nat) : rowC (l ++ [x]) = adC (rowC l) x := by
  unfold rowC
  rw [List.foldl_append]; rfl

theorem rowC_take {l : List Nat} {k : Nat} (h : k < l.length) : rowC (l.take (k + 1)) = adC (rowC (l.take k)) (l.getD k 0) := by
  rw [List.take_add_one, show l[k]? = some (l.getD k 0) by simp [h]]
  exact rowC_snoc _ _

end Go.Proofs.Ytliddjpcbhdplaa
