
/- Finite 64-bit numbers: times one, times nought, plus nought; a matrix times that of ones on the way down; no program in it. -/
import Derived.Test.YtgdmhmnmhfpkkaaFInt
import Derived.Test.YtgdmhmnmhfpkkaaMPure
import Derived.Test.YtgdmhmnmhfpkkaaTenE
namespace Go.Proofs.Ytgdmhmnmhfpkkaa

/-- neither NaN nor infinity -/
def FinW (x : Nat) : Prop := x < 18446744073709551616 ∧ x % 9223372036854775808 < 9218868437227405312
def ZrW (x : Nat) : Prop := x = 0 ∨ x = 9223372036854775808

theorem finW_of {x : Nat} (hx : W64 x) (h : endB x = false) : FinW x := by
  refine ⟨hx, ?_⟩
  unfold endB at h
  rw [Bool.or_eq_false_iff] at h
  obtain ⟨hn, hi⟩ := h
  by_cases h1 : x % 9223372036854775808 < 9218868437227405312
  · exact h1
  · exfalso
    by_cases h2 : x % 9223372036854775808 = 9218868437227405312
    · have e : absN x = 9218868437227405312 := by
        unfold absN
        rw [show 9223372036854775807 = 2 ^ 63 - 1 by decide, Nat.and_two_pow_sub_one_eq_mod]
        exact h2
      unfold infB at hi
      rw [e] at hi
      revert hi
      decide +kernel
    · have : nanW x = true := by
        unfold nanW Ieee.Format.read
        simp only [dd_binade, dd_inf, dd_sign, dd_least]
        rw [if_neg (by omega), if_neg h1, if_neg h2]
        rfl
      rw [this] at hn
      cases hn

theorem word_self {x : Nat} (hx : x < 18446744073709551616) : DD.word (x / 9223372036854775808 % 2 == 1) (x % 9223372036854775808) = x := by
  unfold Ieee.Format.word
  rw [dd_sign]
  by_cases h : x / 9223372036854775808 % 2 = 1
  · rw [if_pos (by simpa using h)]
    omega
  · rw [if_neg (by simpa using h)]
    omega

theorem rung_parts {q : Nat} (hs : ¬ q < 4503599627370496) : (q / 4503599627370496 - 1) * 4503599627370496 + (4503599627370496 + q % 4503599627370496) = q := by omega

/-- what a finite number reads as, and how it is written -/
theorem finW_read {x : Nat} (hx : FinW x) : ∃ (s : Bool) (m : Nat) (i : Nat), DD.read x = .number s m (-1074 + (i : Int)) ∧ (m = 0 → x = DD.word s 0) ∧ ∀ k : Nat, m ≠ 0 → DD.nearest s (m * 2 ^ k) (-1074 + (i : Int) - (k : Int)) = x := by
  obtain ⟨h0, h1⟩ := hx
  have hw := word_self h0
  by_cases hs : x % 9223372036854775808 < 4503599627370496
  · refine ⟨x / 9223372036854775808 % 2 == 1, x % 9223372036854775808, 0, ?_, ?_, ?_⟩
    · unfold Ieee.Format.read
      simp only [dd_binade, dd_inf, dd_sign, dd_least]
      rw [if_pos hs]
      rfl
    · intro e
      rw [e] at hw
      exact hw.symm
    · intro k hm
      generalize x % 9223372036854775808 = m at *
      generalize (x / 9223372036854775808 % 2 == 1) = s at *
      have hp : 0 < 2 ^ k := Nat.two_pow_pos k
      have hl : m.log2 < 52 := (Nat.log2_lt hm).2 hs
      unfold Ieee.Format.nearest
      rw [if_neg (Nat.mul_ne_zero hm (by omega))]
      simp only [log2_scale hm, dd_least, dd_frac, dd_binade, dd_inf]
      have e1 : max (-1074 + ((0 : Nat) : Int) - (k : Int) + ((m.log2 + k : Nat) : Int) - ((52 : Nat) : Int)) (-1074) = -1074 := by omega
      rw [e1]
      have e2 : (-1074 + ((0 : Nat) : Int) - (k : Int) - -1074).toNat = 0 := by omega
      have e3 : (-1074 - (-1074 + ((0 : Nat) : Int) - (k : Int))).toNat = k := by omega
      rw [e2, e3, Nat.shiftLeft_zero, cut_exact _ _ _ hm]
      have e4 : (-1074 - -1074 : Int).toNat = 0 := rfl
      rw [e4, Nat.zero_mul, Nat.zero_add, Nat.min_eq_left (Nat.le_of_lt h1)]
      exact hw
  · refine ⟨x / 9223372036854775808 % 2 == 1, 4503599627370496 + x % 9223372036854775808 % 4503599627370496, x % 9223372036854775808 / 4503599627370496 - 1, ?_, by omega, ?_⟩
    · unfold Ieee.Format.read
      simp only [dd_binade, dd_inf, dd_sign, dd_least]
      rw [if_neg hs, if_pos h1]
    · intro k hm
      generalize (x / 9223372036854775808 % 2 == 1) = s at *
      obtain ⟨m, hmm⟩ : ∃ m, m = 4503599627370496 + x % 9223372036854775808 % 4503599627370496 := ⟨_, rfl⟩
      obtain ⟨i, hi⟩ : ∃ i, i = x % 9223372036854775808 / 4503599627370496 - 1 := ⟨_, rfl⟩
      rw [← hmm] at hm
      rw [← hmm, ← hi]
      have hp : 0 < 2 ^ k := Nat.two_pow_pos k
      have hl : m.log2 = 52 := (Nat.log2_eq_iff hm).2 ⟨by have : (2 : Nat) ^ 52 = 4503599627370496 := by decide
                                                          omega, by have : (2 : Nat) ^ 53 = 9007199254740992 := by decide
                                                                    omega⟩
      unfold Ieee.Format.nearest
      rw [if_neg (Nat.mul_ne_zero hm (by omega))]
      simp only [log2_scale hm, dd_least, dd_frac, dd_binade, dd_inf]
      have e1 : max (-1074 + (i : Int) - (k : Int) + ((m.log2 + k : Nat) : Int) - ((52 : Nat) : Int)) (-1074) = -1074 + (i : Int) := by omega
      rw [e1]
      have e2 : (-1074 + (i : Int) - (k : Int) - (-1074 + (i : Int))).toNat = 0 := by omega
      have e3 : (-1074 + (i : Int) - (-1074 + (i : Int) - (k : Int))).toNat = k := by omega
      rw [e2, e3, Nat.shiftLeft_zero, cut_exact _ _ _ hm]
      have e4 : (-1074 + (i : Int) - -1074).toNat = i := by omega
      have e5 : i * 4503599627370496 + m = x % 9223372036854775808 := by
        rw [hmm, hi]
        exact rung_parts hs
      rw [e4, e5, Nat.min_eq_left (Nat.le_of_lt h1)]
      exact hw

theorem finW_nan {x : Nat} (hx : FinW x) : nanW x = false := by
  obtain ⟨s, m, i, h, -, -⟩ := finW_read hx
  unfold nanW
  rw [h]
  rfl
theorem word_zr (s : Bool) : ZrW (DD.word s 0) := by
  unfold ZrW Ieee.Format.word
  rw [dd_sign]
  cases s
  · exact Or.inl rfl
  · exact Or.inr rfl
theorem zr_read {z : Nat} (hz : ZrW z) : ∃ s, DD.read z = .number s 0 (-1074) := by
  rcases hz with rfl | rfl
  · exact ⟨false, by decide +kernel⟩
  · exact ⟨true, by decide +kernel⟩
theorem zr_fin {z : Nat} (hz : ZrW z) : FinW z := by
  rcases hz with rfl | rfl <;> unfold FinW <;> omega
theorem read_1 : DD.read 4607182418800017408 = .number false (2 ^ 52) (-52) := by decide +kernel
theorem muC_num {x y m n : Nat} {s t : Bool} {p q : Int} (hx : DD.read x = .number s m p) (hy : DD.read y = .number t n q) : muC x y = DD.nearest (s ^^ t) (m * n) (p + q) := by
  unfold muC Ieee.Format.mul
  rw [hx, hy]
  rfl
theorem read_0 : DD.read 0 = .number false 0 (-1074) := by decide +kernel

theorem mul_one_fin {x : Nat} (hx : FinW x) : muC x 4607182418800017408 = x := by
  obtain ⟨s, m, i, h, h0, hn⟩ := finW_read hx
  rw [muC_num h read_1, Bool.xor_false]
  by_cases hm : m = 0
  · rw [hm, Nat.zero_mul]
    unfold Ieee.Format.nearest
    rw [if_pos rfl]
    exact (h0 hm).symm
  · rw [show (-1074 + (i : Int) + -52) = -1074 + (i : Int) - ((52 : Nat) : Int) by omega]
    exact hn 52 hm
theorem mul_zero_fin {x : Nat} (hx : FinW x) : ZrW (muC x 0) := by
  obtain ⟨s, m, i, h, h0, hn⟩ := finW_read hx
  rw [muC_num h read_0, Bool.xor_false, Nat.mul_zero]
  unfold Ieee.Format.nearest
  rw [if_pos rfl]
  exact word_zr s
theorem add_zr_zr {a b : Nat} (ha : ZrW a) (hb : ZrW b) : ZrW (adC a b) := by
  obtain ⟨s, hs⟩ := zr_read ha
  obtain ⟨t, ht⟩ := zr_read hb
  unfold adC Ieee.Format.add
  rw [hs, ht]
  simp only [Ieee.Datum.sum, Option.map_some, Ieee.Format.write, orN]
  have e2 : ∀ (t : Bool) (n : Nat), Ieee.signed t 0 n = 0 := by intro t n; unfold Ieee.signed; cases t <;> simp
  rw [e2, e2]
  exact word_zr _
theorem add_zr {z x : Nat} (hz : ZrW z) (hx : FinW x) (hn : ¬ ZrW x) : adC z x = x := by
  obtain ⟨s, m, i, h, h0, hw⟩ := finW_read hx
  obtain ⟨t, ht⟩ := zr_read hz
  have hm : m ≠ 0 := fun e => hn (by rw [h0 e]; exact word_zr s)
  have hp : 0 < 2 ^ i := Nat.two_pow_pos i
  unfold adC Ieee.Format.add
  rw [h, ht]
  simp only [Ieee.Datum.sum, Option.map_some, Ieee.Format.write, orN]
  have e0 : min (-1074 : Int) (-1074 + (i : Int)) = -1074 := by omega
  have e1 : (-1074 + (i : Int) - -1074).toNat = i := by omega
  rw [e0, e1]
  have e2 : Ieee.signed t 0 (-1074 - -1074 : Int).toNat = 0 := by unfold Ieee.signed; cases t <;> simp
  rw [e2, Int.zero_add]
  have e3 : m * 2 ^ i ≠ 0 := Nat.mul_ne_zero hm (by omega)
  have := hw i hm
  rw [show (-1074 + (i : Int) - (i : Int)) = -1074 by omega] at this
  cases s
  · have e4 : Ieee.signed false m i = ((m * 2 ^ i : Nat) : Int) := by unfold Ieee.signed; rw [Nat.shiftLeft_eq]; rfl
    rw [e4, if_neg (by omega), Int.natAbs_natCast, decide_eq_false (by omega)]
    exact this
  · have e4 : Ieee.signed true m i = -((m * 2 ^ i : Nat) : Int) := by unfold Ieee.signed; rw [Nat.shiftLeft_eq]; rfl
    rw [e4, if_neg (by omega), Int.natAbs_neg, Int.natAbs_natCast, decide_eq_true (by omega)]
    exact this

theorem row_one {l : List Nat} {k x : Nat} (hk : k < l.length) (hx : FinW x) (hat : l.getD k 0 = x) (hz : ∀ j, j < l.length → j ≠ k → ZrW (l.getD j 0)) : rowC l = x ∨ (ZrW x ∧ ZrW (rowC l)) := by
  have h1 : ∀ t, t ≤ k → ZrW (rowC (l.take t)) := by
    intro t
    induction t with
    | zero => intro _; exact Or.inl (by simp [rowC])
    | succ t ih =>
      intro ht
      rw [rowC_take (by omega)]
      exact add_zr_zr (ih (by omega)) (hz t (by omega) (by omega))
  have h2 : ∀ t, k < t → t ≤ l.length → rowC (l.take t) = x ∨ (ZrW x ∧ ZrW (rowC (l.take t))) := by
    intro t
    induction t with
    | zero => intro h; omega
    | succ t ih =>
      intro h h'
      rw [rowC_take (by omega)]
      by_cases e : t = k
      · subst e
        rw [hat]
        by_cases z : ZrW x
        · exact Or.inr ⟨z, add_zr_zr (h1 t (Nat.le_refl _)) z⟩
        · exact Or.inl (add_zr (h1 t (Nat.le_refl _)) hx z)
      · have zt := hz t (by omega) e
        rcases ih (by omega) (by omega) with h3 | ⟨h3, h4⟩
        · rw [h3]
          by_cases z : ZrW x
          · exact Or.inr ⟨z, add_zr_zr z zt⟩
          · exact Or.inl (by rw [adC_comm]; exact add_zr zt hx z)
        · exact Or.inr ⟨h3, add_zr_zr h4 zt⟩
  have := h2 l.length hk (Nat.le_refl _)
  rw [List.take_length] at this
  exact this

theorem order_one {r x : Nat} (hx : FinW x) (h : r = x ∨ (ZrW x ∧ ZrW r)) : (DD.order r x == some .eq) = true := by
  rcases h with rfl | ⟨hz, hr⟩
  · rw [order_self, finW_nan hx]
    rfl
  · rcases hz with rfl | rfl <;> rcases hr with rfl | rfl <;> decide +kernel

/-- ones on the way down, as far as t -/
def onesAt (n t q : Nat) : Nat := if q / n = q % n ∧ q / n < t then 4607182418800017408 else 0
def onesL (n t : Nat) : List Nat := (List.range (n * n)).map (onesAt n t)
theorem onesL_length (n t : Nat) : (onesL n t).length = n * n := by simp [onesL]
theorem onesL_zero (n : Nat) : onesL n 0 = List.replicate (n * n) 0 := by
  apply List.ext_getElem
  · simp [onesL]
  · intro q h1 h2
    simp [onesL, onesAt]
theorem onesL_set {n t : Nat} (ht : t < n) : (onesL n t).set (t * n + t) 4607182418800017408 = onesL n (t + 1) := by
  apply getD_ext (by simp [onesL])
  intro q hq
  rw [List.length_set, onesL_length] at hq
  have eR : (onesL n (t + 1)).getD q 0 = onesAt n (t + 1) q := range_getD hq
  have eL : (onesL n t).getD q 0 = onesAt n t q := range_getD hq
  rw [eR]
  by_cases e : q = t * n + t
  · subst e
    rw [List.getD_eq_getElem?_getD, List.getElem?_set_self (by rw [onesL_length]; exact hq)]
    unfold onesAt
    rw [(divs ht).1, (divs ht).2, if_pos ⟨rfl, by omega⟩]
    rfl
  · rw [List.getD_eq_getElem?_getD, List.getElem?_set_ne (fun h => e h.symm), ← List.getD_eq_getElem?_getD, eL]
    unfold onesAt
    have hne : ¬ (q / n = q % n ∧ q / n = t) := by
      rintro ⟨a, b⟩
      apply e
      have := Nat.div_add_mod q n
      rw [← a, b, Nat.mul_comm] at this
      exact this.symm
    by_cases h : q / n = q % n ∧ q / n < t
    · rw [if_pos h, if_pos ⟨h.1, by omega⟩]
    · rw [if_neg h, if_neg (fun h' => by
        by_cases h3 : q / n = t
        · exact hne ⟨h'.1, h3⟩
        · exact h ⟨h'.1, by omega⟩)]
theorem onesL_getD {n j k : Nat} (hj : j < n) (hk : k < n) : (onesL n n).getD (j * n + k) 0 = if j = k then 4607182418800017408 else 0 := by
  unfold onesL
  rw [range_getD (inrow hj hk)]
  unfold onesAt
  rw [(divs hk).1, (divs hk).2]
  by_cases h : j = k
  · rw [if_pos h, if_pos ⟨h, hj⟩]
  · rw [if_neg h, if_neg (fun h' => h h'.1)]
theorem ones_w64 (n t : Nat) : ∀ x ∈ onesL n t, W64 x := by
  intro x hx
  obtain ⟨q, _, rfl⟩ := List.mem_map.1 hx
  unfold onesAt W64
  split <;> omega

theorem one_row {n i k : Nat} {d : List Nat} (hk : k < n) (hf : ∀ q, FinW (d.getD q 0)) : rowC (prodsL n n d (onesL n n) i k) = d.getD (i * n + k) 0 ∨ (ZrW (d.getD (i * n + k) 0) ∧ ZrW (rowC (prodsL n n d (onesL n n) i k))) := by
  have hl : (prodsL n n d (onesL n n) i k).length = n := by simp [prodsL]
  have hg : ∀ j, j < n → (prodsL n n d (onesL n n) i k).getD j 0 = muC (d.getD (i * n + j) 0) (if j = k then 4607182418800017408 else 0) := by
    intro j hj
    unfold prodsL
    rw [range_getD hj, onesL_getD hj hk]
  refine row_one (k := k) (by omega) (hf _) ?_ ?_
  · rw [hg k hk, if_pos rfl]
    exact mul_one_fin (hf _)
  · intro j hj hne
    rw [hg j (by omega), if_neg hne]
    exact mul_zero_fin (hf _)

theorem one_eq {p n : Nat} {d ds : List Nat} (hd : d.length = p * n) (hf : ∀ q, FinW (d.getD q 0)) (hc : ds.map cn = mulL p n n d (onesL n n)) :
    ds.length = d.length ∧ ∀ q, q < d.length → (DD.order (ds.getD q 0) (d.getD q 0) == some .eq) = true := by
  have hl : ds.length = p * n := by have := congrArg List.length hc; rw [List.length_map, mulL_length] at this; exact this
  refine ⟨by omega, ?_⟩
  intro q hq
  rw [hd] at hq
  have hn : 0 < n := Nat.pos_of_ne_zero (by rintro rfl; simp at hq)
  have h1 : q / n < p := Nat.div_lt_of_lt_mul (by rw [Nat.mul_comm]; exact hq)
  have h2 : q % n < n := Nat.mod_lt _ hn
  have h3 : (q / n) * n + q % n = q := by have := Nat.div_add_mod q n; rw [Nat.mul_comm] at this; exact this
  have e := congrArg (fun l => l.getD q 0) hc
  simp only [getD_mapcn ds q (by omega)] at e
  rw [← h3, mulL_getD h1 h2, h3] at e
  have hr := one_row (i := q / n) h2 hf
  rw [h3] at hr
  have hfin : FinW (rowC (prodsL n n d (onesL n n) (q / n) (q % n))) := by
    rcases hr with h | ⟨_, h⟩
    · rw [h]; exact hf q
    · exact zr_fin h
  rw [is_num e rfl (finW_nan hfin)]
  exact order_one (hf q) hr

end Go.Proofs.Ytgdmhmnmhfpkkaa
