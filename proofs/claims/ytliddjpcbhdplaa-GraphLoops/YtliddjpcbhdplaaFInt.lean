
/- Whole numbers below 2^53 as 64-bit numbers: what their words read as, and that their sums are exact; no program in it. -/
import Derived.Test.YtliddjpcbhdplaaFPure
namespace Go.Proofs.Ytliddjpcbhdplaa

theorem log2_scale {n : Nat} (h : n ≠ 0) (s : Nat) : (n * 2 ^ s).log2 = n.log2 + s := by
  have h1 := (Nat.log2_eq_iff h).1 rfl
  have hp : 0 < 2 ^ s := Nat.two_pow_pos s
  refine (Nat.log2_eq_iff (Nat.mul_ne_zero h (by omega))).2 ⟨?_, ?_⟩
  · rw [Nat.pow_add]; exact Nat.mul_le_mul_right _ h1.1
  · rw [show n.log2 + s + 1 = (n.log2 + 1) + s by omega, Nat.pow_add]
    exact Nat.mul_lt_mul_of_pos_right h1.2 hp

theorem cut_zero (neg : Bool) (n : Nat) : Ieee.Toward.even.cut neg n 0 = n := by
  unfold Ieee.Toward.cut
  simp [Nat.mod_one]

theorem cut_exact (neg : Bool) (n k : Nat) (h : n ≠ 0) : Ieee.Toward.even.cut neg (n * 2 ^ k) k = n := by
  unfold Ieee.Toward.cut
  have e : min k ((n * 2 ^ k).log2 + 2) = k := by rw [log2_scale h]; omega
  have hp : 0 < 2 ^ k := Nat.two_pow_pos k
  simp only [e, Nat.shiftLeft_eq, Nat.one_mul, Nat.mul_mod_left, Nat.mul_div_cancel _ hp]
  have h1 : ¬ (2 ^ k < 2 * 0) := by omega
  have h2 : (2 ^ k == 2 * 0) = false := by rw [beq_eq_false_iff_ne]; omega
  simp [h1, h2]

/-- the rung of a whole number -/
def rungN (n : Nat) : Nat := (n.log2 + 1022) * 4503599627370496 + n * 2 ^ (52 - n.log2)

theorem log2_53 {n : Nat} (h : n ≠ 0) (hn : n < 9007199254740992) : n.log2 ≤ 52 := by
  have h1 := ((Nat.log2_eq_iff h).1 rfl).1
  have : ¬ 53 ≤ n.log2 := by
    intro h53
    have := Nat.pow_le_pow_right (show 0 < 2 by decide) h53
    have e : (2 : Nat) ^ 53 = 9007199254740992 := by decide
    omega
  omega

theorem mant {n : Nat} (h : n ≠ 0) (hn : n < 9007199254740992) : 4503599627370496 ≤ n * 2 ^ (52 - n.log2) ∧ n * 2 ^ (52 - n.log2) < 9007199254740992 := by
  have h1 := (Nat.log2_eq_iff h).1 rfl
  have h2 := log2_53 h hn
  have e : (2 : Nat) ^ 52 = 4503599627370496 := by decide
  have e' : (2 : Nat) ^ 53 = 9007199254740992 := by decide
  have hp : 0 < 2 ^ (52 - n.log2) := Nat.two_pow_pos _
  constructor
  · have := Nat.mul_le_mul_right (2 ^ (52 - n.log2)) h1.1
    rw [← Nat.pow_add, show n.log2 + (52 - n.log2) = 52 by omega, e] at this
    exact this
  · have := Nat.mul_lt_mul_of_pos_right h1.2 hp
    rw [← Nat.pow_add, show n.log2 + 1 + (52 - n.log2) = 53 by omega, e'] at this
    exact this

theorem near_scale (neg : Bool) {n : Nat} (h : n ≠ 0) (hn : n < 9007199254740992) (s : Nat) : DD.nearest neg (n * 2 ^ s) (-(s : Int)) = DD.word neg (rungN n) := by
  have hp : 0 < 2 ^ s := Nat.two_pow_pos s
  have hL := log2_53 h hn
  have hM := mant h hn
  unfold Ieee.Format.nearest
  rw [if_neg (Nat.mul_ne_zero h (by omega))]
  simp only [log2_scale h, dd_least, dd_frac, dd_binade, dd_inf]
  have e1 : max (-(s : Int) + ((n.log2 + s : Nat) : Int) - ((52 : Nat) : Int)) (-1074) = (n.log2 : Int) - 52 := by omega
  rw [e1]
  have e2 : ((n.log2 : Int) - 52 - -1074).toNat = n.log2 + 1022 := by omega
  rw [e2]
  have e3 : Ieee.Toward.even.cut neg ((n * 2 ^ s) <<< (-(s : Int) - ((n.log2 : Int) - 52)).toNat) (((n.log2 : Int) - 52) - -(s : Int)).toNat = n * 2 ^ (52 - n.log2) := by
    by_cases hs : s ≤ 52 - n.log2
    · have a1 : (-(s : Int) - ((n.log2 : Int) - 52)).toNat = 52 - n.log2 - s := by omega
      have a2 : (((n.log2 : Int) - 52) - -(s : Int)).toNat = 0 := by omega
      rw [a1, a2, cut_zero, Nat.shiftLeft_eq, Nat.mul_assoc, ← Nat.pow_add, show s + (52 - n.log2 - s) = 52 - n.log2 by omega]
    · have a1 : (-(s : Int) - ((n.log2 : Int) - 52)).toNat = 0 := by omega
      have a2 : (((n.log2 : Int) - 52) - -(s : Int)).toNat = s - (52 - n.log2) := by omega
      rw [a1, a2, Nat.shiftLeft_zero]
      have e : n * 2 ^ s = (n * 2 ^ (52 - n.log2)) * 2 ^ (s - (52 - n.log2)) := by
        rw [Nat.mul_assoc, ← Nat.pow_add, show 52 - n.log2 + (s - (52 - n.log2)) = s by omega]
      rw [e]
      exact cut_exact neg _ _ (by omega)
  rw [e3]
  have hr : rungN n ≤ 9218868437227405312 := by unfold rungN; omega
  unfold rungN at *
  rw [Nat.min_eq_left hr]

theorem read_rung (neg : Bool) {n : Nat} (h : n ≠ 0) (hn : n < 9007199254740992) : DD.read (DD.word neg (rungN n)) = .number neg (n * 2 ^ (52 - n.log2)) (-((52 - n.log2 : Nat) : Int)) := by
  have hL := log2_53 h hn
  have hM := mant h hn
  have hr : 4503599627370496 ≤ rungN n ∧ rungN n < 9218868437227405312 := by unfold rungN; omega
  rw [read_word neg _ (by omega), if_neg (by omega), if_pos hr.2]
  have e1 : rungN n % 4503599627370496 = n * 2 ^ (52 - n.log2) - 4503599627370496 := by unfold rungN; omega
  have e2 : rungN n / 4503599627370496 = n.log2 + 1023 := by unfold rungN; omega
  have e3 : 4503599627370496 + (n * 2 ^ (52 - n.log2) - 4503599627370496) = n * 2 ^ (52 - n.log2) := by omega
  have e4 : (-1074 : Int) + ((n.log2 + 1023 - 1 : Nat) : Int) = -((52 - n.log2 : Nat) : Int) := by omega
  rw [e1, e2, e3, e4]

/-- a whole number's word -/
def ofI (z : Int) : Nat := floatOfInt .f64 z
theorem ofI_eq (z : Int) : ofI z = DD.nearest (decide (z < 0)) z.natAbs 0 := rfl

theorem near_whole (neg : Bool) {n : Nat} (hn : n < 9007199254740992) (s : Nat) : DD.nearest neg (n * 2 ^ s) (-(s : Int)) = DD.nearest neg n 0 := by
  by_cases h : n = 0
  · subst h
    rw [Nat.zero_mul]
    unfold Ieee.Format.nearest
    rw [if_pos rfl, if_pos rfl]
  · rw [near_scale neg h hn s]
    have := near_scale neg h hn 0
    simp only [Nat.pow_zero, Nat.mul_one] at this
    exact this.symm

theorem read_ofI {z : Int} (hz : z.natAbs < 9007199254740992) : ∃ s : Nat, DD.read (ofI z) = .number (decide (z < 0)) (z.natAbs * 2 ^ s) (-(s : Int)) := by
  rw [ofI_eq]
  by_cases h : z.natAbs = 0
  · have hz0 : z = 0 := by omega
    subst hz0
    refine ⟨1074, ?_⟩
    decide +kernel
  · have := near_scale (decide (z < 0)) h hz 0
    simp only [Nat.pow_zero, Nat.mul_one] at this
    refine ⟨52 - z.natAbs.log2, ?_⟩
    rw [show (-((0 : Nat) : Int)) = 0 by rfl] at this
    rw [this]
    exact read_rung _ h hz

theorem nan_ofI (z : Int) : nanW (ofI z) = false := nan_nearest _ _ _
theorem cn_ofI (z : Int) : cn (ofI z) = ofI z := cn_num (nan_ofI z)

theorem signed_scale (z : Int) (s u : Nat) (h : s ≤ u) : Ieee.signed (decide (z < 0)) (z.natAbs * 2 ^ s) (u - s) = z * ((2 ^ u : Nat) : Int) := by
  unfold Ieee.signed
  rw [Nat.shiftLeft_eq, Nat.mul_assoc, ← Nat.pow_add, show s + (u - s) = u by omega]
  by_cases hz : z < 0
  · rw [if_pos (by simpa using hz)]
    have : (z.natAbs : Int) = -z := by omega
    rw [Int.natCast_mul, this, Int.neg_mul, Int.neg_neg]
  · rw [if_neg (by simpa using hz)]
    have : (z.natAbs : Int) = z := by omega
    rw [Int.natCast_mul, this]

theorem add_ofI {a b : Int} (ha : a.natAbs < 9007199254740992) (hb : b.natAbs < 9007199254740992) (hc : (a + b).natAbs < 9007199254740992) : DD.add (ofI a) (ofI b) = some (ofI (a + b)) := by
  obtain ⟨s, es⟩ := read_ofI ha
  obtain ⟨t, et⟩ := read_ofI hb
  unfold Ieee.Format.add
  rw [es, et]
  simp only [Ieee.Datum.sum]
  obtain ⟨u, hu⟩ : ∃ u : Nat, u = max s t := ⟨_, rfl⟩
  have e0 : min (-(s : Int)) (-(t : Int)) = -(u : Int) := by omega
  rw [e0]
  have e1 : (-(s : Int) - -(u : Int)).toNat = u - s := by omega
  have e2 : (-(t : Int) - -(u : Int)).toNat = u - t := by omega
  rw [e1, e2, signed_scale a s u (by omega), signed_scale b t u (by omega), ← Int.add_mul]
  have hp : 0 < ((2 ^ u : Nat) : Int) := by exact_mod_cast Nat.two_pow_pos u
  have en : ((a + b) * ((2 ^ u : Nat) : Int)).natAbs = (a + b).natAbs * 2 ^ u := by rw [Int.natAbs_mul]; rfl
  have es : (if (a + b) * ((2 ^ u : Nat) : Int) = 0 then decide (a < 0) && decide (b < 0) else decide ((a + b) * ((2 ^ u : Nat) : Int) < 0)) = decide (a + b < 0) := by
    by_cases h0 : a + b = 0
    · rw [h0, Int.zero_mul, if_pos rfl]
      by_cases h1 : a < 0
      · have h2 : ¬ b < 0 := by omega
        simp [h2]
      · simp [h1]
    · rw [if_neg (Int.mul_ne_zero h0 (by omega))]
      by_cases h1 : a + b < 0
      · have : (a + b) * ((2 ^ u : Nat) : Int) < 0 := Int.mul_neg_of_neg_of_pos h1 hp
        rw [decide_eq_true this, decide_eq_true h1]
      · have : ¬ (a + b) * ((2 ^ u : Nat) : Int) < 0 := by
          have : 0 ≤ (a + b) * ((2 ^ u : Nat) : Int) := Int.mul_nonneg (by omega) (by omega)
          omega
        rw [decide_eq_false this, decide_eq_false h1]
  rw [es, en]
  simp only [Option.map_some, Ieee.Format.write]
  rw [near_whole _ hc u, ← ofI_eq]

theorem adC_ofI {a b : Int} (ha : a.natAbs < 9007199254740992) (hb : b.natAbs < 9007199254740992) (hc : (a + b).natAbs < 9007199254740992) : adC (ofI a) (ofI b) = ofI (a + b) := by
  unfold adC
  rw [add_ofI ha hb hc]
  rfl

def sumI : List Int → Int
  | [] => 0
  | x :: l => x + sumI l
theorem sumI_append (l m : List Int) : sumI (l ++ m) = sumI l + sumI m := by
  induction l with
  | nil => simp [sumI]
  | cons x l ih => simp [sumI, ih, Int.add_assoc]
theorem sumI_bound {B : Nat} {l : List Int} (h : ∀ x ∈ l, x.natAbs ≤ B) : (sumI l).natAbs ≤ B * l.length := by
  induction l with
  | nil => simp [sumI]
  | cons x l ih =>
    have h1 := h x (by simp)
    have h2 := ih (fun y hy => h y (by simp [hy]))
    simp only [sumI, List.length_cons, Nat.mul_add, Nat.mul_one]
    omega
theorem ofI_zero : ofI 0 = 0 := by decide +kernel

theorem foldC_ofI {B : Nat} (n : Nat) (hB : B * n < 9007199254740992) : ∀ l : List Int, l.length ≤ n → (∀ x ∈ l, x.natAbs ≤ B) → foldC (l.map ofI) = ofI (sumI l) := by
  intro l
  induction hk : l.length using Nat.strongRecOn generalizing l with
  | _ k ih =>
    intro hn hl
    have hb : ∀ m : List Int, m.length ≤ n → (∀ x ∈ m, x.natAbs ≤ B) → (sumI m).natAbs < 9007199254740992 := fun m h1 h2 => Nat.lt_of_le_of_lt (Nat.le_trans (sumI_bound h2) (Nat.mul_le_mul_left B h1)) hB
    match l, hk with
    | [], _ => exact ofI_zero.symm
    | [x], _ =>
      show cn (ofI x) = _
      rw [cn_ofI]
      simp [sumI]
    | x :: y :: r, hk =>
      generalize hl2 : x :: y :: r = l at *
      have h2 : 2 ≤ l.length := by rw [← hl2]; simp
      have hlen : (l.map ofI).length = l.length := by simp
      rw [foldC_two (by omega), hlen, ← List.map_take, ← List.map_drop]
      have t1 : (l.take ((l.length + 1) / 2)).length = (l.length + 1) / 2 := by rw [List.length_take]; omega
      have t2 : (l.drop ((l.length + 1) / 2)).length = l.length - (l.length + 1) / 2 := by rw [List.length_drop]
      have m1 : ∀ x ∈ l.take ((l.length + 1) / 2), x.natAbs ≤ B := fun x hx => hl x (List.mem_of_mem_take hx)
      have m2 : ∀ x ∈ l.drop ((l.length + 1) / 2), x.natAbs ≤ B := fun x hx => hl x (List.mem_of_mem_drop hx)
      rw [ih _ (by omega) _ t1 (by omega) m1, ih _ (by omega) _ t2 (by omega) m2]
      have es : sumI l = sumI (l.take ((l.length + 1) / 2)) + sumI (l.drop ((l.length + 1) / 2)) := by rw [← sumI_append, List.take_append_drop]
      rw [adC_ofI (hb _ (by omega) m1) (hb _ (by omega) m2) (by rw [← es]; exact hb l (by omega) hl), ← es]

theorem rowC_ofI {B : Nat} (n : Nat) (hB : B * n < 9007199254740992) (l : List Int) (hn : l.length ≤ n) (hl : ∀ x ∈ l, x.natAbs ≤ B) : rowC (l.map ofI) = ofI (sumI l) := by
  have hb : ∀ m : List Int, m.length ≤ n → (∀ x ∈ m, x.natAbs ≤ B) → (sumI m).natAbs < 9007199254740992 := fun m h1 h2 => Nat.lt_of_le_of_lt (Nat.le_trans (sumI_bound h2) (Nat.mul_le_mul_left B h1)) hB
  have key : ∀ k, k ≤ l.length → rowC ((l.take k).map ofI) = ofI (sumI (l.take k)) := by
    intro k
    induction k with
    | zero => intro _; exact ofI_zero.symm
    | succ k ih =>
      intro hk
      have hlt : k < l.length := by omega
      have e : l.take (k + 1) = l.take k ++ [l[k]] := by rw [List.take_add_one, List.getElem?_eq_getElem hlt]; rfl
      have m0 : ∀ j, ∀ x ∈ l.take j, x.natAbs ≤ B := fun j x hx => hl x (List.mem_of_mem_take hx)
      have m1 : l[k].natAbs ≤ B := hl _ (List.getElem_mem hlt)
      have hbk := hb (l.take k) (by rw [List.length_take]; omega) (m0 k)
      have hbs := hb (l.take (k + 1)) (by rw [List.length_take]; omega) (m0 (k + 1))
      have h1 := hb [l[k]] (by simp; omega) (by intro x hx; cases List.mem_singleton.1 hx; exact m1)
      rw [e] at hbs ⊢
      rw [List.map_append, List.map_cons, List.map_nil, rowC_snoc, ih (by omega)]
      have es : sumI (l.take k ++ [l[k]]) = sumI (l.take k) + l[k] := by rw [sumI_append]; simp [sumI]
      rw [es] at hbs ⊢
      exact adC_ofI hbk (by simpa [sumI] using h1) hbs
  have := key l.length (Nat.le_refl _)
  rwa [List.take_length] at this

end Go.Proofs.Ytliddjpcbhdplaa
