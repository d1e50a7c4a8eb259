/- Numbers that are no infinity and no NaN: that rounding keeps them so where they are not too great; no program in it. -/
import Derived.Test.YtblhafibcnokdaaFInt
namespace Go.Proofs.Ytblhafibcnokdaa

theorem div_pow_lt {n g k : Nat} (h : n < 2 ^ (g + k)) : n / 2 ^ g < 2 ^ k := by
  rw [Nat.div_lt_iff_lt_mul (Nat.two_pow_pos g), ← Nat.pow_add, Nat.add_comm k g]
  exact h

theorem cut_le (neg : Bool) (n d : Nat) (h0 : n ≠ 0) (h : n.log2 ≤ d + 52) : Ieee.Toward.even.cut neg n d ≤ 9007199254740992 := by
  unfold Ieee.Toward.cut
  have h1 := ((Nat.log2_eq_iff h0).1 rfl).2
  have hlt : n / 2 ^ (min d (n.log2 + 2)) < 2 ^ 53 := by
    refine div_pow_lt (Nat.lt_of_lt_of_le h1 (Nat.pow_le_pow_right (by decide) (by omega)))
  simp only [Nat.shiftLeft_eq, Nat.one_mul]
  have e : (2 : Nat) ^ 53 = 9007199254740992 := by decide
  rw [e] at hlt
  have hb : ∀ b : Bool, b.toNat ≤ 1 := by intro b; cases b <;> decide
  have := hb (decide (2 ^ min d (n.log2 + 2) < 2 * (n % 2 ^ min d (n.log2 + 2))) || 2 ^ min d (n.log2 + 2) == 2 * (n % 2 ^ min d (n.log2 + 2)) && n / 2 ^ min d (n.log2 + 2) % 2 == 1)
  omega

/-- no infinity, no NaN, and its last digit's place not above K -/
def Fn (K : Int) (x : Nat) : Prop := ∃ s m p, DD.read x = .number s m p ∧ m < 9007199254740992 ∧ p ≤ K

theorem fn_near (neg : Bool) (mag : Nat) (place K : Int) (h0 : mag = 0 ∨ place + mag.log2 ≤ K) (hK0 : 0 ≤ K) (hK : K ≤ 900) : Fn K (DD.nearest neg mag place) := by
  unfold Fn
  by_cases hm : mag = 0
  · unfold Ieee.Format.nearest
    rw [if_pos hm]
    refine ⟨neg, 0, -1074, ?_, by omega, by omega⟩
    rw [read_word neg 0 (by omega), if_pos (by omega)]
  · have h1 : place + mag.log2 ≤ K := by
      rcases h0 with h | h
      · exact absurd h hm
      · exact h
    unfold Ieee.Format.nearest
    rw [if_neg hm]
    simp only [dd_least, dd_frac, dd_binade, dd_inf]
    obtain ⟨last, hl⟩ : ∃ last : Int, last = max (place + (mag.log2 : Int) - ((52 : Nat) : Int)) (-1074) := ⟨_, rfl⟩
    rw [← hl]
    have hk : Ieee.Toward.even.cut neg (mag <<< (place - last).toNat) (last - place).toNat ≤ 9007199254740992 := by
      by_cases hp : last ≤ place
      · have a2 : (last - place).toNat = 0 := by omega
        rw [a2, cut_zero, Nat.shiftLeft_eq]
        have h2 := ((Nat.log2_eq_iff hm).1 rfl).2
        have h3 : (place - last).toNat ≤ 52 - mag.log2 := by omega
        have h4 := Nat.mul_lt_mul_of_pos_right h2 (Nat.two_pow_pos (place - last).toNat)
        rw [← Nat.pow_add] at h4
        have h5 : (2 : Nat) ^ (mag.log2 + 1 + (place - last).toNat) ≤ 2 ^ 53 := Nat.pow_le_pow_right (by decide) (by omega)
        have e : (2 : Nat) ^ 53 = 9007199254740992 := by decide
        omega
      · have a1 : (place - last).toNat = 0 := by omega
        rw [a1, Nat.shiftLeft_zero]
        exact cut_le neg mag _ hm (by omega)
    generalize Ieee.Toward.even.cut neg (mag <<< (place - last).toNat) (last - place).toNat = kept at hk
    have hll : last ≤ K ∧ -1074 ≤ last ∧ (last = -1074 ∨ last ≤ K - 52) := by omega
    obtain ⟨r, hr⟩ : ∃ r, r = (last - -1074).toNat * 4503599627370496 + kept := ⟨_, rfl⟩
    have hrb : r < 9218868437227405312 := by omega
    rw [← hr, Nat.min_eq_left (by omega), read_word neg r (by omega)]
    by_cases hr2 : r < 4503599627370496
    · rw [if_pos hr2]
      exact ⟨neg, r, -1074, rfl, by omega, by omega⟩
    · rw [if_neg hr2, if_pos hrb]
      exact ⟨neg, _, _, rfl, by omega, by omega⟩

theorem read_2p32 : DD.read 4751297606875873280 = .number false 4503599627370496 (-20) := by decide +kernel
theorem read_one : DD.read 4607182418800017408 = .number false 4503599627370496 (-52) := by decide +kernel

theorem fn_ofI {z : Int} (h0 : 0 ≤ z) (h : z < 4294967296) : ∃ m : Nat, ∃ s : Nat, DD.read (ofI z) = .number false m (-(s : Int)) ∧ m < 9007199254740992 := by
  by_cases hz : z.natAbs = 0
  · have hz0 : z = 0 := by omega
    subst hz0
    exact ⟨0, 1074, by decide +kernel, by decide⟩
  · have h1 := near_scale false hz (by omega) 0
    simp only [Nat.pow_zero, Nat.mul_one] at h1
    rw [show (-((0 : Nat) : Int)) = 0 by rfl] at h1
    have h2 : decide (z < 0) = false := by simp; omega
    rw [ofI_eq, h2, h1, read_rung false hz (by omega)]
    exact ⟨_, _, rfl, (mant hz (by omega)).2⟩

theorem log2_lt {n k : Nat} (h : n < 2 ^ (k + 1)) : n = 0 ∨ n.log2 ≤ k := by
  by_cases h0 : n = 0
  · exact .inl h0
  · right
    have h1 := ((Nat.log2_eq_iff h0).1 rfl).1
    have : ¬ k + 1 ≤ n.log2 := fun hk => by
      have := Nat.pow_le_pow_right (show 0 < 2 by decide) hk
      omega
    omega

theorem quo_fn {z : Int} (h0 : 0 ≤ z) (h : z < 4294967296) : ∃ q, DD.div (ofI z) 4751297606875873280 = some q ∧ Fn 20 q := by
  obtain ⟨m, s, hr, hm⟩ := fn_ofI h0 h
  unfold Ieee.Format.div
  rw [hr, read_2p32]
  simp only [Ieee.Datum.quotient, dd_frac]
  rw [if_neg (by decide)]
  obtain ⟨more, hmore⟩ : ∃ more, more = 52 + 2 + Nat.log2 4503599627370496 - m.log2 := ⟨_, rfl⟩
  rw [← hmore]
  refine ⟨_, rfl, ?_⟩
  simp only [Ieee.Format.write]
  refine fn_near _ _ _ 20 ?_ (by decide) (by decide)
  rw [Nat.shiftLeft_eq]
  have hlt : m * 2 ^ more / 4503599627370496 < 2 ^ (more + 1) := by
    have e : (4503599627370496 : Nat) = 2 ^ 52 := by decide
    rw [e]
    refine div_pow_lt ?_
    rw [show 52 + (more + 1) = 53 + more by omega, Nat.pow_add]
    exact Nat.mul_lt_mul_of_pos_right (by have : (2 : Nat) ^ 53 = 9007199254740992 := by decide
                                          omega) (Nat.two_pow_pos more)
  have hb : ∀ b : Bool, b.toNat ≤ 1 := by intro b; cases b <;> decide
  have hb1 := hb (m * 2 ^ more % 4503599627370496 != 0)
  have h2 : 2 * (m * 2 ^ more / 4503599627370496) + (m * 2 ^ more % 4503599627370496 != 0).toNat < 2 ^ (more + 1 + 1) := by
    rw [Nat.pow_succ 2 (more + 1)]
    omega
  rcases log2_lt h2 with h3 | h3
  · exact .inl h3
  · right
    omega

theorem signed_abs (s : Bool) (m u : Nat) : (Ieee.signed s m u).natAbs = m * 2 ^ u := by
  unfold Ieee.signed
  rw [Nat.shiftLeft_eq]
  cases s
  · show (((m * 2 ^ u : Nat) : Int)).natAbs = _
    exact Int.natAbs_natCast _
  · show (-(((m * 2 ^ u : Nat) : Int))).natAbs = _
    rw [Int.natAbs_neg]
    exact Int.natAbs_natCast _

theorem one_plus_fn {q : Nat} (h : Fn 20 q) : ∃ x, DD.add 4607182418800017408 q = some x ∧ Fn 80 x := by
  obtain ⟨t, n, j, hr, hn, hj⟩ := h
  unfold Ieee.Format.add
  rw [read_one, hr]
  simp only [Ieee.Datum.sum]
  obtain ⟨base, hb⟩ : ∃ base : Int, base = min (-52) j := ⟨_, rfl⟩
  rw [← hb]
  refine ⟨_, rfl, ?_⟩
  simp only [Ieee.Format.write]
  refine fn_near _ _ _ 80 ?_ (by decide) (by decide)
  obtain ⟨u, hu⟩ : ∃ u : Nat, u = (-52 - base).toNat := ⟨_, rfl⟩
  obtain ⟨v, hv⟩ : ∃ v : Nat, v = (j - base).toNat := ⟨_, rfl⟩
  rw [← hu, ← hv]
  obtain ⟨k, hk⟩ : ∃ k : Nat, k = (79 - base).toNat := ⟨_, rfl⟩
  have e52 : (2 : Nat) ^ 52 = 4503599627370496 := by decide
  have e53 : (2 : Nat) ^ 53 = 9007199254740992 := by decide
  have h1 : 4503599627370496 * 2 ^ u ≤ 2 ^ k := by
    rw [← e52, ← Nat.pow_add]
    exact Nat.pow_le_pow_right (by decide) (by omega)
  have h2 : n * 2 ^ v < 2 ^ k := by
    refine Nat.lt_of_lt_of_le (Nat.mul_lt_mul_of_pos_right hn (Nat.two_pow_pos v)) ?_
    rw [← e53, ← Nat.pow_add]
    exact Nat.pow_le_pow_right (by decide) (by omega)
  have h3 : (Ieee.signed false 4503599627370496 u + Ieee.signed t n v).natAbs < 2 ^ (k + 1) := by
    refine Nat.lt_of_le_of_lt (Int.natAbs_add_le _ _) ?_
    rw [signed_abs, signed_abs, Nat.pow_succ]
    omega
  rcases log2_lt h3 with h4 | h4
  · exact .inl h4
  · right
    omega

theorem mul_fn {x y : Nat} (hx : Fn 80 x) (hy : Fn 80 y) : ∃ r, DD.mul x y = some r := by
  obtain ⟨s, m, p, hr, _⟩ := hx
  obtain ⟨t, n, q, hq, _⟩ := hy
  unfold Ieee.Format.mul
  rw [hr, hq]
  exact ⟨_, rfl⟩

end Go.Proofs.Ytblhafibcnokdaa
