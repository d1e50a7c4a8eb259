
/- Whole numbers among the 64-bit ones, noughts of either sign: sums, folds, order, what came in; no program in it. -/
import Derived.Test.YtliddjpcbhdplaaFInt
namespace Go.Proofs.Ytliddjpcbhdplaa

def I64b (x : Int) : Prop := -9223372036854775808 ≤ x ∧ x ≤ 9223372036854775807
def sg (s : Bool) (m : Nat) : Int := if s then -(m : Int) else (m : Int)
theorem signed_sg (s : Bool) (m u : Nat) : Ieee.signed s m u = sg s m * ((2 ^ u : Nat) : Int) := by
  unfold Ieee.signed sg
  rw [Nat.shiftLeft_eq]
  cases s
  · simp
  · simp [Int.neg_mul]
/-- x stands for the whole number z -/
def Wh (x : Nat) (z : Int) : Prop := ∃ (s : Bool) (m i : Nat), DD.read x = .number s m (-(i : Int)) ∧ sg s m = z * ((2 ^ i : Nat) : Int)

theorem Wh.nan {x : Nat} {z : Int} (h : Wh x z) : nanW x = false := by
  obtain ⟨s, m, i, e, _⟩ := h
  unfold nanW
  rw [e]
  rfl
theorem Wh.cn {x : Nat} {z : Int} (h : Wh x z) : cn x = x := cn_num h.nan

theorem wh_ofI {z : Int} (hz : z.natAbs < 9007199254740992) : Wh (ofI z) z := by
  obtain ⟨s, e⟩ := read_ofI hz
  refine ⟨_, _, s, e, ?_⟩
  have := signed_scale z s s (Nat.le_refl _)
  rw [Nat.sub_self, signed_sg] at this
  simpa using this
theorem wh_zero (neg : Bool) : Wh (DD.nearest neg 0 0) 0 := by
  refine ⟨neg, 0, 1074, ?_, ?_⟩
  · cases neg <;> decide +kernel
  · rw [Int.zero_mul]
    cases neg <;> rfl

theorem two_pos (u : Nat) : 0 < ((2 ^ u : Nat) : Int) := by exact_mod_cast Nat.two_pow_pos u
theorem wh_up {s : Bool} {m i u : Nat} {z : Int} (h : sg s m = z * ((2 ^ i : Nat) : Int)) (hu : i ≤ u) : Ieee.signed s m (u - i) = z * ((2 ^ u : Nat) : Int) := by
  rw [signed_sg, h, Int.mul_assoc, ← Int.natCast_mul, ← Nat.pow_add, show i + (u - i) = u by omega]

theorem adC_wh {x y : Nat} {a b : Int} (hx : Wh x a) (hy : Wh y b) (hc : (a + b).natAbs < 9007199254740992) : Wh (adC x y) (a + b) := by
  obtain ⟨s, m, i, ex, hm⟩ := hx
  obtain ⟨t, n, j, ey, hn⟩ := hy
  unfold adC Ieee.Format.add
  rw [ex, ey]
  simp only [Ieee.Datum.sum]
  obtain ⟨u, hu⟩ : ∃ u : Nat, u = max i j := ⟨_, rfl⟩
  have e0 : min (-(i : Int)) (-(j : Int)) = -(u : Int) := by omega
  rw [e0]
  have e1 : (-(i : Int) - -(u : Int)).toNat = u - i := by omega
  have e2 : (-(j : Int) - -(u : Int)).toNat = u - j := by omega
  rw [e1, e2, wh_up hm (by omega), wh_up hn (by omega), ← Int.add_mul]
  have hp := two_pos u
  have en : ((a + b) * ((2 ^ u : Nat) : Int)).natAbs = (a + b).natAbs * 2 ^ u := by rw [Int.natAbs_mul]; rfl
  simp only [Option.map_some, Ieee.Format.write, orN]
  rw [en, near_whole _ hc u]
  by_cases h0 : a + b = 0
  · rw [h0]
    exact wh_zero _
  · rw [if_neg (Int.mul_ne_zero h0 (by omega))]
    have es : decide ((a + b) * ((2 ^ u : Nat) : Int) < 0) = decide (a + b < 0) := by
      by_cases h1 : a + b < 0
      · rw [decide_eq_true (Int.mul_neg_of_neg_of_pos h1 hp), decide_eq_true h1]
      · have : ¬ (a + b) * ((2 ^ u : Nat) : Int) < 0 := by
          have : 0 ≤ (a + b) * ((2 ^ u : Nat) : Int) := Int.mul_nonneg (by omega) (by omega)
          omega
        rw [decide_eq_false this, decide_eq_false h1]
    rw [es, ← ofI_eq]
    exact wh_ofI hc

/-- pair by pair -/
def Whs : List Nat → List Int → Prop
  | [], [] => True
  | x :: l, z :: k => Wh x z ∧ Whs l k
  | _, _ => False
theorem Whs.len : ∀ {l : List Nat} {k : List Int}, Whs l k → l.length = k.length
  | [], [], _ => rfl
  | _ :: _, _ :: _, h => by simp [Whs.len h.2]
  | [], _ :: _, h => h.elim
  | _ :: _, [], h => h.elim
theorem Whs.take : ∀ {l : List Nat} {k : List Int} (n : Nat), Whs l k → Whs (l.take n) (k.take n)
  | _, _, 0, _ => by simp [Whs]
  | [], [], _ + 1, _ => by simp [Whs]
  | _ :: _, _ :: _, n + 1, h => ⟨h.1, Whs.take n h.2⟩
  | [], _ :: _, _ + 1, h => h.elim
  | _ :: _, [], _ + 1, h => h.elim
theorem Whs.drop : ∀ {l : List Nat} {k : List Int} (n : Nat), Whs l k → Whs (l.drop n) (k.drop n)
  | _, _, 0, h => h
  | [], [], _ + 1, _ => by simp [Whs]
  | _ :: _, _ :: _, n + 1, h => Whs.drop n h.2
  | [], _ :: _, _ + 1, h => h.elim
  | _ :: _, [], _ + 1, h => h.elim
theorem whs_mk : ∀ {l : List Nat} {k : List Int}, l.length = k.length → (∀ i, i < l.length → Wh (l.getD i 0) (k.getD i 0)) → Whs l k
  | [], [], _, _ => trivial
  | x :: l, z :: k, hl, h => ⟨by simpa using h 0 (by simp), whs_mk (by simpa using hl) (fun i hi => by simpa using h (i + 1) (by simpa using hi))⟩

theorem foldC_wh {B : Nat} (n : Nat) (hB : B * n < 9007199254740992) : ∀ (l : List Nat) (k : List Int), Whs l k → l.length ≤ n → (∀ x ∈ k, x.natAbs ≤ B) → Wh (foldC l) (sumI k) := by
  intro l
  induction hk : l.length using Nat.strongRecOn generalizing l with
  | _ c ih =>
    intro k hw hn hl
    have hb : ∀ m : List Int, m.length ≤ n → (∀ x ∈ m, x.natAbs ≤ B) → (sumI m).natAbs < 9007199254740992 := fun m h1 h2 => Nat.lt_of_le_of_lt (Nat.le_trans (sumI_bound h2) (Nat.mul_le_mul_left B h1)) hB
    match l, k, hk, hw with
    | [], [], _, _ =>
      rw [foldC_nil, ← ofI_zero]
      exact wh_ofI (by decide)
    | [x], [z], _, hw =>
      rw [foldC_one, hw.1.cn]
      simpa [sumI] using hw.1
    | x :: y :: r, k, hk, hw =>
      generalize hl2 : x :: y :: r = l at *
      have h2 : 2 ≤ l.length := by rw [← hl2]; simp
      have hlen := hw.len
      rw [foldC_two (by omega)]
      have t1 : (l.take ((l.length + 1) / 2)).length = (l.length + 1) / 2 := by rw [List.length_take]; omega
      have t2 : (l.drop ((l.length + 1) / 2)).length = l.length - (l.length + 1) / 2 := by rw [List.length_drop]
      have m1 : ∀ x ∈ k.take ((l.length + 1) / 2), x.natAbs ≤ B := fun x hx => hl x (List.mem_of_mem_take hx)
      have m2 : ∀ x ∈ k.drop ((l.length + 1) / 2), x.natAbs ≤ B := fun x hx => hl x (List.mem_of_mem_drop hx)
      have es : sumI k = sumI (k.take ((l.length + 1) / 2)) + sumI (k.drop ((l.length + 1) / 2)) := by rw [← sumI_append, List.take_append_drop]
      have a1 := ih _ (by omega) _ t1 _ (hw.take _) (by omega) m1
      have a2 := ih _ (by omega) _ t2 _ (hw.drop _) (by omega) m2
      rw [es]
      exact adC_wh a1 a2 (by rw [← es]; exact hb k (by omega) hl)
    | [x], _ :: _ :: _, _, hw => exact hw.2.elim
    | [], _ :: _, _, hw => exact hw.elim
    | [_], [], _, hw => exact hw.elim

theorem order_wh {x y : Nat} {z : Int} (hx : Wh x z) (hy : Wh y z) : (DD.order x y == some .eq) = true := by
  obtain ⟨s, m, i, ex, hm⟩ := hx
  obtain ⟨t, n, j, ey, hn⟩ := hy
  unfold Ieee.Format.order
  rw [ex, ey]
  simp only [Ieee.Datum.order]
  obtain ⟨u, hu⟩ : ∃ u : Nat, u = max i j := ⟨_, rfl⟩
  have e0 : min (-(i : Int)) (-(j : Int)) = -(u : Int) := by omega
  rw [e0]
  have e1 : (-(i : Int) - -(u : Int)).toNat = u - i := by omega
  have e2 : (-(j : Int) - -(u : Int)).toNat = u - j := by omega
  rw [e1, e2, wh_up hm (by omega), wh_up hn (by omega)]
  simp

theorem read_cases (x : Nat) : (∃ (s : Bool) (m i : Nat), DD.read x = .number s m (-(i : Int)) ∧ m < 9007199254740992) ∨ (∃ (s : Bool) (m i : Nat), DD.read x = .number s m ((i : Int) + 1) ∧ 4503599627370496 ≤ m) ∨ (∃ s, DD.read x = .infinity s) ∨ ∃ s t, DD.read x = .nan s t := by
  unfold Ieee.Format.read
  simp only [dd_binade, dd_inf, dd_sign, dd_least]
  generalize (x / 9223372036854775808 % 2 == 1) = s
  generalize x % 9223372036854775808 = r
  by_cases h1 : r < 4503599627370496
  · rw [if_pos h1]
    exact .inl ⟨s, r, 1074, rfl, by omega⟩
  · rw [if_neg h1]
    by_cases h2 : r < 9218868437227405312
    · rw [if_pos h2]
      by_cases h3 : (r / 4503599627370496 - 1) ≤ 1074
      · left
        refine ⟨s, 4503599627370496 + r % 4503599627370496, 1074 - (r / 4503599627370496 - 1), ?_, ?_⟩
        · generalize 4503599627370496 + r % 4503599627370496 = mm
          generalize r / 4503599627370496 - 1 = kk at *
          rw [show (-1074 + (kk : Int)) = -((1074 - kk : Nat) : Int) by omega]
        · have := Nat.mod_lt r (show 4503599627370496 > 0 by decide); omega
      · right; left
        refine ⟨s, 4503599627370496 + r % 4503599627370496, (r / 4503599627370496 - 1) - 1075, ?_, Nat.le_add_right _ _⟩
        generalize 4503599627370496 + r % 4503599627370496 = mm
        generalize r / 4503599627370496 - 1 = kk at *
        rw [show (-1074 + (kk : Int)) = ((kk - 1075 : Nat) : Int) + 1 by omega]
    · rw [if_neg h2]
      by_cases h3 : r = 9218868437227405312
      · rw [if_pos h3]; exact .inr (.inr (.inl ⟨s, rfl⟩))
      · rw [if_neg h3]; exact .inr (.inr (.inr ⟨s, _, rfl⟩))

theorem read_lo : DD.read 13875379345695965184 = .number true 8796093022208000 (-43) := by decide +kernel
theorem read_hi : DD.read 4652007308841189376 = .number false 8796093022208000 (-43) := by decide +kernel
theorem cmp_le {a b : Int} (h : compare a b = .lt ∨ compare a b = .eq) : a ≤ b := by
  rcases h with h | h
  · exact Int.le_of_lt (Int.compare_eq_lt.1 h)
  · rw [Int.compare_eq_eq.1 h]; omega
theorem cmp_ge {a b : Int} (h : compare a b = .gt ∨ compare a b = .eq) : b ≤ a := by
  rcases h with h | h
  · exact Int.le_of_lt (Int.compare_eq_gt.1 h)
  · rw [Int.compare_eq_eq.1 h]; omega

theorem cut_zero_le (neg : Bool) (n drop : Nat) : Ieee.Toward.zero.cut neg n drop ≤ n := by
  unfold Ieee.Toward.cut
  simp only [Bool.toNat_false, Nat.add_zero]
  exact Nat.div_le_self _ _

/-- a number between -1000 and 1000 is cut to an integer, and is that one if it equals it -/
theorem whole_in {x : Nat} (h1 : (DD.order x 13875379345695965184 == some .gt || DD.order x 13875379345695965184 == some .eq) = true) (h2 : (DD.order x 4652007308841189376 == some .lt || DD.order x 4652007308841189376 == some .eq) = true) :
    ∃ n : Int, floatToIntVal .f64 x .i64 = some n ∧ I64b n ∧ ((DD.order x (ofI n) == some .eq) = true → Wh x n ∧ n.natAbs ≤ 1000) := by
  simp only [Bool.or_eq_true, beq_iff_eq] at h1 h2
  unfold Ieee.Format.order at h1 h2
  rw [read_lo] at h1
  rw [read_hi] at h2
  rcases read_cases x with ⟨s, m, i, e, hm⟩ | ⟨s, m, i, e, hm⟩ | ⟨s, e⟩ | ⟨s, t, e⟩
  · rw [e] at h1 h2
    simp only [Ieee.Datum.order, Option.some.injEq] at h1 h2
    have g1 := cmp_ge h1
    have g2 := cmp_le h2
    clear h1 h2
    obtain ⟨v, hv⟩ : ∃ v : Nat, v = max i 43 := ⟨_, rfl⟩
    have e0 : min (-(i : Int)) (-43) = -(v : Int) := by omega
    rw [e0] at g1 g2
    have e1 : (-(i : Int) - -(v : Int)).toNat = v - i := by omega
    have e2 : (-43 - -(v : Int)).toNat = v - 43 := by omega
    rw [e1, e2, signed_sg, signed_sg] at g1 g2
    have hcut := cut_zero_le s (m <<< (0 : Nat)) i
    have hsh : m <<< (0 : Nat) = m := by simp
    rw [hsh] at hcut
    have hint : (DD.read x).toInt .zero = some (sg s (Ieee.Toward.zero.cut s m i)) := by
      rw [e]
      unfold Ieee.Datum.toInt Ieee.Datum.integral
      simp only
      rw [signed_sg]
      have q1 : (-(i : Int)).toNat = 0 := by omega
      have q2 : (- -(i : Int)).toNat = i := by omega
      rw [q1, q2, hsh]
      simp
    generalize Ieee.Toward.zero.cut s m i = c at *
    have hc : c < 9007199254740992 := by omega
    have hr : IntKind.i64.min ≤ sg s c ∧ sg s c ≤ IntKind.i64.max := by
      have q1 : IntKind.i64.min = -9223372036854775808 := by decide
      have q2 : IntKind.i64.max = 9223372036854775807 := by decide
      rw [q1, q2]
      unfold sg
      split <;> omega
    refine ⟨sg s c, ?_, ?_, ?_⟩
    · unfold floatToIntVal FloatKind.decode
      rw [show FloatKind.f64.format.read x = DD.read x from rfl, hint]
      simp only
      rw [if_pos hr]
    · unfold I64b sg
      split <;> omega
    · intro ho
      have hz : (sg s c).natAbs < 9007199254740992 := by unfold sg; split <;> omega
      generalize sg s c = n at *
      obtain ⟨t, et⟩ := read_ofI hz
      unfold Ieee.Format.order at ho
      rw [e, et] at ho
      simp only [Ieee.Datum.order, beq_iff_eq, Option.some.injEq] at ho
      have ho := Int.compare_eq_eq.1 ho
      obtain ⟨u, hu⟩ : ∃ u : Nat, u = max i t := ⟨_, rfl⟩
      have f0 : min (-(i : Int)) (-(t : Int)) = -(u : Int) := by omega
      have f1 : (-(i : Int) - -(u : Int)).toNat = u - i := by omega
      have f2 : (-(t : Int) - -(u : Int)).toNat = u - t := by omega
      rw [f0, f1, f2, signed_scale n t u (by omega), signed_sg] at ho
      have hp := two_pos (u - i)
      have hw : sg s m = n * ((2 ^ i : Nat) : Int) := by
        have : n * ((2 ^ u : Nat) : Int) = n * ((2 ^ i : Nat) : Int) * ((2 ^ (u - i) : Nat) : Int) := by
          rw [Int.mul_assoc, ← Int.natCast_mul, ← Nat.pow_add, show i + (u - i) = u by omega]
        rw [this] at ho
        exact Int.eq_of_mul_eq_mul_right (by omega) ho
      refine ⟨⟨s, m, i, e, hw⟩, ?_⟩
      have k1 := wh_up hw (show i ≤ v by omega)
      rw [signed_sg] at k1
      have k2 : ((8796093022208000 : Nat) : Int) * ((2 ^ (v - 43) : Nat) : Int) = 1000 * ((2 ^ v : Nat) : Int) := by
        rw [show (8796093022208000 : Nat) = 1000 * 2 ^ 43 by decide, Int.natCast_mul, Int.mul_assoc, ← Int.natCast_mul, ← Nat.pow_add, show 43 + (v - 43) = v by omega]
        rfl
      have k3 : sg true 8796093022208000 * ((2 ^ (v - 43) : Nat) : Int) = -1000 * ((2 ^ v : Nat) : Int) := by
        have : sg true 8796093022208000 = -((8796093022208000 : Nat) : Int) := rfl
        rw [this, Int.neg_mul, k2, Int.neg_mul]
      have k4 : sg false 8796093022208000 * ((2 ^ (v - 43) : Nat) : Int) = 1000 * ((2 ^ v : Nat) : Int) := k2
      rw [k1, k3] at g1
      rw [k1, k4] at g2
      have hv2 := two_pos v
      have r1 := Int.le_of_mul_le_mul_right g1 hv2
      have r2 := Int.le_of_mul_le_mul_right g2 hv2
      omega
  · exfalso
    rw [e] at h1 h2
    simp only [Ieee.Datum.order, Option.some.injEq] at h1 h2
    have g1 := cmp_ge h1
    have g2 := cmp_le h2
    have e0 : min ((i : Int) + 1) (-43) = -43 := by omega
    rw [e0] at g1 g2
    have e1 : ((i : Int) + 1 - -43).toNat = 44 + i := by omega
    have e2 : ((-43 : Int) - -43).toNat = 0 := by omega
    rw [e1, e2, signed_sg, signed_sg] at g1 g2
    have hp : 1 ≤ 2 ^ i := Nat.one_le_two_pow
    have hb : 4503599627370496 * 2 ^ 44 ≤ m * 2 ^ (44 + i) := by
      rw [Nat.pow_add]
      have : 2 ^ 44 ≤ 2 ^ 44 * 2 ^ i := Nat.le_mul_of_pos_right _ (by omega)
      exact Nat.mul_le_mul hm this
    have hb' : (79228162514264337593543950336 : Int) ≤ (m : Int) * ((2 ^ (44 + i) : Nat) : Int) := by
      rw [← Int.natCast_mul]
      have : 4503599627370496 * 2 ^ 44 = 79228162514264337593543950336 := by decide
      omega
    have c1 : sg true 8796093022208000 * ((2 ^ 0 : Nat) : Int) = -8796093022208000 := by decide
    have c2 : sg false 8796093022208000 * ((2 ^ 0 : Nat) : Int) = 8796093022208000 := by decide
    rw [c1] at g1
    rw [c2] at g2
    generalize ((2 ^ (44 + i) : Nat) : Int) = pw at *
    cases s
    · have : sg false m = (m : Int) := rfl
      rw [this] at g1 g2
      omega
    · have : sg true m = -(m : Int) := rfl
      rw [this, Int.neg_mul] at g1 g2
      omega
  · exfalso
    rw [e] at h1 h2
    cases s <;> simp [Ieee.Datum.order] at h1 h2
  · exfalso
    rw [e] at h1
    simp [Ieee.Datum.order] at h1

end Go.Proofs.Ytliddjpcbhdplaa
