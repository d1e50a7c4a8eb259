
/- Matrices of small whole numbers: products are exact, hang on no brackets, and turn with their factors; no program in it. -/
import Derived.Test.YthofnmaobmfoiaaFWh
import Derived.Test.YthofnmaobmfoiaaMPure
namespace Go.Proofs.Ythofnmaobmfoiaa

theorem wh_near (neg : Bool) {n : Nat} (hn : n < 9007199254740992) : Wh (DD.nearest neg n 0) (sg neg n) := by
  by_cases h : n = 0
  · subst h
    have : sg neg 0 = 0 := by cases neg <;> rfl
    rw [this]
    exact wh_zero neg
  · have e := near_scale neg h hn 0
    rw [Nat.pow_zero, Nat.mul_one] at e
    rw [show (-((0 : Nat) : Int)) = 0 by decide] at e
    rw [e]
    refine ⟨neg, _, _, read_rung neg h hn, ?_⟩
    unfold sg
    cases neg
    · simp
    · simp [Int.neg_mul]

theorem sg_parts {s : Bool} {m i : Nat} {a : Int} (h : sg s m = a * ((2 ^ i : Nat) : Int)) : m = a.natAbs * 2 ^ i ∧ sg s a.natAbs = a := by
  have hp := two_pos i
  have h1 : (sg s m).natAbs = m := by unfold sg; cases s <;> simp
  have h2 := congrArg Int.natAbs h
  rw [h1, Int.natAbs_mul, Int.natAbs_natCast] at h2
  refine ⟨h2, ?_⟩
  unfold sg at *
  cases s
  · simp only [Bool.false_eq_true, if_false] at *
    have : 0 ≤ a := by
      apply Classical.byContradiction
      intro hn
      have : a * ((2 ^ i : Nat) : Int) < 0 := Int.mul_neg_of_neg_of_pos (by omega) hp
      omega
    omega
  · simp only [if_true] at *
    have : a ≤ 0 := by
      apply Classical.byContradiction
      intro hn
      have : 0 < a * ((2 ^ i : Nat) : Int) := Int.mul_pos (by omega) hp
      omega
    omega

theorem muC_wh {x y : Nat} {a b : Int} (hx : Wh x a) (hy : Wh y b) (hc : (a * b).natAbs < 9007199254740992) : Wh (muC x y) (a * b) := by
  obtain ⟨s, m, i, ex, hm⟩ := hx
  obtain ⟨t, n, j, ey, hn⟩ := hy
  obtain ⟨m1, m2⟩ := sg_parts hm
  obtain ⟨n1, n2⟩ := sg_parts hn
  have e : muC x y = DD.nearest (s ^^ t) (m * n) (-(i : Int) + -(j : Int)) := by
    unfold muC Ieee.Format.mul
    rw [ex, ey]
    rfl
  have e1 : m * n = (a * b).natAbs * 2 ^ (i + j) := by
    rw [m1, n1, Int.natAbs_mul, Nat.pow_add]
    simp only [Nat.mul_assoc, Nat.mul_left_comm]
  rw [e, e1, show -(i : Int) + -(j : Int) = -((i + j : Nat) : Int) by omega, near_whole _ hc (i + j)]
  have h := wh_near (s ^^ t) hc
  have e2 : sg (s ^^ t) (a * b).natAbs = a * b := by
    rw [Int.natAbs_mul]
    conv => rhs; rw [← m2, ← n2]
    unfold sg
    cases s <;> cases t <;> simp [Int.neg_mul, Int.mul_neg]
  rw [e2] at h
  exact h

theorem foldl_wh {B : Nat} : ∀ (l : List Nat) (k : List Int) (s : Nat) (z : Int) (c : Nat), Wh s z → Whs l k → z.natAbs ≤ B * c → B * (c + l.length) < 9007199254740992 → (∀ x ∈ k, x.natAbs ≤ B) → Wh (l.foldl adC s) (z + sumI k)
  | [], [], s, z, c, hs, _, _, _, _ => by simpa [sumI] using hs
  | x :: l, y :: k, s, z, c, hs, hw, hz, hb, hk => by
    have hy := hk y (by simp)
    have hzy : (z + y).natAbs ≤ B * (c + 1) := by rw [Nat.mul_add, Nat.mul_one]; omega
    have hb' : B * (c + 1 + l.length) < 9007199254740992 := by
      rw [List.length_cons] at hb
      rw [show c + 1 + l.length = c + (l.length + 1) by omega]
      exact hb
    have hle : B * (c + 1) ≤ B * (c + 1 + l.length) := Nat.mul_le_mul_left B (by omega)
    have h1 := adC_wh hs hw.1 (by omega)
    have := foldl_wh l k _ _ (c + 1) h1 hw.2 hzy hb' (fun x hx => hk x (by simp [hx]))
    rw [List.foldl_cons, show z + sumI (y :: k) = z + y + sumI k by simp only [sumI]; omega]
    exact this
  | [], _ :: _, _, _, _, _, hw, _, _, _ => hw.elim
  | _ :: _, [], _, _, _, _, hw, _, _, _ => hw.elim
theorem rowC_wh {B : Nat} {l : List Nat} {k : List Int} (hw : Whs l k) (hb : B * l.length < 9007199254740992) (hk : ∀ x ∈ k, x.natAbs ≤ B) : Wh (rowC l) (sumI k) := by
  have h0 : Wh 0 0 := by rw [← ofI_zero]; exact wh_ofI (by decide)
  have := foldl_wh (B := B) l k 0 0 0 h0 hw (by simp) (by rw [Nat.zero_add]; exact hb) hk
  rw [Int.zero_add] at this
  exact this

/-- a sum of m numbers -/
def sumR (m : Nat) (f : Nat → Int) : Int := sumI ((List.range m).map f)
theorem sumR_zero (f : Nat → Int) : sumR 0 f = 0 := rfl
theorem sumR_succ (m : Nat) (f : Nat → Int) : sumR (m + 1) f = sumR m f + f m := by
  unfold sumR
  rw [List.range_succ, List.map_append, sumI_append]
  simp [sumI]
theorem sumR_congr {m : Nat} {f g : Nat → Int} (h : ∀ j, j < m → f j = g j) : sumR m f = sumR m g := by
  unfold sumR
  congr 1
  apply List.map_congr_left
  intro j hj
  exact h j (List.mem_range.1 hj)
theorem sumR_add (m : Nat) (f g : Nat → Int) : sumR m (fun j => f j + g j) = sumR m f + sumR m g := by
  induction m with
  | zero => rfl
  | succ m ih => rw [sumR_succ, sumR_succ, sumR_succ, ih]; omega
theorem sumR_mul_l (m : Nat) (f : Nat → Int) (c : Int) : c * sumR m f = sumR m (fun j => c * f j) := by
  induction m with
  | zero => simp [sumR_zero]
  | succ m ih => rw [sumR_succ, sumR_succ, Int.mul_add, ih]
theorem sumR_mul_r (m : Nat) (f : Nat → Int) (c : Int) : sumR m f * c = sumR m (fun j => f j * c) := by
  rw [Int.mul_comm, sumR_mul_l]
  exact sumR_congr (fun j _ => Int.mul_comm _ _)
theorem sumR_nought (m : Nat) : sumR m (fun _ => 0) = 0 := by
  induction m with
  | zero => rfl
  | succ m ih => rw [sumR_succ, ih]; rfl
theorem sumR_swap (m n : Nat) (f : Nat → Nat → Int) : sumR m (fun i => sumR n (fun j => f i j)) = sumR n (fun j => sumR m (fun i => f i j)) := by
  induction m with
  | zero => rw [sumR_zero, ← sumR_nought n]; exact sumR_congr (fun j _ => (sumR_zero _).symm)
  | succ m ih =>
    rw [sumR_succ, ih, ← sumR_add]
    exact sumR_congr (fun j _ => (sumR_succ m (fun i => f i j)).symm)
theorem sumR_bound {m : Nat} {f : Nat → Int} {B : Nat} (h : ∀ j, j < m → (f j).natAbs ≤ B) : (sumR m f).natAbs ≤ B * m := by
  induction m with
  | zero => simp [sumR_zero]
  | succ m ih =>
    have := ih (fun j hj => h j (by omega))
    have := h m (by omega)
    rw [sumR_succ, Nat.mul_add, Nat.mul_one]
    omega

/-- products of matrices of whole numbers, by the place of a number in its row of numbers -/
def mulF (m n : Nat) (A B : Nat → Int) (q : Nat) : Int := sumR m (fun j => A (q / n * m + j) * B (j * n + q % n))
theorem mulF_at {m n i k : Nat} {A B : Nat → Int} (hk : k < n) : mulF m n A B (i * n + k) = sumR m (fun j => A (i * m + j) * B (j * n + k)) := by
  unfold mulF
  rw [(divs hk).1, (divs hk).2]
theorem mulF_assoc {m n r i l : Nat} {A B C : Nat → Int} (hl : l < r) : mulF n r (mulF m n A B) C (i * r + l) = mulF m r A (mulF n r B C) (i * r + l) := by
  rw [mulF_at hl, mulF_at hl]
  have e1 : sumR n (fun k => mulF m n A B (i * n + k) * C (k * r + l)) = sumR n (fun k => sumR m (fun j => A (i * m + j) * (B (j * n + k) * C (k * r + l)))) := by
    apply sumR_congr
    intro k hk
    rw [mulF_at hk, sumR_mul_r]
    exact sumR_congr (fun j _ => Int.mul_assoc _ _ _)
  have e2 : sumR m (fun j => A (i * m + j) * mulF n r B C (j * r + l)) = sumR m (fun j => sumR n (fun k => A (i * m + j) * (B (j * n + k) * C (k * r + l)))) := by
    apply sumR_congr
    intro j _
    rw [mulF_at hl, sumR_mul_l]
  rw [e1, e2]
  exact sumR_swap n m (fun k j => A (i * m + j) * (B (j * n + k) * C (k * r + l)))

/-- a row of numbers that stand for whole numbers of at most so much -/
structure WhM (N : Nat) (l : List Nat) (A : Nat → Int) (c : Nat) : Prop where
  len : l.length = N
  at_ : ∀ q, q < N → Wh (l.getD q 0) (A q)
  bd : ∀ q, q < N → (A q).natAbs ≤ c
theorem is_numW {r c : Nat} (h : cn r = c) (hc : nanW c = false) : r = c := by
  have : nanW r = false := by
    rw [← nan_cn, h]
    exact hc
  rw [← h, cn_num this]
theorem WhM.mul {p m n a b : Nat} {d e ds : List Nat} {A B : Nat → Int} (hd : WhM (p * m) d A a) (he : WhM (m * n) e B b) (hc : a * b * m < 9007199254740992) (h : ds.map cn = mulL p m n d e) (m1 : 1 ≤ m) : WhM (p * n) ds (mulF m n A B) (a * b * m) := by
  have hl : ds.length = p * n := by have := congrArg List.length h; rw [List.length_map, mulL_length] at this; exact this
  have hab : a * b < 9007199254740992 := Nat.lt_of_le_of_lt (Nat.le_mul_of_pos_right (a * b) m1) hc
  have hbd : ∀ i k j, i < p → k < n → j < m → (A (i * m + j) * B (j * n + k)).natAbs ≤ a * b := by
    intro i k j hi hk hj
    rw [Int.natAbs_mul]
    exact Nat.mul_le_mul (hd.bd _ (inrow hi hj)) (he.bd _ (inrow hj hk))
  refine ⟨hl, ?_, ?_⟩
  · intro q hq
    have hn : 0 < n := Nat.pos_of_ne_zero (by rintro rfl; simp at hq)
    have h1 : q / n < p := Nat.div_lt_of_lt_mul (by rw [Nat.mul_comm]; exact hq)
    have h2 : q % n < n := Nat.mod_lt _ hn
    have h3 : (q / n) * n + q % n = q := by have := Nat.div_add_mod q n; rw [Nat.mul_comm] at this; exact this
    have e1 := congrArg (fun l => l.getD q 0) h
    simp only [getD_mapcn ds q (by omega)] at e1
    rw [← h3, mulL_getD h1 h2, h3] at e1
    have hw : Wh (rowC (prodsL m n d e (q / n) (q % n))) (mulF m n A B q) := by
      refine rowC_wh (B := a * b) (whs_mk (by simp [prodsL]) ?_) (by simp [prodsL]; exact hc) ?_
      · intro j hj
        have hj' : j < m := by simpa [prodsL] using hj
        have g1 : (prodsL m n d e (q / n) (q % n)).getD j 0 = muC (d.getD (q / n * m + j) 0) (e.getD (j * n + q % n) 0) := by unfold prodsL; exact range_getD hj'
        have g2 : ((List.range m).map (fun j => A (q / n * m + j) * B (j * n + q % n))).getD j 0 = A (q / n * m + j) * B (j * n + q % n) := by simp [List.getD_eq_getElem?_getD, hj']
        rw [g1, g2]
        exact muC_wh (hd.at_ _ (inrow h1 hj')) (he.at_ _ (inrow hj' h2)) (Nat.lt_of_le_of_lt (hbd _ _ _ h1 h2 hj') hab)
      · intro x hx
        obtain ⟨j, hj, rfl⟩ := List.mem_map.1 hx
        exact hbd _ _ _ h1 h2 (List.mem_range.1 hj)
    rw [is_numW e1 hw.nan]
    exact hw
  · intro q hq
    have hn : 0 < n := Nat.pos_of_ne_zero (by rintro rfl; simp at hq)
    have h1 : q / n < p := Nat.div_lt_of_lt_mul (by rw [Nat.mul_comm]; exact hq)
    have h2 : q % n < n := Nat.mod_lt _ hn
    exact sumR_bound (fun j hj => hbd _ _ _ h1 h2 hj)

end Go.Proofs.Ythofnmaobmfoiaa
