
/- Hooks of small whole numbers: scaled, clipped, asked, zeroed; no program in it. -/
import Derived.Test.YtlfjclnocbohbaaHPure
namespace Go.Proofs.Ytlfjclnocbohbaa
open Go.RowKit

theorem wh_near9 (neg : Bool) {n : Nat} (hn : n < 9007199254740992) : Wh (DD.nearest neg n 0) (sg neg n) := by
  by_cases h : n = 0
  · subst h
    have : sg neg 0 = 0 := by cases neg <;> rfl
    rw [this]
    exact wh_zero neg
  · have e := near_scale neg h hn 0
    rw [Nat.pow_zero, Nat.mul_one] at e
    rw [show (-((0 : Nat) : Int)) = 0 by decide] at e
    rw [e]
    refine ⟨neg, _, _, read_rung neg h hn, ?_⟩
    unfold sg
    cases neg
    · simp
    · simp [Int.neg_mul]
theorem sg_parts9 {s : Bool} {m i : Nat} {a : Int} (h : sg s m = a * ((2 ^ i : Nat) : Int)) : m = a.natAbs * 2 ^ i ∧ sg s a.natAbs = a := by
  have hp := two_pos i
  have h1 : (sg s m).natAbs = m := by unfold sg; cases s <;> simp
  have h2 := congrArg Int.natAbs h
  rw [h1, Int.natAbs_mul, Int.natAbs_natCast] at h2
  refine ⟨h2, ?_⟩
  unfold sg at *
  cases s
  · simp only [Bool.false_eq_true, if_false] at *
    have : 0 ≤ a := by
      apply Classical.byContradiction
      intro hn
      have : a * ((2 ^ i : Nat) : Int) < 0 := Int.mul_neg_of_neg_of_pos (by omega) hp
      omega
    omega
  · simp only [if_true] at *
    have : a ≤ 0 := by
      apply Classical.byContradiction
      intro hn
      have : 0 < a * ((2 ^ i : Nat) : Int) := Int.mul_pos (by omega) hp
      omega
    omega
theorem muC_wh9 {x y : Nat} {a b : Int} (hx : Wh x a) (hy : Wh y b) (hc : (a * b).natAbs < 9007199254740992) : Wh (muC x y) (a * b) := by
  obtain ⟨s, m, i, ex, hm⟩ := hx
  obtain ⟨t, n, j, ey, hn⟩ := hy
  obtain ⟨m1, m2⟩ := sg_parts9 hm
  obtain ⟨n1, n2⟩ := sg_parts9 hn
  have e : muC x y = DD.nearest (s ^^ t) (m * n) (-(i : Int) + -(j : Int)) := by
    unfold muC Ieee.Format.mul
    rw [ex, ey]
    rfl
  have e1 : m * n = (a * b).natAbs * 2 ^ (i + j) := by
    rw [m1, n1, Int.natAbs_mul, Nat.pow_add]
    simp only [Nat.mul_assoc, Nat.mul_left_comm]
  rw [e, e1, show -(i : Int) + -(j : Int) = -((i + j : Nat) : Int) by omega, near_whole _ hc (i + j)]
  have h := wh_near9 (s ^^ t) hc
  have e2 : sg (s ^^ t) (a * b).natAbs = a * b := by
    rw [Int.natAbs_mul]
    conv => rhs; rw [← m2, ← n2]
    unfold sg
    cases s <;> cases t <;> simp [Int.neg_mul, Int.mul_neg]
  rw [e2] at h
  exact h

theorem compare_scale (a b : Int) {p : Int} (hp : 0 < p) : compare (a * p) (b * p) = compare a b := by
  rcases Int.lt_trichotomy a b with h | h | h
  · rw [Int.compare_eq_lt.2 h, Int.compare_eq_lt.2 (Int.mul_lt_mul_of_pos_right h hp)]
  · subst h
    rw [Int.compare_eq_eq.2 rfl, Int.compare_eq_eq.2 rfl]
  · rw [Int.compare_eq_gt.2 h, Int.compare_eq_gt.2 (Int.mul_lt_mul_of_pos_right h hp)]
theorem order_whc {x y : Nat} {a b : Int} (hx : Wh x a) (hy : Wh y b) : DD.order x y = some (compare a b) := by
  obtain ⟨s, m, i, ex, hm⟩ := hx
  obtain ⟨t, n, j, ey, hn⟩ := hy
  unfold Ieee.Format.order
  rw [ex, ey]
  simp only [Ieee.Datum.order]
  obtain ⟨u, hu⟩ : ∃ u : Nat, u = max i j := ⟨_, rfl⟩
  have e0 : min (-(i : Int)) (-(j : Int)) = -(u : Int) := by omega
  rw [e0]
  have e1 : (-(i : Int) - -(u : Int)).toNat = u - i := by omega
  have e2 : (-(j : Int) - -(u : Int)).toNat = u - j := by omega
  rw [e1, e2, wh_up hm (by omega), wh_up hn (by omega), compare_scale a b (two_pos u)]
theorem Wh.neg {x : Nat} {a : Int} (hx : Wh x a) (h : W64 x) : Wh (ngN x) (-a) := by
  obtain ⟨s, m, i, ex, hm⟩ := hx
  refine ⟨!s, m, i, by rw [read_ng h, ex]; rfl, ?_⟩
  have : sg (!s) m = -sg s m := by unfold sg; cases s <;> simp
  rw [this, hm, Int.neg_mul]
theorem ofI_w9 (z : Int) : W64 (ofI z) := DD.nearest_lt _ _ _
theorem wh_0 : Wh 0 0 := by
  have := wh_ofI (z := 0) (by decide)
  rw [ofI_zero] at this
  exact this

/-- clipped by a whole number -/
theorem clN_wh {x : Nat} {a m : Int} (hx : Wh x a) (h0 : 0 ≤ m) (hm : m.natAbs < 9007199254740992) : Wh (clN (ofI m) x) (min (max a (-m)) m) := by
  have hX := wh_ofI hm
  have hN := hX.neg (ofI_w9 m)
  have o1 := order_whc hx hN
  have o2 := order_whc hx hX
  by_cases h1 : a < -m
  · rw [clN_lt (by rw [o1, Int.compare_eq_lt.2 h1]; rfl), show min (max a (-m)) m = -m by omega]
    exact hN
  · have q1 : (DD.order x (ngN (ofI m)) == some .lt) = false := by
      rw [o1, beq_eq_false_iff_ne]
      intro e
      exact h1 (Int.compare_eq_lt.1 (Option.some.inj e))
    by_cases h2 : m < a
    · rw [clN_gt q1 (by rw [o2, Int.compare_eq_gt.2 h2]; rfl), show min (max a (-m)) m = m by omega]
      exact hX
    · have q2 : (DD.order x (ofI m) == some .gt) = false := by
        rw [o2, beq_eq_false_iff_ne]
        intro e
        exact h2 (Int.compare_eq_gt.1 (Option.some.inj e))
      rw [clN_in q1 q2, show min (max a (-m)) m = a by omega]
      exact hx

/-- whole numbers are finite -/
theorem rung_le {r : Nat} (h : r < 9218868437227405312) : (DD.order r 9218868437227405311 == some .gt) = false := by
  have e1 := read_word false r (by omega)
  have e2 := read_word false 9218868437227405311 (by decide)
  have w1 : DD.word false r = r := rfl
  have w2 : DD.word false 9218868437227405311 = 9218868437227405311 := rfl
  rw [w1] at e1
  rw [w2] at e2
  rw [if_neg (by decide), if_pos (by decide)] at e2
  rw [beq_eq_false_iff_ne]
  unfold Ieee.Format.order
  rw [e2]
  have key : ∀ (m : Nat) (p : Int), m < 9007199254740992 → p ≤ 971 → (Ieee.Datum.number false m p).order (.number false (4503599627370496 + 9218868437227405311 % 4503599627370496) (-1074 + ((9218868437227405311 / 4503599627370496 - 1 : Nat) : Int))) ≠ some .gt := by
    intro m p hm hp
    simp only [Ieee.Datum.order]
    have e3 : (-1074 + ((9218868437227405311 / 4503599627370496 - 1 : Nat) : Int)) = 971 := by decide
    have e4 : 4503599627370496 + 9218868437227405311 % 4503599627370496 = 9007199254740991 := by decide
    rw [e3, e4, Int.min_eq_left hp, Int.sub_self]
    intro e
    have := Int.compare_eq_gt.1 (Option.some.inj e)
    rw [signed_sg, signed_sg] at this
    unfold sg at this
    simp only [Bool.false_eq_true, if_false] at this
    have hp2 := two_pos (971 - p).toNat
    have h3 : ((9007199254740991 : Nat) : Int) * 1 ≤ ((9007199254740991 : Nat) : Int) * ((2 ^ (971 - p).toNat : Nat) : Int) := Int.mul_le_mul_of_nonneg_left (by omega) (by omega)
    have h4 : ((2 ^ (Int.toNat 0) : Nat) : Int) = 1 := by decide
    rw [h4] at this
    omega
  rw [e1]
  split
  · exact key _ _ (by omega) (by omega)
  · first
    | exact key _ _ (by omega) (by omega)
    | (rw [if_pos h]; exact key _ _ (by omega) (by omega))
theorem absN_word (s : Bool) {r : Nat} (h : r < 9223372036854775808) : absN (DD.word s r) = r := by
  unfold absN
  have e : (9223372036854775807 : Nat) = 2 ^ 63 - 1 := by decide
  rw [e, Nat.and_two_pow_sub_one_eq_mod]
  unfold Ieee.Format.word
  rw [dd_sign]
  have e' : (2 : Nat) ^ 63 = 9223372036854775808 := by decide
  rw [e']
  cases s
  · simp; omega
  · simp; omega
theorem Wh.fin {x : Nat} {a : Int} (hx : Wh x a) (h : W64 x) : endB x = false := by
  rw [endB_num hx.nan]
  obtain ⟨s, m, i, ex, _⟩ := hx
  obtain ⟨t, r, rfl, hr⟩ := as_word h
  unfold infB
  rw [absN_word t hr]
  have hlt : r < 9218868437227405312 := by
    rw [read_word t r hr] at ex
    split at ex
    · omega
    · split at ex
      · assumption
      · split at ex <;> cases ex
  exact rung_le hlt

/-- the hooks of the law -/
def scH (b m : Int) (zero : Bool) : List Hk := [⟨1, ofI b⟩, ⟨2, ofI m⟩, ⟨4, 0⟩] ++ (if zero then [⟨3, 0⟩] else [])
def scZ (z b m : Int) (zero : Bool) : Int := if zero then 0 else min (max (z * b) (-m)) m
theorem scH_may {b m : Int} (h0 : 0 ≤ m) (hm : m.natAbs < 9007199254740992) (zero : Bool) : mayH (scH b m zero) = true := by
  have hg : geB (ofI m) = true := by
    unfold geB
    rw [order_whc (wh_ofI hm) wh_0]
    rcases Int.lt_trichotomy m 0 with h | h | h
    · omega
    · rw [Int.compare_eq_eq.2 h]; rfl
    · rw [Int.compare_eq_gt.2 h]; rfl
  have w1 : wrB ⟨1, ofI b⟩ = false := wrB_1 rfl
  have w2 : wrB ⟨2, ofI m⟩ = false := by rw [wrB_2 rfl]; show (!geB (ofI m)) = false; rw [hg]; rfl
  have w3 : wrB ⟨4, 0⟩ = false := by decide
  have w4 : wrB ⟨3, 0⟩ = false := by decide
  cases zero
  · refine mayH_mk (show (3 : Nat) ≤ 4 by decide) (fun j hj => ?_)
    have hj' : j < 3 := hj
    match j, hj' with
    | 0, _ => exact w1
    | 1, _ => exact w2
    | 2, _ => exact w3
  · refine mayH_mk (show (4 : Nat) ≤ 4 by decide) (fun j hj => ?_)
    have hj' : j < 4 := hj
    match j, hj' with
    | 0, _ => exact w1
    | 1, _ => exact w2
    | 2, _ => exact w3
    | 3, _ => exact w4
/-- what becomes of whole numbers -/
theorem scH_run {zs : List Int} {b m : Int} (hz : ∀ z ∈ zs, -128 ≤ z ∧ z ≤ 127) (hb : -128 ≤ b ∧ b ≤ 127) (h0 : 0 ≤ m) (hm : m ≤ 255) (zero : Bool) :
    ∃ cs, hkL (scH b m zero) ((zs.map ofI).map cn) = some cs ∧ cs.length = zs.length ∧ ∀ i, i < zs.length → Wh (cs.getD i 0) (scZ (zs.getD i 0) b m zero) := by
  have hbw : Wh (ofI b) b := wh_ofI (by omega)
  have ecn : (zs.map ofI).map cn = zs.map ofI := by
    rw [List.map_map]
    apply List.map_congr_left
    intro z _
    exact cn_ofI z
  rw [ecn]
  have pb : ∀ z ∈ zs, (z * b).natAbs < 9007199254740992 := by
    intro z h
    have h1 := hz z h
    rw [Int.natAbs_mul]
    have : z.natAbs * b.natAbs ≤ 128 * 128 := Nat.mul_le_mul (by omega) (by omega)
    omega
  have W1 : ∀ z ∈ zs, Wh (hkC ⟨1, ofI b⟩ (ofI z)) (z * b) := by
    intro z h
    rw [hkC_1 rfl]
    exact muC_wh9 (wh_ofI (by have := hz z h; omega)) hbw (pb z h)
  have W2 : ∀ z ∈ zs, Wh (hkC ⟨2, ofI m⟩ (hkC ⟨1, ofI b⟩ (ofI z))) (min (max (z * b) (-m)) m) := by
    intro z h
    rw [hkC_2 rfl]
    have := clN_wh (m := m) (W1 z h) h0 (by omega)
    show Wh (cn (clN (ofI m) _)) _
    rw [this.cn]
    exact this
  have w64_2 : ∀ z ∈ zs, W64 (hkC ⟨2, ofI m⟩ (hkC ⟨1, ofI b⟩ (ofI z))) := by
    intro z h
    rw [hkC_2 rfl]
    show W64 (cn (clN (ofI m) _))
    have e := clN_wh (m := m) (W1 z h) h0 (by omega)
    rw [e.cn]
    refine clN_w64 (ofI_w9 m) ?_
    rw [hkC_1 rfl]
    show W64 (muC (ofI z) (ofI b))
    unfold muC
    cases hmu : DD.mul (ofI z) (ofI b) with
    | some r => exact DD.mul_lt hmu
    | none => unfold orN W64; decide
  have o1 : oneH ⟨1, ofI b⟩ (zs.map ofI) = some (zs.map (fun z => hkC ⟨1, ofI b⟩ (ofI z))) := by
    rw [oneH_ok (show (1 : Int) ≠ 4 by decide), List.map_map]
    rfl
  have o2 : oneH ⟨2, ofI m⟩ (zs.map (fun z => hkC ⟨1, ofI b⟩ (ofI z))) = some (zs.map (fun z => hkC ⟨2, ofI m⟩ (hkC ⟨1, ofI b⟩ (ofI z)))) := by
    rw [oneH_ok (show (2 : Int) ≠ 4 by decide), List.map_map]
    rfl
  have fin : anyB endB (zs.map (fun z => hkC ⟨2, ofI m⟩ (hkC ⟨1, ofI b⟩ (ofI z)))) = false := by
    refine anyB_no (fun j hj => ?_)
    have hj' : j < zs.length := by simpa using hj
    have e : (zs.map (fun z => hkC ⟨2, ofI m⟩ (hkC ⟨1, ofI b⟩ (ofI z)))).getD j 0 = hkC ⟨2, ofI m⟩ (hkC ⟨1, ofI b⟩ (ofI zs[j])) := by simp [hj']
    rw [e]
    exact (W2 _ (List.getElem_mem hj')).fin (w64_2 _ (List.getElem_mem hj'))
  have o3 : oneH ⟨4, 0⟩ (zs.map (fun z => hkC ⟨2, ofI m⟩ (hkC ⟨1, ofI b⟩ (ofI z)))) = some (zs.map (fun z => hkC ⟨4, 0⟩ (hkC ⟨2, ofI m⟩ (hkC ⟨1, ofI b⟩ (ofI z))))) := by
    rw [oneH_fin fin, List.map_map]
    rfl
  have three : hkL [⟨1, ofI b⟩, ⟨2, ofI m⟩, ⟨4, 0⟩] (zs.map ofI) = some (zs.map (fun z => hkC ⟨4, 0⟩ (hkC ⟨2, ofI m⟩ (hkC ⟨1, ofI b⟩ (ofI z))))) := by
    show (((some (zs.map ofI)).bind (oneH ⟨1, ofI b⟩)).bind (oneH ⟨2, ofI m⟩)).bind (oneH ⟨4, 0⟩) = _
    rw [show (some (zs.map ofI)).bind (oneH ⟨1, ofI b⟩) = oneH ⟨1, ofI b⟩ (zs.map ofI) from rfl, o1]
    rw [show (some (zs.map (fun z => hkC ⟨1, ofI b⟩ (ofI z)))).bind (oneH ⟨2, ofI m⟩) = oneH ⟨2, ofI m⟩ (zs.map (fun z => hkC ⟨1, ofI b⟩ (ofI z))) from rfl, o2]
    exact o3
  cases zero
  · refine ⟨_, by unfold scH; rw [if_neg (by decide), List.append_nil]; exact three, by simp, fun i hi => ?_⟩
    have e : (zs.map (fun z => hkC ⟨4, 0⟩ (hkC ⟨2, ofI m⟩ (hkC ⟨1, ofI b⟩ (ofI z))))).getD i 0 = hkC ⟨4, 0⟩ (hkC ⟨2, ofI m⟩ (hkC ⟨1, ofI b⟩ (ofI zs[i]))) := by simp [hi]
    have e2 : zs.getD i 0 = zs[i] := by simp [hi]
    rw [e, e2, hkC_4 rfl]
    have := W2 _ (List.getElem_mem hi)
    rw [this.cn]
    exact this
  · refine ⟨zs.map (fun _ => 0), ?_, by simp, fun i hi => ?_⟩
    · unfold scH
      rw [if_pos rfl, hkL_app, three]
      show oneH ⟨3, 0⟩ _ = _
      rw [oneH_ok (by decide), List.map_map]
      rfl
    · have e : (zs.map (fun _ => 0)).getD i 0 = 0 := by simp [hi]
      rw [e]
      exact wh_0

end Go.Proofs.Ytlfjclnocbohbaa
