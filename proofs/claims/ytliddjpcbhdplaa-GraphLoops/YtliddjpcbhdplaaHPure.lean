
/- Plain mathematics of hooks: what each makes of a number, any NaN the same; hooks one behind the other; no program in it. -/
import Derived.Test.YtliddjpcbhdplaaTenE
import Derived.Test.YtliddjpcbhdplaaFWh
namespace Go.Proofs.Ytliddjpcbhdplaa
open Go.RowKit

/-- the number with the other sign -/
def ngN (x : Nat) : Nat := Op.negFloat .f64 x
theorem ngN_eq (x : Nat) : ngN x = x ^^^ 9223372036854775808 := rfl
theorem xor_top {r : Nat} (h : r < 9223372036854775808) : r ^^^ 9223372036854775808 = 9223372036854775808 + r := by
  have e : (9223372036854775808 : Nat) = 2 ^ 63 := by decide
  rw [e] at h ⊢
  apply Nat.eq_of_testBit_eq
  intro i
  rw [Nat.testBit_xor, Nat.testBit_two_pow]
  rcases Nat.lt_trichotomy i 63 with hi | rfl | hi
  · rw [Nat.testBit_two_pow_add_gt hi]
    have : decide (63 = i) = false := decide_eq_false (by omega)
    rw [this, Bool.xor_false]
  · rw [Nat.testBit_two_pow_add_eq]
    simp
  · have h1 : r.testBit i = false := Nat.testBit_lt_two_pow (Nat.lt_of_lt_of_le h (Nat.pow_le_pow_right (by decide) (by omega)))
    have h2 : (2 ^ 63 + r).testBit i = false := by
      apply Nat.testBit_lt_two_pow
      have : (2 : Nat) ^ 64 ≤ 2 ^ i := Nat.pow_le_pow_right (by decide) (by omega)
      have e' : (2 : Nat) ^ 64 = 2 ^ 63 + 2 ^ 63 := by decide
      omega
    rw [h1, h2]
    have : decide (63 = i) = false := decide_eq_false (by omega)
    rw [this]
    rfl
theorem ngN_word (s : Bool) {r : Nat} (h : r < 9223372036854775808) : ngN (DD.word s r) = DD.word (!s) r := by
  rw [ngN_eq]
  unfold Ieee.Format.word
  rw [dd_sign]
  cases s
  · exact xor_top h
  · show (9223372036854775808 + r) ^^^ 9223372036854775808 = r
    rw [← xor_top h, Nat.xor_assoc, Nat.xor_self, Nat.xor_zero]
theorem as_word {x : Nat} (h : W64 x) : ∃ s r, x = DD.word s r ∧ r < 9223372036854775808 := by
  unfold W64 at h
  by_cases hx : x < 9223372036854775808
  · exact ⟨false, x, rfl, hx⟩
  · refine ⟨true, x - 9223372036854775808, ?_, by omega⟩
    show x = DD.signWeight + _
    rw [dd_sign]
    omega
theorem ngN_w64 {x : Nat} (h : W64 x) : W64 (ngN x) := by
  obtain ⟨s, r, rfl, hr⟩ := as_word h
  rw [ngN_word s hr]
  unfold Ieee.Format.word W64
  rw [dd_sign]
  cases s <;> simp <;> omega
theorem read_ng {x : Nat} (h : W64 x) : DD.read (ngN x) = (DD.read x).opposite := by
  obtain ⟨s, r, rfl, hr⟩ := as_word h
  rw [ngN_word s hr, read_word _ _ hr, read_word _ _ hr]
  split
  · rfl
  · split
    · rfl
    · split <;> rfl

/-- is it not below nought? -/
def geB (x : Nat) : Bool := DD.order x 0 == some .gt || DD.order x 0 == some .eq
theorem read_zero : DD.read 0 = .number false 0 (-1074) := by decide
theorem cmp_ng {v : Int} (h : 0 ≤ v) : ¬ compare (-v) v = .gt := by
  rw [Int.compare_eq_gt]
  omega
/-- what is not below nought has its negative not above it -/
theorem ng_le {x : Nat} (h : W64 x) (hg : geB x = true) : (DD.order (ngN x) x == some .gt) = false := by
  unfold geB at hg
  unfold Ieee.Format.order at hg ⊢
  rw [read_ng h]
  rw [read_zero] at hg
  cases hx : DD.read x with
  | nan s t => rw [hx] at hg; simp [Ieee.Datum.order] at hg
  | infinity s =>
    rw [hx] at hg
    cases s
    · decide
    · simp [Ieee.Datum.order] at hg
  | number s m i =>
    rw [hx] at hg
    simp only [Ieee.Datum.order, Ieee.Datum.opposite, Int.min_self, Int.sub_self] at hg ⊢
    have hm : ∀ u, Ieee.signed (!s) m u = -Ieee.signed s m u := by
      intro u
      rw [signed_sg, signed_sg]
      unfold sg
      cases s <;> simp [Int.neg_mul]
    rw [hm]
    have h0 : 0 ≤ Ieee.signed s m (Int.toNat 0) := by
      have e0 : ∀ u, Ieee.signed false 0 u = 0 := by intro u; rw [signed_sg]; simp [sg]
      rw [e0] at hg
      have h1 : 0 ≤ Ieee.signed s m (i - min i (-1074)).toNat := by
        simp only [Bool.or_eq_true, beq_iff_eq, Option.some.injEq, Int.compare_eq_gt, Int.compare_eq_eq] at hg
        omega
      rw [signed_sg] at h1 ⊢
      have hp := two_pos (i - min i (-1074)).toNat
      have h2 : 0 ≤ sg s m := by
        apply Int.not_lt.1
        intro hlt
        have := Int.mul_neg_of_neg_of_pos hlt hp
        omega
      exact Int.mul_nonneg h2 (by have := two_pos (Int.toNat 0); omega)
    rw [beq_eq_false_iff_ne]
    intro e
    exact cmp_ng h0 (Option.some.inj e)

theorem order_nan {x : Nat} (h : nanW x = true) (y : Nat) : DD.order x y = none := by
  obtain ⟨s, t, e⟩ := read_nan h
  unfold Ieee.Format.order
  rw [e]
  cases DD.read y <;> rfl

/-- clipped to what lies between -X and X -/
def clN (X x : Nat) : Nat := if (DD.order x (ngN X) == some .lt) = true then ngN X else if (DD.order x X == some .gt) = true then X else x
theorem clN_lt {X x : Nat} (h : (DD.order x (ngN X) == some .lt) = true) : clN X x = ngN X := if_pos h
theorem clN_gt {X x : Nat} (h : (DD.order x (ngN X) == some .lt) = false) (h' : (DD.order x X == some .gt) = true) : clN X x = X := (if_neg (by rw [h]; decide)).trans (if_pos h')
theorem clN_in {X x : Nat} (h : (DD.order x (ngN X) == some .lt) = false) (h' : (DD.order x X == some .gt) = false) : clN X x = x := (if_neg (by rw [h]; decide)).trans (if_neg (by rw [h']; decide))
theorem clN_nan {X x : Nat} (h : nanW x = true) : clN X x = x := clN_in (by rw [order_nan h]; rfl) (by rw [order_nan h]; rfl)
theorem clN_w64 {X x : Nat} (h : W64 X) (h' : W64 x) : W64 (clN X x) := by
  unfold clN
  split
  · exact ngN_w64 h
  · split
    · exact h
    · exact h'

/-- a hook: what it does, and by what -/
structure Hk where
  k : Int
  x : Nat
def hnil : Hk := ⟨0, 0⟩
/-- what it makes of a number -/
def hkC (h : Hk) (x : Nat) : Nat := if h.k = 1 then muC x h.x else if h.k = 2 then cn (clN h.x x) else if h.k = 3 then 0 else cn x
theorem hkC_1 {h : Hk} (e : h.k = 1) (x : Nat) : hkC h x = muC x h.x := if_pos e
theorem hkC_2 {h : Hk} (e : h.k = 2) (x : Nat) : hkC h x = cn (clN h.x x) := (if_neg (by omega)).trans (if_pos e)
theorem hkC_3 {h : Hk} (e : h.k = 3) (x : Nat) : hkC h x = 0 := (if_neg (by omega)).trans ((if_neg (by omega)).trans (if_pos e))
theorem hkC_4 {h : Hk} (e : h.k = 4) (x : Nat) : hkC h x = cn x := (if_neg (by omega)).trans ((if_neg (by omega)).trans (if_neg (by omega)))
theorem hkC_cn (h : Hk) (x : Nat) : hkC h (cn x) = hkC h x := by
  cases hn : nanW x
  · rw [cn_num hn]
  · unfold hkC
    have h1 : muC (cn x) h.x = muC x h.x := by rw [← muC_cn (cn x) h.x, cn_cn, muC_cn]
    have h2 : cn (clN h.x (cn x)) = cn (clN h.x x) := by rw [clN_nan hn, clN_nan (by rw [nan_cn]; exact hn), cn_cn]
    rw [h1, h2, cn_cn]
theorem cn_hkC (h : Hk) (x : Nat) : cn (hkC h x) = hkC h x := by
  unfold hkC
  split
  · exact cn_muC _ _
  · split
    · exact cn_cn _
    · split
      · decide
      · exact cn_cn _
theorem endB_cn (x : Nat) : endB (cn x) = endB x := by
  cases hn : nanW x
  · rw [cn_num hn]
  · rw [endB_nan hn, endB_nan (by rw [nan_cn]; exact hn)]
theorem anyB_cn (d : List Nat) : anyB endB (d.map cn) = anyB endB d := by
  unfold anyB
  congr 1
  apply propext
  constructor
  · rintro ⟨j, hj, h⟩
    have hj' : j < d.length := by simpa using hj
    refine ⟨j, hj', ?_⟩
    have e : (d.map cn).getD j 0 = cn (d.getD j 0) := by simp [hj']
    rw [e, endB_cn] at h
    exact h
  · rintro ⟨j, hj, h⟩
    refine ⟨j, by simpa using hj, ?_⟩
    have e : (d.map cn).getD j 0 = cn (d.getD j 0) := by simp [hj]
    rw [e, endB_cn]
    exact h

/-- one hook of all numbers: none, if it is Finite and one of them is not -/
def oneH (h : Hk) (c : List Nat) : Option (List Nat) := if h.k = 4 ∧ anyB endB c = true then none else some (c.map (hkC h))
theorem oneH_bad {h : Hk} {c : List Nat} (e : h.k = 4) (b : anyB endB c = true) : oneH h c = none := if_pos ⟨e, b⟩
theorem oneH_fin {h : Hk} {c : List Nat} (b : anyB endB c = false) : oneH h c = some (c.map (hkC h)) := if_neg (fun e => by rw [b] at e; cases e.2)
theorem oneH_ok {h : Hk} {c : List Nat} (e : h.k ≠ 4) : oneH h c = some (c.map (hkC h)) := if_neg (fun q => e q.1)
/-- hooks one behind the other -/
def hkL (hs : List Hk) (c : List Nat) : Option (List Nat) := hs.foldl (fun o h => o.bind (oneH h)) (some c)
theorem foldl_none (hs : List Hk) : hs.foldl (fun o h => o.bind (oneH h)) none = (none : Option (List Nat)) := by
  induction hs with
  | nil => rfl
  | cons h t ih => exact ih
theorem hkL_nil (c : List Nat) : hkL [] c = some c := rfl
theorem hkL_app (hs ks : List Hk) (c : List Nat) : hkL (hs ++ ks) c = (hkL hs c).bind (hkL ks) := by
  unfold hkL
  rw [List.foldl_append]
  cases h : hs.foldl (fun o h => o.bind (oneH h)) (some c) with
  | none => rw [foldl_none]; rfl
  | some d => rfl
theorem take_hk {hs : List Hk} {j : Nat} (hj : j < hs.length) : hs.take (j + 1) = hs.take j ++ [hs.getD j hnil] := by
  have e : hs.getD j hnil = hs[j] := by simp [hj]
  rw [e, List.take_append_getElem]
theorem hkL_step {hs : List Hk} {j : Nat} (hj : j < hs.length) (c : List Nat) : hkL (hs.take (j + 1)) c = (hkL (hs.take j) c).bind (oneH (hs.getD j hnil)) := by
  rw [take_hk hj, hkL_app]
  cases hkL (hs.take j) c <;> rfl
theorem hkL_none {hs : List Hk} {j : Nat} {c : List Nat} (h : hkL (hs.take j) c = none) : hkL hs c = none := by
  rw [← List.take_append_drop j hs, hkL_app, h]
  rfl
theorem oneH_len {h : Hk} {c c' : List Nat} (e : oneH h c = some c') : c'.length = c.length := by
  unfold oneH at e
  split at e
  · cases e
  · cases e
    simp
theorem hkL_len : ∀ {hs : List Hk} {c c' : List Nat}, hkL hs c = some c' → c'.length = c.length
  | [], c, c', h => by cases h; rfl
  | k :: hs, c, c', h => by
    have e : hkL (k :: hs) c = (oneH k c).bind (hkL hs) := hkL_app [k] hs c
    rw [e] at h
    cases ho : oneH k c with
    | none => rw [ho] at h; cases h
    | some d =>
      rw [ho] at h
      rw [hkL_len (hs := hs) h, oneH_len ho]
theorem oneH_cn {h : Hk} {c c' : List Nat} (e : oneH h c = some c') : c'.map cn = c' := by
  unfold oneH at e
  split at e
  · cases e
  · cases e
    rw [List.map_map]
    apply List.map_congr_left
    intro x _
    exact cn_hkC h x
theorem hkL_cn : ∀ {hs : List Hk} {c c' : List Nat}, c.map cn = c → hkL hs c = some c' → c'.map cn = c'
  | [], c, c', hc, h => by cases h; exact hc
  | k :: hs, c, c', hc, h => by
    have e : hkL (k :: hs) c = (oneH k c).bind (hkL hs) := hkL_app [k] hs c
    rw [e] at h
    cases ho : oneH k c with
    | none => rw [ho] at h; cases h
    | some d =>
      rw [ho] at h
      exact hkL_cn (hs := hs) (oneH_cn ho) h

/-- is it no hook? -/
def wrB (h : Hk) : Bool := if h.k = 1 then false else if h.k = 2 then !geB h.x else if h.k = 3 ∨ h.k = 4 then DD.order h.x 0 != some .eq else true
theorem wrB_1 {h : Hk} (e : h.k = 1) : wrB h = false := if_pos e
theorem wrB_2 {h : Hk} (e : h.k = 2) : wrB h = !geB h.x := (if_neg (by omega)).trans (if_pos e)
theorem wrB_34 {h : Hk} (e : h.k = 3 ∨ h.k = 4) : wrB h = (DD.order h.x 0 != some .eq) := (if_neg (by omega)).trans ((if_neg (by omega)).trans (if_pos e))
theorem wrB_other {h : Hk} (e : ¬ (h.k = 1 ∨ h.k = 2 ∨ h.k = 3 ∨ h.k = 4)) : wrB h = true := (if_neg (by omega)).trans ((if_neg (by omega)).trans (if_neg (by omega)))
theorem wrB_kind {h : Hk} (e : wrB h = false) : h.k = 1 ∨ (h.k = 2 ∧ geB h.x = true) ∨ h.k = 3 ∨ h.k = 4 := by
  by_cases h1 : h.k = 1
  · exact .inl h1
  by_cases h2 : h.k = 2
  · rw [wrB_2 h2] at e
    exact .inr (.inl ⟨h2, by simpa using e⟩)
  by_cases h3 : h.k = 3
  · exact .inr (.inr (.inl h3))
  by_cases h4 : h.k = 4
  · exact .inr (.inr (.inr h4))
  rw [wrB_other (by omega)] at e
  cases e
def anyH (hs : List Hk) : Bool := decide (∃ j, j < hs.length ∧ wrB (hs.getD j hnil) = true)
theorem anyH_at {hs : List Hk} {k : Nat} (hk : k < hs.length) (h : wrB (hs.getD k hnil) = true) : anyH hs = true := decide_eq_true ⟨k, hk, h⟩
theorem anyH_no {hs : List Hk} (h : ∀ j, j < hs.length → wrB (hs.getD j hnil) = false) : anyH hs = false :=
  decide_eq_false (fun ⟨j, hj, e⟩ => by rw [h j hj] at e; cases e)
/-- may these be the hooks of a node? -/
def mayH (hs : List Hk) : Bool := decide (hs.length ≤ 4) && !anyH hs
theorem mayH_any {hs : List Hk} (h : anyH hs = true) : mayH hs = false := by unfold mayH; rw [h]; simp
theorem mayH_none {hs : List Hk} (h : anyH hs = false) : mayH hs = decide (hs.length ≤ 4) := by unfold mayH; rw [h]; simp
theorem mayH_long {hs : List Hk} (h : ¬ hs.length ≤ 4) : mayH hs = false := by unfold mayH; rw [decide_eq_false h]; rfl
theorem mayH_short {hs : List Hk} (h : hs.length ≤ 4) : mayH hs = !anyH hs := by unfold mayH; rw [decide_eq_true h]; rfl
theorem mayH_at {hs : List Hk} (h : mayH hs = true) {j : Nat} (hj : j < hs.length) : wrB (hs.getD j hnil) = false := by
  unfold mayH at h
  simp only [Bool.and_eq_true, Bool.not_eq_true'] at h
  have := of_decide_eq_false h.2
  cases e : wrB (hs.getD j hnil)
  · rfl
  · exact absurd ⟨j, hj, e⟩ this
theorem mayH_len {hs : List Hk} (h : mayH hs = true) : hs.length ≤ 4 := by
  unfold mayH at h
  simp only [Bool.and_eq_true] at h
  exact of_decide_eq_true h.1
theorem mayH_mk {hs : List Hk} (hl : hs.length ≤ 4) (h : ∀ j, j < hs.length → wrB (hs.getD j hnil) = false) : mayH hs = true := by rw [mayH_short hl, anyH_no h]; rfl

/-- what Do says of hooks and a tensor -/
def hoE (hs : List Hk) (s : List Int) (d : List Nat) : Int := if mayH hs = true then if mayT s d = true then if (hkL hs (d.map cn)).isSome = true then 0 else 8 else 2 else 8
def hoS (hs : List Hk) (s : List Int) (d : List Nat) : List Int := if hoE hs s d = 0 then s else []
def hoD (hs : List Hk) (s : List Int) (d : List Nat) : List Nat := if hoE hs s d = 0 then (hkL hs (d.map cn)).getD [] else []
theorem ho_may {hs : List Hk} {s : List Int} {d : List Nat} (h : mayH hs = false) : hoE hs s d = 8 ∧ hoS hs s d = [] ∧ hoD hs s d = [] := by
  have e : hoE hs s d = 8 := if_neg (by rw [h]; decide)
  exact ⟨e, if_neg (by omega), if_neg (by omega)⟩
theorem ho_ten {hs : List Hk} {s : List Int} {d : List Nat} (h : mayH hs = true) (h' : mayT s d = false) : hoE hs s d = 2 ∧ hoS hs s d = [] ∧ hoD hs s d = [] := by
  have e : hoE hs s d = 2 := (if_pos h).trans (if_neg (by rw [h']; decide))
  exact ⟨e, if_neg (by omega), if_neg (by omega)⟩
theorem ho_none {hs : List Hk} {s : List Int} {d : List Nat} (h : mayH hs = true) (h' : mayT s d = true) (hk : hkL hs (d.map cn) = none) : hoE hs s d = 8 ∧ hoS hs s d = [] ∧ hoD hs s d = [] := by
  have e : hoE hs s d = 8 := (if_pos h).trans ((if_pos h').trans (if_neg (by rw [hk]; decide)))
  exact ⟨e, if_neg (by omega), if_neg (by omega)⟩
theorem ho_some {hs : List Hk} {s : List Int} {d c : List Nat} (h : mayH hs = true) (h' : mayT s d = true) (hk : hkL hs (d.map cn) = some c) : hoE hs s d = 0 ∧ hoS hs s d = s ∧ hoD hs s d = c := by
  have e : hoE hs s d = 0 := (if_pos h).trans ((if_pos h').trans (if_pos (by rw [hk]; rfl)))
  exact ⟨e, if_pos e, (if_pos e).trans (by rw [hk]; rfl)⟩

end Go.Proofs.Ytliddjpcbhdplaa
