/- Texts of our own that others begin with, in one: Pure, Base, ShapeA, RefA, Same, Stri, Plac, FPure, FBase, RealA, FNum, RealB, RealC, RealD, Opn, TenA, TenB, TenC, TenD, TenE, FInt, FWh, HPure. -/
import Derived.WalkKit
import Derived.WalkSpells
import Derived.WalkLawsBesides
import Derived.Test.YtefohemihiiceaaProg
import Derived.Deep.QuietTactic
import Derived.BigQuiet
import Derived.Laws.FloatArith
import Derived.Deep.RegionWith
import Derived.OpenShut
import Derived.ChangeSame
import Derived.Deep.Slices
import Derived.Deep.RegionHeld3
import Derived.Laws.BitsAllLaws

/- Shapes as lists of integers: products, sizes, strides, places, broadcasts; no program in it. -/
namespace Go.Proofs.Ytefohemihiiceaa

theorem getD_at {xs : List Int} {k : Nat} (hk : k < xs.length) : xs.getD k 0 = xs[k] := by simp [hk]

def prodL : List Int → Int
  | [] => 1
  | x :: r => x * prodL r

def Pos (xs : List Int) : Prop := ∀ x ∈ xs, 1 ≤ x

theorem Pos.cons {x : Int} {r : List Int} (h : Pos (x :: r)) : 1 ≤ x ∧ Pos r :=
  ⟨h x (by simp), fun y hy => h y (by simp [hy])⟩
theorem Pos.drop {xs : List Int} (h : Pos xs) (k : Nat) : Pos (xs.drop k) := fun x hx => h x (List.mem_of_mem_drop hx)
theorem Pos.take {xs : List Int} (h : Pos xs) (k : Nat) : Pos (xs.take k) := fun x hx => h x (List.mem_of_mem_take hx)
theorem Pos.getD {xs : List Int} (h : Pos xs) {k : Nat} (hk : k < xs.length) : 1 ≤ xs.getD k 0 := by
  rw [getD_at hk]; exact h _ (List.getElem_mem hk)

theorem mul_one_le {a b : Int} (ha : 1 ≤ a) (hb : 1 ≤ b) : 1 ≤ a * b := by
  have := Int.mul_le_mul ha hb (by omega) (by omega)
  simpa using this

theorem le_mul_one {a b : Int} (ha : 0 ≤ a) (hb : 1 ≤ b) : a ≤ a * b := by
  have := Int.mul_le_mul_of_nonneg_left hb ha
  simpa using this

theorem le_one_mul {a b : Int} (ha : 0 ≤ a) (hb : 1 ≤ b) : a ≤ b * a := by
  rw [Int.mul_comm]; exact le_mul_one ha hb

theorem prodL_pos : ∀ {xs : List Int}, Pos xs → 1 ≤ prodL xs
  | [], _ => by simp [prodL]
  | x :: r, h => by
    have h1 := h.cons
    exact mul_one_le h1.1 (prodL_pos h1.2)

theorem prodL_append : ∀ (xs ys : List Int), prodL (xs ++ ys) = prodL xs * prodL ys
  | [], ys => by simp [prodL]
  | x :: r, ys => by simp [prodL, prodL_append r ys, Int.mul_assoc]

theorem drop_cons {xs : List Int} {k : Nat} (hk : k < xs.length) : xs.drop k = xs.getD k 0 :: xs.drop (k + 1) := by
  rw [getD_at hk]; exact List.drop_eq_getElem_cons hk

theorem take_snoc {xs : List Int} {k : Nat} (hk : k < xs.length) : xs.take (k + 1) = xs.take k ++ [xs.getD k 0] := by
  rw [getD_at hk, List.take_succ_eq_append_getElem hk]

theorem prodL_drop {xs : List Int} {k : Nat} (hk : k < xs.length) : prodL (xs.drop k) = xs.getD k 0 * prodL (xs.drop (k + 1)) := by
  rw [drop_cons hk]; rfl

theorem prodL_take {xs : List Int} {k : Nat} (hk : k < xs.length) : prodL (xs.take (k + 1)) = prodL (xs.take k) * xs.getD k 0 := by
  rw [take_snoc hk, prodL_append]; simp [prodL]

theorem prodL_cut (xs : List Int) (k : Nat) : prodL xs = prodL (xs.take k) * prodL (xs.drop k) := by
  rw [← prodL_append, List.take_append_drop]

theorem prodL_drop_le {xs : List Int} (h : Pos xs) (k : Nat) : prodL (xs.drop k) ≤ prodL xs := by
  rw [prodL_cut xs k]
  exact le_one_mul (by have := prodL_pos (h.drop k); omega) (prodL_pos (h.take k))

theorem prodL_take_le {xs : List Int} (h : Pos xs) (k : Nat) : prodL (xs.take k) ≤ prodL xs := by
  rw [prodL_cut xs k]
  exact le_mul_one (by have := prodL_pos (h.take k); omega) (prodL_pos (h.drop k))

theorem getD_le_prodL {xs : List Int} (h : Pos xs) {k : Nat} (hk : k < xs.length) : xs.getD k 0 ≤ prodL xs := by
  have h1 := prodL_drop hk
  have h2 := prodL_drop_le h k
  have h3 := le_mul_one (a := xs.getD k 0) (by have := h.getD hk; omega) (prodL_pos (h.drop (k + 1)))
  omega

/-- what may be a shape -/
def Good (xs : List Int) : Prop := xs.length ≤ 4 ∧ Pos xs
def May (xs : List Int) : Prop := Good xs ∧ prodL xs ≤ 4096

theorem pos_iff (xs : List Int) : Pos xs ↔ ∀ k, k < xs.length → decide (1 ≤ xs.getD k 0) = true := by
  constructor
  · intro h k hk
    simpa using h.getD hk
  · intro h x hx
    obtain ⟨k, hk, rfl⟩ := List.mem_iff_getElem.1 hx
    have := h k hk
    rw [getD_at hk] at this
    simpa using this

def PosDec (xs : List Int) : Decidable (Pos xs) := decidable_of_iff _ (pos_iff xs).symm
def goodB (xs : List Int) : Bool := decide (xs.length ≤ 4) && decide (∀ k, k < xs.length → decide (1 ≤ xs.getD k 0) = true)
def mayB (xs : List Int) : Bool := goodB xs && decide (prodL xs ≤ 4096)
theorem goodB_iff (xs : List Int) : goodB xs = true ↔ Good xs := by simp only [goodB, Good, Bool.and_eq_true, decide_eq_true_eq, pos_iff]
theorem mayB_iff (xs : List Int) : mayB xs = true ↔ May xs := by simp only [mayB, May, Bool.and_eq_true, decide_eq_true_eq, goodB_iff]

/-- the size, and the error's number -/
def szN (xs : List Int) : Int := if mayB xs = true then prodL xs else 0
def szE (xs : List Int) : Int := if mayB xs = true then 0 else if goodB xs = true then 3 else 2

theorem szE_zero (xs : List Int) : (szE xs == 0) = mayB xs := by
  unfold szE
  cases h : mayB xs
  · cases h2 : goodB xs <;> simp
  · simp

theorem may_good {xs : List Int} (h : mayB xs = true) : Good xs := ((mayB_iff xs).1 h).1
theorem may_prod {xs : List Int} (h : mayB xs = true) : prodL xs ≤ 4096 := ((mayB_iff xs).1 h).2

/-- a product that is past the limit stays past it -/
theorem prod_over {xs : List Int} (h : Pos xs) {k : Nat} (hk : k < xs.length) (hp : 4096 / prodL (xs.take k) < xs.getD k 0) : 4096 < prodL xs := by
  have h1 := prodL_pos (h.take k)
  have h2 : 4096 < xs.getD k 0 * prodL (xs.take k) := (Int.ediv_lt_iff_lt_mul (by omega)).1 hp
  have h3 := prodL_take_le h (k + 1)
  rw [prodL_take hk, Int.mul_comm] at h3
  omega

theorem prod_under {xs : List Int} (h : Pos xs) {k : Nat} (hp : ¬ 4096 / prodL (xs.take k) < xs.getD k 0) : prodL (xs.take k) * xs.getD k 0 ≤ 4096 := by
  have h1 := prodL_pos (h.take k)
  have h2 : ¬ 4096 < xs.getD k 0 * prodL (xs.take k) := fun hc => hp ((Int.ediv_lt_iff_lt_mul (by omega)).2 hc)
  rw [Int.mul_comm]
  omega

/-- the product, or why there is none -/
def prN (xs : List Int) : Int := if prodL xs ≤ 4096 then prodL xs else 0
def prE (xs : List Int) : Int := if prodL xs ≤ 4096 then 0 else 3
theorem prN_yes {xs : List Int} (h : prodL xs ≤ 4096) : prN xs = prodL xs := if_pos h
theorem prE_yes {xs : List Int} (h : prodL xs ≤ 4096) : prE xs = 0 := if_pos h
theorem prN_no {xs : List Int} (h : 4096 < prodL xs) : prN xs = 0 := if_neg (Int.not_le.2 h)
theorem prE_no {xs : List Int} (h : 4096 < prodL xs) : prE xs = 3 := if_neg (Int.not_le.2 h)
theorem szN_good {xs : List Int} (h : goodB xs = true) : szN xs = prN xs := by unfold szN prN mayB; rw [h]; simp
theorem szE_good {xs : List Int} (h : goodB xs = true) : szE xs = prE xs := by unfold szE prE mayB; rw [h]; simp
theorem szN_bad {xs : List Int} (h : goodB xs = false) : szN xs = 0 := by unfold szN mayB; rw [h]; simp
theorem szE_bad {xs : List Int} (h : goodB xs = false) : szE xs = 2 := by unfold szE mayB; rw [h]; simp

/-- the strides of a shape -/
def sufs : List Int → List Int
  | [] => []
  | _ :: r => prodL r :: sufs r

theorem sufs_length : ∀ xs : List Int, (sufs xs).length = xs.length
  | [] => rfl
  | _ :: r => by simp [sufs, sufs_length r]

theorem sufs_drop : ∀ (xs : List Int) (k : Nat), (sufs xs).drop k = sufs (xs.drop k)
  | xs, 0 => by simp
  | [], k + 1 => by simp [sufs]
  | _ :: r, k + 1 => by simpa [sufs] using sufs_drop r k

theorem sufs_getD : ∀ (xs : List Int) (k : Nat), k < xs.length → (sufs xs).getD k 0 = prodL (xs.drop (k + 1))
  | _ :: r, 0, _ => by simp [sufs]
  | _ :: r, k + 1, h => by
    have := sufs_getD r k (by simpa using h)
    simpa [sufs] using this

def strN (xs : List Int) : List Int := if mayB xs = true then sufs xs else []

/-- where a place stands -/
def idx : List Int → List Int → Int
  | _ :: rs, a :: ra => a * prodL rs + idx rs ra
  | _, _ => 0

def Inside (s at_ : List Int) : Prop := ∀ k, k < s.length → 0 ≤ at_.getD k 0 ∧ at_.getD k 0 < s.getD k 0
def insB (s at_ : List Int) : Bool := decide (∀ k, k < s.length → (decide (0 ≤ at_.getD k 0) && decide (at_.getD k 0 < s.getD k 0)) = true)
theorem insB_iff (s at_ : List Int) : insB s at_ = true ↔ Inside s at_ := by
  simp only [insB, Inside, Bool.and_eq_true, decide_eq_true_eq]

theorem Inside.cons {s a : Int} {rs ra : List Int} (h : Inside (s :: rs) (a :: ra)) : (0 ≤ a ∧ a < s) ∧ Inside rs ra :=
  ⟨by simpa using h 0 (by simp), fun k hk => by simpa using h (k + 1) (by simpa using hk)⟩

theorem idx_bounds : ∀ {s a : List Int}, a.length = s.length → Inside s a → 0 ≤ idx s a ∧ idx s a < prodL s
  | [], [], _, _ => by simp [idx, prodL]
  | s :: rs, a :: ra, hl, h => by
    have h1 := h.cons
    have h2 := idx_bounds (s := rs) (a := ra) (by simpa using hl) h1.2
    have h3 : 0 ≤ a * prodL rs := Int.mul_nonneg h1.1.1 (by omega)
    have h4 : (a + 1) * prodL rs ≤ s * prodL rs := Int.mul_le_mul_of_nonneg_right (by omega) (by omega)
    rw [Int.add_mul, Int.one_mul] at h4
    simp only [idx, prodL]
    omega

theorem idx_drop {s a : List Int} (hl : a.length = s.length) {k : Nat} (hk : k < s.length) :
    idx (s.drop k) (a.drop k) = a.getD k 0 * prodL (s.drop (k + 1)) + idx (s.drop (k + 1)) (a.drop (k + 1)) := by
  rw [drop_cons hk, drop_cons (xs := a) (by omega)]
  simp [idx]

theorem Inside.drop {s a : List Int} (h : Inside s a) (k : Nat) : Inside (s.drop k) (a.drop k) := by
  intro j hj
  have h1 := h (k + j) (by simp at hj; omega)
  simpa [List.getD_eq_getElem?_getD] using h1

theorem idx_drop_le {s a : List Int} (hp : Pos s) (hl : a.length = s.length) (h : Inside s a) : ∀ k, idx (s.drop k) (a.drop k) ≤ idx s a
  | 0 => by simp
  | k + 1 => by
    have ih := idx_drop_le hp hl h k
    by_cases hk : k < s.length
    · rw [idx_drop hl hk] at ih
      have h1 := (h k hk).1
      have h2 := prodL_pos (hp.drop (k + 1))
      have h3 : 0 ≤ a.getD k 0 * prodL (s.drop (k + 1)) := Int.mul_nonneg h1 (by omega)
      omega
    · rw [List.drop_of_length_le (l := s) (by omega), List.drop_of_length_le (l := a) (by omega)]
      have := idx_bounds hl h
      simp [idx]
      omega

theorem idx_snoc : ∀ {s a : List Int} (m x : Int), a.length = s.length → idx (s ++ [m]) (a ++ [x]) = idx s a * m + x
  | [], [], m, x, _ => by simp [idx, prodL]
  | t :: s, y :: a, m, x, h => by
    have ih := idx_snoc (s := s) (a := a) m x (by simpa using h)
    simp only [List.cons_append, idx, ih, prodL_append, prodL, Int.mul_one]
    rw [Int.add_mul, Int.mul_assoc]
    omega

theorem idx_take {s a : List Int} (hl : a.length = s.length) {k : Nat} (hk : k < s.length) : idx (s.take (k + 1)) (a.take (k + 1)) = idx (s.take k) (a.take k) * s.getD k 0 + a.getD k 0 := by
  rw [take_snoc hk, take_snoc (xs := a) (by omega), idx_snoc]
  simp [hl]

theorem inside_take {s a : List Int} {k : Nat} (hk : k ≤ s.length) (hl : a.length = s.length) (h : ∀ j, j < k → 0 ≤ a.getD j 0 ∧ a.getD j 0 < s.getD j 0) : Inside (s.take k) (a.take k) := by
  intro j hj
  have hj' : j < k := by simp at hj; omega
  have := h j hj'
  simpa [List.getD_eq_getElem?_getD, List.getElem?_take, hj'] using this

def ixN (s at_ : List Int) : Int := if mayB s = true ∧ at_.length = s.length ∧ insB s at_ = true then idx s at_ else -1

/-- the place that stands at a number -/
def plc : List Int → Int → List Int
  | [], _ => []
  | _ :: r, i => i / prodL r :: plc r (i % prodL r)

theorem plc_length : ∀ (s : List Int) (i : Int), (plc s i).length = s.length
  | [], _ => rfl
  | _ :: r, i => by simp [plc, plc_length r]

theorem idx_plc : ∀ {s : List Int} {i : Int}, Pos s → 0 ≤ i → i < prodL s → idx s (plc s i) = i ∧ Inside s (plc s i)
  | [], i, _, h0, h1 => by
    simp [prodL] at h1
    refine ⟨by simp [idx]; omega, fun k hk => by simp at hk⟩
  | n :: r, i, hp, h0, h1 => by
    have hp' := hp.cons
    have hr := prodL_pos hp'.2
    have g0 := Int.emod_nonneg i (b := prodL r) (by omega)
    have g1 := Int.emod_lt_of_pos i (b := prodL r) (by omega)
    have ih := idx_plc hp'.2 g0 g1
    have hd : i / prodL r < n := Int.ediv_lt_of_lt_mul (by omega) (by simpa [prodL] using h1)
    have hn : 0 ≤ i / prodL r := Int.ediv_nonneg h0 (by omega)
    refine ⟨?_, ?_⟩
    · simp only [plc, idx, ih.1]
      rw [Int.mul_comm]
      exact Int.mul_ediv_add_emod i (prodL r)
    · intro k hk
      match k, hk with
      | 0, _ => simpa [plc] using ⟨hn, hd⟩
      | k + 1, hk => simpa [plc] using ih.2 k (by simpa using hk)

theorem plc_drop : ∀ (s : List Int) (i : Int) (k : Nat), k < s.length → ∃ j, (plc s i).drop k = plc (s.drop k) j ∧ plc s i = (plc s i).take k ++ plc (s.drop k) j
  | s, i, 0, _ => ⟨i, by simp, by simp⟩
  | n :: r, i, k + 1, h => by
    obtain ⟨j, h1, h2⟩ := plc_drop r (i % prodL r) k (by simpa using h)
    refine ⟨j, by simpa [plc] using h1, ?_⟩
    simp only [plc, List.take_succ_cons, List.cons_append, List.drop_succ_cons]
    rw [← h2]

theorem mod_mul_div {i m p : Int} (h0 : 0 ≤ i) (hm : 1 ≤ m) (hp : 1 ≤ p) : (i % (m * p)) / p = (i / p) % m ∧ (i % (m * p)) % p = i % p ∧ i / p / m = i / (m * p) := by
  obtain ⟨a, rfl⟩ := Int.eq_ofNat_of_zero_le h0
  obtain ⟨b, rfl⟩ := Int.eq_ofNat_of_zero_le (show 0 ≤ m by omega)
  obtain ⟨c, rfl⟩ := Int.eq_ofNat_of_zero_le (show 0 ≤ p by omega)
  refine ⟨?_, ?_, ?_⟩
  · have h := Nat.mod_mul_right_div_self a c b
    rw [Nat.mul_comm] at h
    exact_mod_cast h
  · have h := Nat.mod_mul_left_mod a b c
    exact_mod_cast h
  · have h := Nat.div_div_eq_div_mul a c b
    rw [Nat.mul_comm] at h
    exact_mod_cast h

theorem plc_down {s : List Int} {i : Int} (hp : Pos s) (h0 : 0 ≤ i) {k : Nat} (hk : k < s.length) :
    plc (s.drop k) (i % prodL (s.drop k)) = (i / prodL (s.drop (k + 1))) % s.getD k 0 :: plc (s.drop (k + 1)) (i % prodL (s.drop (k + 1))) ∧ i / prodL (s.drop (k + 1)) / s.getD k 0 = i / prodL (s.drop k) := by
  have h := mod_mul_div (i := i) h0 (hp.getD hk) (prodL_pos (hp.drop (k + 1)))
  rw [prodL_drop hk, drop_cons hk]
  simp only [plc]
  rw [h.1, h.2.1, h.2.2]
  exact ⟨rfl, rfl⟩

theorem plc_wf : ∀ {s : List Int} {i : Int}, Pos s → 0 ≤ i → i < prodL s → ∀ x ∈ plc s i, 0 ≤ x ∧ x < prodL s := by
  intro s i hp h0 h1 x hx
  obtain ⟨k, hk, rfl⟩ := List.mem_iff_getElem.1 hx
  have hi := (idx_plc hp h0 h1).2
  rw [plc_length] at hk
  have h2 := hi k hk
  have h3 := getD_le_prodL hp hk
  rw [getD_at (by rw [plc_length]; exact hk)] at h2
  omega

def plN (s : List Int) (i : Int) : List Int := if mayB s = true ∧ 0 ≤ i ∧ i < prodL s then plc s i else []

theorem ixN_yes {s a : List Int} (h1 : mayB s = true) (h2 : a.length = s.length) (h3 : insB s a = true) : ixN s a = idx s a := if_pos ⟨h1, h2, h3⟩
theorem ixN_no {s a : List Int} (h : mayB s = false ∨ a.length ≠ s.length ∨ insB s a = false) : ixN s a = -1 := by
  refine if_neg (fun h' => ?_)
  rcases h with h | h | h
  · rw [h'.1] at h; cases h
  · exact h h'.2.1
  · rw [h'.2.2] at h; cases h
theorem plN_yes {s : List Int} {i : Int} (h1 : mayB s = true) (h2 : 0 ≤ i) (h3 : i < prodL s) : plN s i = plc s i := if_pos ⟨h1, h2, h3⟩
theorem plN_no {s : List Int} {i : Int} (h : mayB s = false ∨ i < 0 ∨ prodL s ≤ i) : plN s i = [] := by
  refine if_neg (fun h' => ?_)
  rcases h with h | h | h
  · rw [h'.1] at h; cases h
  · omega
  · omega

/-- the k-th number from the end, or 1 -/
def fe (xs : List Int) (k : Nat) : Int := if k < xs.length then xs.getD (xs.length - 1 - k) 0 else 1
theorem fe_in {xs : List Int} {k : Nat} (h : k < xs.length) : fe xs k = xs.getD (xs.length - 1 - k) 0 := if_pos h
theorem fe_out {xs : List Int} {k : Nat} (h : xs.length ≤ k) : fe xs k = 1 := if_neg (by omega)
theorem fe_pos {xs : List Int} (h : Pos xs) (k : Nat) : 1 ≤ fe xs k := by
  by_cases hk : k < xs.length
  · rw [fe_in hk]; exact h.getD (by omega)
  · rw [fe_out (by omega)]; omega

/-- may the two numbers stand at one place? -/
def agB (x y : Int) : Bool := x == y || x == 1 || y == 1
def agAll (a b : List Int) : Bool := decide (∀ k, k < max a.length b.length → agB (fe a k) (fe b k) = true)
/-- the numbers of both, from the end -/
def joinR (a b : List Int) : Nat → List Int
  | 0 => []
  | k + 1 => max (fe a k) (fe b k) :: joinR a b k
/-- both, joined -/
def joinL (a b : List Int) : List Int := joinR a b (max a.length b.length)
theorem joinR_length (a b : List Int) : ∀ k, (joinR a b k).length = k
  | 0 => rfl
  | k + 1 => by simp [joinR, joinR_length a b k]
theorem joinL_length (a b : List Int) : (joinL a b).length = max a.length b.length := joinR_length _ _ _

def sprE (a b : List Int) : Int := if mayB a = true ∧ mayB b = true ∧ agAll a b = true then szE (joinL a b) else 2
def sprL (a b : List Int) : List Int := if mayB a = true ∧ mayB b = true ∧ agAll a b = true ∧ mayB (joinL a b) = true then joinL a b else []
def intoB (a b : List Int) : Bool := sprE a b == 0 && decide (sprL a b = b)

theorem spr_no {a b : List Int} (h : mayB a = false ∨ mayB b = false ∨ agAll a b = false) : sprE a b = 2 ∧ sprL a b = [] := by
  constructor
  · refine if_neg (fun h' => ?_)
    rcases h with h | h | h <;> simp_all
  · refine if_neg (fun h' => ?_)
    rcases h with h | h | h <;> simp_all
theorem sprE_yes {a b : List Int} (h1 : mayB a = true) (h2 : mayB b = true) (h3 : agAll a b = true) : sprE a b = szE (joinL a b) := if_pos ⟨h1, h2, h3⟩
theorem sprL_yes {a b : List Int} (h1 : mayB a = true) (h2 : mayB b = true) (h3 : agAll a b = true) (h4 : mayB (joinL a b) = true) : sprL a b = joinL a b := if_pos ⟨h1, h2, h3, h4⟩
theorem sprL_big {a b : List Int} (h4 : mayB (joinL a b) = false) : sprL a b = [] := if_neg (fun h => by rw [h.2.2.2] at h4; cases h4)

theorem agB_comm (x y : Int) : agB x y = agB y x := by
  unfold agB
  rw [Bool.eq_iff_iff]
  simp
  omega

theorem joinR_comm (a b : List Int) : ∀ k, joinR a b k = joinR b a k
  | 0 => rfl
  | k + 1 => by simp only [joinR, joinR_comm a b k, Int.max_comm]

theorem joinL_comm (a b : List Int) : joinL a b = joinL b a := by unfold joinL; rw [joinR_comm, Nat.max_comm]
theorem agAll_comm (a b : List Int) : agAll a b = agAll b a := by
  unfold agAll
  rw [Nat.max_comm]
  have : (fun k => agB (fe a k) (fe b k)) = fun k => agB (fe b k) (fe a k) := funext fun k => agB_comm _ _
  rw [Bool.eq_iff_iff]
  simp only [decide_eq_true_eq, agB_comm]

theorem sprE_comm (a b : List Int) : sprE a b = sprE b a := by
  unfold sprE
  rw [agAll_comm, joinL_comm]
  by_cases h1 : mayB a = true <;> by_cases h2 : mayB b = true <;> simp [h1, h2]

theorem sprL_comm (a b : List Int) : sprL a b = sprL b a := by
  unfold sprL
  rw [agAll_comm, joinL_comm]
  by_cases h1 : mayB a = true <;> by_cases h2 : mayB b = true <;> simp [h1, h2]

end Go.Proofs.Ytefohemihiiceaa

/- What a call leaves of memory, slices of integers as lists, blocks of the call's own; no program in it. -/
namespace Go.Proofs.Ytefohemihiiceaa
open Go.RowKit

theorem hide {p : Prop} (h : p) : Hid p := h
theorem unhide {p : Prop} (h : Hid p) : p := h
/-- nothing that was there has turned -/
def Kp (w w' : World) : Prop := Below w.heap.size w w'
theorem Kp.refl (w : World) : Kp w w := Below.refl _ _
theorem Kp.trans {a b c : World} (h : Kp a b) (k : Kp b c) : Kp a c := Below.trans h (Below.mono k h.size)
theorem Kp.size {a b : World} (h : Kp a b) : a.heap.size ≤ b.heap.size := Below.size h
theorem Kp.alloc (w : World) (o : Obj) : Kp w (w.alloc o) := (Below.refl _ _).alloc (Nat.le_refl _) o
theorem Kp.drew (w : World) : Kp w w.drew := (Below.refl _ _).drew
theorem Kp.drewN (w : World) : ∀ n, Kp w (w.drewN n)
  | 0 => Kp.refl w
  | n + 1 => by
    have h := Kp.drewN w n
    exact ⟨h.os, h.tape, h.output, h.size, h.block⟩
theorem Kp.set {a b : World} (h : Kp a b) {B i : Nat} (hB : a.heap.size ≤ B) (v : Value) : Kp a (b.setCell ⟨B, i, none⟩ v) := Below.setCell h hB v

theorem ret_bool {a b : Bool} (h : a = b) : Ending.returned (.bool a) = .returned (.bool b) := by rw [h]
theorem ret_int {k : IntKind} {a b : Int} (h : a = b) : Ending.returned (.int k a) = .returned (.int k b) := by rw [h]
theorem ret_two {k l : IntKind} {a b c d : Int} (h : a = b) (h' : c = d) : Ending.returned (.tuple #[.int k a, .int l c]) = .returned (.tuple #[.int k b, .int l d]) := by rw [h, h']
theorem ret_vi {v : Value} {l : IntKind} {c d : Int} (h' : c = d) : Ending.returned (.tuple #[v, .int l c]) = .returned (.tuple #[v, .int l d]) := by rw [h']

/-- an int of Go's -/
def I64 (x : Int) : Prop := -9223372036854775808 ≤ x ∧ x ≤ 9223372036854775807

/-- the slice value v reads as the numbers xs -/
structure Ints (w : World) (v : Value) (xs : List Int) : Prop where
  wf : ∀ x ∈ xs, I64 x
  room : xs.length * 8 ≤ 140737488351232
  nonil : ∀ n c, v = .slice none n c → n = 0 ∧ c = 0
  val : ∃ a cap, v = .slice a xs.length cap ∧ (0 < xs.length → ∃ b off, a = some ⟨b, off, none⟩ ∧ b < w.heap.size ∧ ∀ i, i < xs.length → w.cell? ⟨b, off + i, none⟩ = some (.int .i64 (xs.getD i 0)))

theorem Ints.nil (w : World) : Ints w (.slice none 0 0) [] := ⟨by simp, by simp, by intro n c h; cases h; exact ⟨rfl, rfl⟩, none, 0, rfl, by simp⟩

theorem Ints.keep {w w' : World} {v : Value} {xs : List Int} (h : Ints w v xs) (k : Kp w w') : Ints w' v xs := by
  obtain ⟨h1, h2, h0, a, cap, rfl, h3⟩ := h
  refine ⟨h1, h2, h0, a, cap, rfl, fun hp => ?_⟩
  obtain ⟨b, off, rfl, hb, hc⟩ := h3 hp
  exact ⟨b, off, rfl, by have := k.size; omega, fun i hi => (Below.cell k (p := ⟨b, off + i, none⟩) hb).trans (hc i hi)⟩

theorem Ints.opn {w : World} {v : Value} {xs : List Int} {n : Nat} (h : Ints w v xs) (hn : xs.length = n) : ∃ a cap, v = .slice a n cap ∧ Hid (0 < n → ∃ b off, a = some ⟨b, off, none⟩ ∧ b < w.heap.size ∧ ∀ i, i < n → w.cell? ⟨b, off + i, none⟩ = some (.int .i64 (xs.getD i 0))) := by
  subst hn
  exact h.val

theorem Ints.getD {w : World} {v : Value} {xs : List Int} (h : Ints w v xs) {k : Nat} (hk : k < xs.length) : -9223372036854775808 ≤ xs.getD k 0 ∧ xs.getD k 0 ≤ 9223372036854775807 := by
  have e : xs.getD k 0 = xs[k] := by simp [hk]
  rw [e]
  exact h.wf _ (List.getElem_mem hk)

/-- block B holds the numbers ys, and is not frozen -/
def Blk (w : World) (e : TypeId) (B : Nat) (ys : List Int) : Prop := w.heap[B]? = some (.cells (ys.map (Value.int .i64)).toArray e)

theorem Blk.lt {w : World} {e : TypeId} {B : Nat} {ys : List Int} (h : Blk w e B ys) : B < w.heap.size := by
  unfold Blk at h
  exact (Array.getElem?_eq_some_iff.1 h).1

theorem Blk.cell {w : World} {e : TypeId} {B : Nat} {ys : List Int} (h : Blk w e B ys) {i : Nat} (hi : i < ys.length) : w.cell? ⟨B, i, none⟩ = some (.int .i64 (ys.getD i 0)) := by
  unfold Blk at h
  simp [World.cell?, h, hi]

theorem Blk.frozen {w : World} {e : TypeId} {B : Nat} {ys : List Int} (h : Blk w e B ys) (i : Nat) : w.frozen? ⟨B, i, none⟩ = false := by
  unfold Blk at h
  simp [World.frozen?, h]

theorem Blk.set {w : World} {e : TypeId} {B : Nat} {ys : List Int} (h : Blk w e B ys) (i : Nat) (x : Int) : Blk (w.setCell ⟨B, i, none⟩ (.int .i64 x)) e B (ys.set i x) := by
  unfold Blk at h ⊢
  simp [World.setCell, Array.getElem?_modify, h, List.map_set]

theorem Blk.keep {w w' : World} {e : TypeId} {B : Nat} {ys : List Int} (h : Blk w e B ys) (k : Kp w w') : Blk w' e B ys := by
  unfold Blk
  rw [k.block B h.lt]
  exact h

theorem Blk.made (w : World) (e : TypeId) (n : Nat) : Blk (w.alloc (.cells (madeCells #[.int .i64 0] n) e)) e w.heap.size (List.replicate n 0) := by
  unfold Blk
  simp only [World.alloc, Array.getElem?_push_size]
  congr 2
  apply Array.ext
  · simp [madeCells]
  · intro i h1 h2
    simp [madeCells, Nat.mod_one]

theorem Blk.ints {w : World} {e : TypeId} {B n cap : Nat} {ys : List Int} (h : Blk w e B ys) (hn : ys.length = n) (hw : ∀ x ∈ ys, I64 x) (hr : n * 8 ≤ 140737488351232) : Ints w (.slice (some ⟨B, 0, none⟩) n cap) ys := by
  refine ⟨hw, by omega, (by intro n c h; cases h), some ⟨B, 0, none⟩, cap, by rw [hn], fun _ => ⟨B, 0, rfl, h.lt, fun i hi => ?_⟩⟩
  rw [Nat.zero_add]
  exact h.cell hi

theorem getD_set_same {ys : List Int} {i : Nat} {x : Int} (h : i < ys.length) : (ys.set i x).getD i 0 = x := by simp [h]

theorem fill_down {k : Nat} {x : Int} {r : List Int} : (List.replicate (k + 1) 0 ++ r).set k x = List.replicate k 0 ++ x :: r := by
  rw [List.replicate_succ', List.append_assoc, List.set_append_right _ _ (by simp)]
  simp

theorem fill_up {k : Nat} {x : Int} {l r : List Int} (hl : l.length = k) : (l ++ 0 :: r).set k x = (l ++ [x]) ++ r := by
  subst hl
  rw [List.set_append_right _ _ (by simp)]
  simp

/-- of what was there only block B may have turned -/
def Kx (B : Nat) (w w' : World) : Prop := w.grownBy w' (some B)
theorem Kx.refl (B : Nat) (w : World) : Kx B w w := ⟨rfl, rfl, rfl, Nat.le_refl _, fun _ _ _ => rfl⟩
theorem Kx.size {B : Nat} {a b : World} (h : Kx B a b) : a.heap.size ≤ b.heap.size := World.grownBy.size h
theorem Kx.set {B : Nat} {a b : World} (h : Kx B a b) (i : Nat) (v : Value) : Kx B a (b.setCell ⟨B, i, none⟩ v) :=
  ⟨h.os, h.tape, h.output, by simpa using h.size, fun k hk hne => (Below.heap_setCell b ⟨B, i, none⟩ v k (fun e => hne (by rw [e]))).trans (h.block k hk hne)⟩
theorem Kx.kp {B : Nat} {a b c : World} (h : Kx B a b) (k : Kp b c) : Kx B a c :=
  ⟨k.os.trans h.os, k.tape.trans h.tape, k.output.trans h.output, Nat.le_trans h.size k.size, fun i hi hne => (k.block i (Nat.lt_of_lt_of_le hi h.size)).trans (h.block i hi hne)⟩
theorem Kx.after {B : Nat} {a b c : World} (h : Kp a b) (k : Kx B b c) (hB : a.heap.size ≤ B) : Kp a c :=
  ⟨k.os.trans h.os, k.tape.trans h.tape, k.output.trans h.output, Nat.le_trans h.size k.size, fun i hi => (k.block i (Nat.lt_of_lt_of_le hi h.size) (fun e => by cases e; omega)).trans (h.block i hi)⟩
theorem Kx.cell {B : Nat} {a b : World} (h : Kx B a b) {p : Addr} (hp : p.block < a.heap.size) (hne : p.block ≠ B) : b.cell? p = a.cell? p :=
  World.cell?_of_block (w := a) (h.block p.block hp (fun e => hne (by cases e; rfl)))

/-- the slice, if it has an array, has one that was not there -/
def Fresh (w : World) (u : Value) : Prop := ∀ ad n c, u = .slice (some ad) n c → w.heap.size ≤ ad.block
theorem Fresh.nil (w : World) (n c : Nat) : Fresh w (.slice none n c) := by intro ad n c h; cases h
theorem Fresh.mk {w : World} {b o n c : Nat} (h : w.heap.size ≤ b) : Fresh w (.slice (some ⟨b, o, none⟩) n c) := by intro ad n' c' e; cases e; exact h
theorem Fresh.back {w w' : World} {u : Value} (h : Fresh w' u) (k : Kp w w') : Fresh w u := fun ad n c e => Nat.le_trans k.size (h ad n c e)
theorem Fresh.ne {w : World} {b o n c : Nat} (h : Fresh w (.slice (some ⟨b, o, none⟩) n c)) {B : Nat} (hB : B < w.heap.size) : b ≠ B := by
  have := h _ _ _ rfl
  simp at this
  omega

/-- the call's own slice of ints: it may be appended to -/
def Own (w : World) (e : TypeId) (base : Nat) (v : Value) (xs : List Int) : Prop := w.ownsRow base e 1 v xs.length (xs.map (Value.int .i64))

theorem Own.ints {w : World} {e : TypeId} {base : Nat} {v : Value} {xs : List Int} (h : Own w e base v xs) (hw : ∀ x ∈ xs, I64 x) (hr : xs.length * 8 ≤ 140737488351232) : Ints w v xs := by
  obtain ⟨_, h | ⟨g, cap, cur, rfl, _, hh, _, _, _, ht⟩⟩ := h
  · obtain ⟨rfl, h0⟩ := h
    have : xs = [] := List.eq_nil_of_length_eq_zero h0
    subst this
    exact Ints.nil w
  · refine ⟨hw, hr, (by intro n c h; cases h), some ⟨g, 0, none⟩, cap, rfl, fun _ => ⟨g, 0, rfl, (Array.getElem?_eq_some_iff.1 hh).1, fun i hi => ?_⟩⟩
    have e1 : cur[i]? = some (.int .i64 (xs.getD i 0)) := by
      have h2 := congrArg (fun l => l[i]?) ht
      simp only [Nat.mul_one, List.getElem?_take, hi, if_true, List.getElem?_map, Array.getElem?_toList] at h2
      rw [h2]
      simp [hi]
    simp [World.cell?, hh, e1]

theorem Own.fresh {w w0 : World} {e : TypeId} {base : Nat} {v : Value} {xs : List Int} (h : Own w e base v xs) (hb : w0.heap.size ≤ base) : Fresh w0 v := by
  obtain ⟨_, h | ⟨g, cap, cur, rfl, hg, _⟩⟩ := h
  · obtain ⟨rfl, _⟩ := h
    exact Fresh.nil _ _ _
  · exact Fresh.mk (by omega)

theorem Own.keep {w w' : World} {e : TypeId} {base : Nat} {v : Value} {xs : List Int} (h : Own w e base v xs) (k : Kp w w') : Own w' e base v xs := by
  obtain ⟨h0, h | ⟨g, cap, cur, rfl, hg, hh, r⟩⟩ := h
  · exact ⟨h0, .inl h⟩
  · exact ⟨h0, .inr ⟨g, cap, cur, rfl, hg, by rw [k.block g (Array.getElem?_eq_some_iff.1 hh).1]; exact hh, r⟩⟩

theorem Own.nil (w : World) (e : TypeId) (base : Nat) : Own w e base (.slice none 0 0) [] := World.ownsRow_nil _ _ _ _

/-- a literal slice is the call's own -/
theorem Own.lit (w : World) (e : TypeId) (ys : List Int) (c : Array Value) (B n base : Nat) (hc : c = (ys.map (Value.int .i64)).toArray) (hB : B = w.heap.size) (hn : ys.length = n) (hb : base ≤ w.heap.size) (hm : n ≤ maxLen) :
    Own (w.alloc (.cells c e)) e base (.slice (some ⟨B, 0, none⟩) n n) ys := by
  subst hc hB hn
  refine ⟨by simp, .inr ⟨w.heap.size, ys.length, (ys.map (Value.int .i64)).toArray, rfl, hb, ?_, Nat.le_refl _, hm, by simp, by simp [List.take_of_length_le]⟩⟩
  simp only [World.alloc, Array.getElem?_push_size]

theorem lit_ints (w : World) (e : TypeId) (ys : List Int) (c : Array Value) (B n : Nat) (hc : c = (ys.map (Value.int .i64)).toArray) (hB : B = w.heap.size) (hn : ys.length = n) (hw : ∀ x ∈ ys, I64 x) (hr : n * 8 ≤ 140737488351232) :
    Ints (w.alloc (.cells c e)) (.slice (some ⟨B, 0, none⟩) n n) ys := by
  subst hc hB
  refine Blk.ints (e := e) ?_ hn hw hr
  unfold Blk
  simp only [World.alloc, Array.getElem?_push_size]

theorem Kp.of_grown {a w w' : World} {row : Option Nat} (h : Kp a w) (g : w.grownBy w' row) (hr : ∀ k, row = some k → a.heap.size ≤ k) : Kp a w' :=
  ⟨g.os.trans h.os, g.tape.trans h.tape, g.output.trans h.output, Nat.le_trans h.size g.size, fun i hi => (g.block i (Nat.lt_of_lt_of_le hi h.size) (fun e => by have := hr i e.symm; omega)).trans (h.block i hi)⟩

theorem Own.block {w : World} {e : TypeId} {base : Nat} {v : Value} {xs : List Int} (h : Own w e base v xs) (k : Nat) (hk : v.ownBlock = some k) : base ≤ k := by
  obtain ⟨_, h | ⟨g, cap, cur, rfl, hg, _⟩⟩ := h
  · obtain ⟨rfl, _⟩ := h
    cases hk
  · cases hk
    exact hg

/-- 'append(own, s...)' -/
theorem wpList_append_ints {P : Program} (w : World) {ops : Array Oper} {rest : List Oper} {o : Oper} {a : Act} {Q : Exit → Act → World → Prop}
    (hgd : o.guard = none) (s x : Operand) (t : TypeId) (ho : o.op = .call { callee := .builtin .append, args := #[s, x], argTypes := #[t, t] })
    (base : Nat) (e : TypeId) (hin : (P.info? e).map (fun i => (i.zero, i.size, i.bytes)) = some (some (.int .i64 0), 1, 8)) (ht : P.underlying t = some (.slice e))
    (v u : Value) (xs ys : List Int) (hs : a.eval s = v) (hx : a.eval x = u) (hv : Own w e base v xs) (hu : Ints w u ys)
    (hroom : (xs.length + ys.length) * 8 ≤ 140737488351232) (hbase : base ≤ w.heap.size)
    (h : ∀ v' w', Own w' e base v' (xs ++ ys) → w.grownBy w' v.ownBlock → wpList P ops Q rest (a.put o.dst v') w') : wpList P ops Q (o :: rest) a w := by
  obtain ⟨i0, hi, hz0, hz1, hz2⟩ := info_parts hin
  obtain ⟨ao, cap, hval, hcells⟩ := hu.val
  subst hval
  match ao, hx, hcells, hu with
  | none, hx, _, hu =>
    obtain ⟨h1, h2⟩ := hu.nonil _ _ rfl
    have : ys = [] := List.eq_nil_of_length_eq_zero h1
    subst this
    subst h2
    refine wpList_plain hgd fun K hK => ?_
    have hrun := run_append_owned_none (P := P) w base t o.type e i0 1 ht hi v xs.length (xs.map (Value.int .i64)) hv
    unfold Oper.wp
    simp only [List.length_nil] at hx
    simp [execOp, ho, resolve, invoke, builtin, hs, hx, hrun, Result.andThen]
    refine hK _ _ (h v w ?_ (World.grownBy.refl _ _))
    rw [List.append_nil]
    exact hv
  | some ad, hx, hcells, hu =>
    refine wpList_append_own w hgd s x t ho base e i0 (.int .i64 0) 1 8 ht hi hz0 hz1 hz2 rfl (by decide) v xs.length (xs.map (Value.int .i64)) hs hv ad ys.length cap (ys.map (Value.int .i64)) hx (by simp) ?_ (ints_oneCell _ _) (by unfold maxLen; omega) (by omega) hbase ?_
    · intro j u hj
      have hjl : j < ys.length := by
        have := (List.getElem?_eq_some_iff.1 hj).1
        simpa using this
      obtain ⟨b, off, e1, _, hc⟩ := hcells (by omega)
      cases e1
      have := hc j hjl
      rw [List.getElem?_map] at hj
      have e2 : ys[j]? = some (ys.getD j 0) := by simp [hjl]
      rw [e2] at hj
      cases hj
      by_cases h0 : j = 0
      · subst h0; simpa [Addr.add] using this
      · simpa [Addr.add, h0] using this
    · intro v' w' h1 h2 _
      refine h v' w' ?_ h2
      unfold Own
      rw [List.length_append, List.map_append]
      exact h1

end Go.Proofs.Ytefohemihiiceaa

/- Contracts of the functions that tell sizes, and whether two rows are one: the program's and the document's. -/
namespace Go.Proofs.Ytefohemihiiceaa
open Go.RowKit

end Go.Proofs.Ytefohemihiiceaa

/- Contracts of the document's own functions on sizes, and of those that tell whether two rows are one. -/
namespace Go.Proofs.Ytefohemihiiceaa
open Go.RowKit

end Go.Proofs.Ytefohemihiiceaa

/- Contracts of the functions that tell whether two rows of integers are one. -/
namespace Go.Proofs.Ytefohemihiiceaa
open Go.RowKit

def sameB (xs ys : List Int) : Bool := decide (xs = ys)

theorem same_len {xs ys : List Int} (h : xs.length ≠ ys.length) : sameB xs ys = false := by
  unfold sameB; rw [decide_eq_false_iff_not]; intro e; exact h (by rw [e])
theorem same_at {xs ys : List Int} {k : Nat} (h : xs.getD k 0 ≠ ys.getD k 0) : sameB xs ys = false := by
  unfold sameB; rw [decide_eq_false_iff_not]; intro e; exact h (by rw [e])
theorem same_all {xs ys : List Int} (hl : xs.length = ys.length) (h : ∀ j, j < xs.length → xs.getD j 0 = ys.getD j 0) : sameB xs ys = true := by
  unfold sameB
  rw [decide_eq_true_eq]
  apply List.ext_getElem hl
  intro i h1 h2
  have := h i h1
  rw [getD_at h1, getD_at h2] at this
  exact this

end Go.Proofs.Ytefohemihiiceaa

/- Contracts of the functions that tell strides: the program's and the document's. -/
namespace Go.Proofs.Ytefohemihiiceaa
open Go.RowKit

theorem Try.infoInt : (Try.prog.info? 3).map (fun i => (i.zero, i.size, i.bytes)) = some (some (.int .i64 0), 1, 8) := by kernel_rfl

theorem mk_ints (n : Nat) (hn : n * 8 ≤ 140737488351232) (w : World) :
    (Instr.makeSlice 32 (.int .i64 n) (.int .i64 n)).run Try.prog w = .ok (.slice (some ⟨w.heap.size, 0, none⟩) n n) (w.alloc (.cells (madeCells #[.int .i64 0] n) 3)) := by
  obtain ⟨i0, hi, hz0, hz1, hz2⟩ := info_parts Try.infoInt
  have h := run_make (P := Try.prog) w 32 3 i0 (.int .i64 0) Try.underlying32 hi hz0 .i64 .i64 n n (by omega) (by omega) (by rw [hz2]; omega) (by omega)
  rw [hz1] at h
  simpa [Value.cells] using h

theorem sufs_wf {xs : List Int} (h : mayB xs = true) : ∀ x ∈ sufs xs, 1 ≤ x ∧ x ≤ 4096 := by
  intro x hx
  obtain ⟨k, hk, rfl⟩ := List.mem_iff_getElem.1 hx
  rw [sufs_length] at hk
  have e := sufs_getD xs k hk
  rw [getD_at (by rw [sufs_length]; exact hk)] at e
  rw [e]
  have hg := (may_good h).2
  have h1 := prodL_pos (hg.drop (k + 1))
  have h2 := prodL_drop_le hg (k + 1)
  have h3 := may_prod h
  omega

theorem strN_yes {xs : List Int} (h : mayB xs = true) : strN xs = sufs xs := if_pos h
theorem strN_no {xs : List Int} (h : mayB xs = false) : strN xs = [] := if_neg (by rw [h]; simp)

theorem strides_step {xs : List Int} {k : Nat} (hk : k < xs.length) : (List.replicate (k + 1) 0 ++ sufs (xs.drop (k + 1))).set k (prodL (xs.drop (k + 1))) = List.replicate k 0 ++ sufs (xs.drop k) := by
  rw [fill_down, drop_cons hk]
  rfl

end Go.Proofs.Ytefohemihiiceaa

/- Contracts of the functions on places: where one stands, which one stands there. -/
namespace Go.Proofs.Ytefohemihiiceaa
open Go.RowKit

/-- is the k-th number of the place within the shape's? -/
def inB (s a : List Int) (k : Nat) : Bool := decide (0 ≤ a.getD k 0) && decide (a.getD k 0 < s.getD k 0)
theorem insB_eq (s a : List Int) : decide (∀ k, k < s.length → inB s a k = true) = insB s a := rfl

end Go.Proofs.Ytefohemihiiceaa

/- Plain mathematics of 64-bit numbers: what a NaN is, words up to the bits of a NaN, sums and products of such, sums of whole numbers exact; no program in it. -/
namespace Go.Proofs.Ytefohemihiiceaa

abbrev DD : Ieee.Format := Ieee.double
theorem dd_binade : DD.binade = 4503599627370496 := by decide
theorem dd_inf : DD.infRung = 9218868437227405312 := by decide
theorem dd_sign : DD.signWeight = 9223372036854775808 := by decide
theorem dd_least : DD.leastPlace = -1074 := by decide
theorem dd_frac : DD.fractionBits = 52 := rfl

/-- the bits of some NaN -/
def nanW (x : Nat) : Bool := (DD.read x).isNaN
/-- the bits, those of every NaN the same -/
def cn (x : Nat) : Nat := if nanW x then 9221120237041090561 else x
def orN : Option Nat → Nat
  | some r => r
  | none => 9221120237041090561
/-- sum and product, any NaN the same -/
def adC (x y : Nat) : Nat := orN (DD.add x y)
def muC (x y : Nat) : Nat := orN (DD.mul x y)

theorem read_word (neg : Bool) (r : Nat) (h : r < 9223372036854775808) :
    DD.read (DD.word neg r) = if r < 4503599627370496 then .number neg r (-1074)
      else if r < 9218868437227405312 then .number neg (4503599627370496 + r % 4503599627370496) (-1074 + (r / 4503599627370496 - 1 : Nat))
      else if r = 9218868437227405312 then .infinity neg else .nan neg (r - 9218868437227405312) := by
  unfold Ieee.Format.read
  simp only [dd_binade, dd_inf, dd_sign, dd_least]
  have e1 : DD.word neg r % 9223372036854775808 = r := by
    unfold Ieee.Format.word
    rw [dd_sign]
    cases neg <;> simp <;> omega
  have e2 : (DD.word neg r / 9223372036854775808 % 2 == 1) = neg := by
    unfold Ieee.Format.word
    rw [dd_sign]
    cases neg
    · simp
      omega
    · simp
      omega
  rw [e1, e2]

theorem nan_word (neg : Bool) (r : Nat) (h : r ≤ 9218868437227405312) : nanW (DD.word neg r) = false := by
  unfold nanW
  rw [read_word neg r (by omega)]
  split
  · rfl
  · split
    · rfl
    · rw [if_pos (by omega)]; rfl

theorem nan_nearest (neg : Bool) (m : Nat) (p : Int) : nanW (DD.nearest neg m p) = false := by
  unfold Ieee.Format.nearest
  split
  · exact nan_word _ _ (by omega)
  · dsimp only
    exact nan_word _ _ (by rw [dd_inf]; exact Nat.min_le_right _ _)

theorem nan_write {d : Ieee.Datum} (h : d.isNaN = false) : nanW (DD.write d) = false := by
  cases d with
  | number neg m p => exact nan_nearest neg m p
  | infinity neg => exact nan_word _ _ (by rw [dd_inf]; omega)
  | nan neg t => cases h

theorem sum_notNaN {a b d : Ieee.Datum} (h : a.sum b = some d) : d.isNaN = false := by
  cases a <;> cases b <;> simp only [Ieee.Datum.sum] at h <;> first | (cases h; done) | skip
  · cases h; rfl
  · cases h; rfl
  · cases h; rfl
  · split at h <;> cases h; rfl

theorem product_notNaN {a b d : Ieee.Datum} (h : a.product b = some d) : d.isNaN = false := by
  cases a <;> cases b <;> simp only [Ieee.Datum.product] at h <;> first | (cases h; done) | skip
  · cases h; rfl
  · split at h <;> cases h; rfl
  · split at h <;> cases h; rfl
  · cases h; rfl

theorem add_notNaN {x y r : Nat} (h : DD.add x y = some r) : nanW r = false := by
  unfold Ieee.Format.add at h
  cases hs : (DD.read x).sum (DD.read y) with
  | none => rw [hs] at h; cases h
  | some d => rw [hs] at h; cases h; exact nan_write (sum_notNaN hs)

theorem mul_notNaN {x y r : Nat} (h : DD.mul x y = some r) : nanW r = false := by
  unfold Ieee.Format.mul at h
  cases hs : (DD.read x).product (DD.read y) with
  | none => rw [hs] at h; cases h
  | some d => rw [hs] at h; cases h; exact nan_write (product_notNaN hs)

theorem cn_nan {x : Nat} (h : nanW x = true) : cn x = 9221120237041090561 := by unfold cn; rw [if_pos h]
theorem cn_num {x : Nat} (h : nanW x = false) : cn x = x := by unfold cn; rw [if_neg (by simp [h])]
theorem nan_N0 : nanW 9221120237041090561 = true := by decide
theorem nan_cn (x : Nat) : nanW (cn x) = nanW x := by
  cases h : nanW x
  · rw [cn_num h, h]
  · rw [cn_nan h]; exact nan_N0
theorem cn_cn (x : Nat) : cn (cn x) = cn x := by
  cases h : nanW x
  · rw [cn_num h, cn_num h]
  · rw [cn_nan h]; rfl
theorem cn_N0 {x : Nat} : cn x = 9221120237041090561 ↔ nanW x = true := by
  constructor
  · intro h
    rw [← nan_cn, h]; exact nan_N0
  · exact cn_nan
theorem cn_eq {x y : Nat} : cn x = cn y ↔ (nanW x = true ∧ nanW y = true) ∨ x = y := by
  constructor
  · intro h
    cases hx : nanW x
    · cases hy : nanW y
      · right; rw [cn_num hx, cn_num hy] at h; exact h
      · rw [cn_nan hy] at h; rw [cn_N0.1 h] at hx; cases hx
    · left
      rw [cn_nan hx] at h
      exact ⟨rfl, cn_N0.1 h.symm⟩
  · rintro (⟨h, k⟩ | h)
    · rw [cn_nan h, cn_nan k]
    · rw [h]

theorem read_nan {x : Nat} (h : nanW x = true) : ∃ s t, DD.read x = .nan s t := by
  unfold nanW at h
  cases hd : DD.read x with
  | nan s t => exact ⟨s, t, rfl⟩
  | number _ _ _ => rw [hd] at h; cases h
  | infinity _ => rw [hd] at h; cases h

theorem sum_nan_l (s : Bool) (t : Nat) (d : Ieee.Datum) : (Ieee.Datum.nan s t).sum d = none := by cases d <;> rfl
theorem sum_nan_r (s : Bool) (t : Nat) (d : Ieee.Datum) : d.sum (Ieee.Datum.nan s t) = none := by cases d <;> rfl
theorem product_nan_l (s : Bool) (t : Nat) (d : Ieee.Datum) : (Ieee.Datum.nan s t).product d = none := by cases d <;> rfl
theorem product_nan_r (s : Bool) (t : Nat) (d : Ieee.Datum) : d.product (Ieee.Datum.nan s t) = none := by cases d <;> rfl

theorem adC_cn (x y : Nat) : adC (cn x) (cn y) = adC x y := by
  unfold adC Ieee.Format.add
  cases hx : nanW x
  · rw [cn_num hx]
    cases hy : nanW y
    · rw [cn_num hy]
    · obtain ⟨s, t, e⟩ := read_nan hy
      obtain ⟨s', t', e'⟩ := read_nan ((nan_cn y).trans hy)
      rw [e, e', sum_nan_r, sum_nan_r]
  · obtain ⟨s, t, e⟩ := read_nan hx
    obtain ⟨s', t', e'⟩ := read_nan ((nan_cn x).trans hx)
    rw [e, e', sum_nan_l, sum_nan_l]

theorem muC_cn (x y : Nat) : muC (cn x) (cn y) = muC x y := by
  unfold muC Ieee.Format.mul
  cases hx : nanW x
  · rw [cn_num hx]
    cases hy : nanW y
    · rw [cn_num hy]
    · obtain ⟨s, t, e⟩ := read_nan hy
      obtain ⟨s', t', e'⟩ := read_nan ((nan_cn y).trans hy)
      rw [e, e', product_nan_r, product_nan_r]
  · obtain ⟨s, t, e⟩ := read_nan hx
    obtain ⟨s', t', e'⟩ := read_nan ((nan_cn x).trans hx)
    rw [e, e', product_nan_l, product_nan_l]

theorem cn_adC (x y : Nat) : cn (adC x y) = adC x y := by
  unfold adC
  cases h : DD.add x y with
  | none => rfl
  | some r => exact cn_num (add_notNaN h)

theorem cn_muC (x y : Nat) : cn (muC x y) = muC x y := by
  unfold muC
  cases h : DD.mul x y with
  | none => rfl
  | some r => exact cn_num (mul_notNaN h)

theorem sum_comm (a b : Ieee.Datum) : a.sum b = b.sum a := by
  cases a <;> cases b <;> simp only [Ieee.Datum.sum]
  case number.number s m i t n j =>
    rw [Int.min_comm j i, Int.add_comm (Ieee.signed t n _), Bool.and_comm t s]
  case infinity.infinity s t =>
    by_cases h : s = t
    · subst h; rfl
    · rw [if_neg h, if_neg (fun e => h e.symm)]

theorem product_comm (a b : Ieee.Datum) : a.product b = b.product a := by
  cases a <;> cases b <;> simp only [Ieee.Datum.product]
  case number.number s m i t n j => rw [Nat.mul_comm m n, Int.add_comm i j, Bool.xor_comm s t]
  case infinity.infinity s t => rw [Bool.xor_comm s t]

theorem adC_comm (x y : Nat) : adC x y = adC y x := by unfold adC Ieee.Format.add; rw [sum_comm]
theorem muC_comm (x y : Nat) : muC x y = muC y x := by unfold muC Ieee.Format.mul; rw [product_comm]

theorem order_self (x : Nat) : (DD.order x x == some .eq) = !nanW x := by
  unfold Ieee.Format.order nanW
  cases DD.read x with
  | nan s t => rfl
  | infinity s => cases s <;> rfl
  | number s m i => simp [Ieee.Datum.order, Ieee.Datum.isNaN]

theorem order_self' (x : Nat) : (DD.order x x != some .eq) = nanW x := by
  unfold bne
  rw [order_self, Bool.not_not]

/-- Fold, up to the bits of NaNs -/
def foldF : Nat → List Nat → Nat
  | 0, _ => 0
  | f + 1, l =>
    match l with
    | [] => 0
    | [x] => cn x
    | l => adC (foldF f (l.take ((l.length + 1) / 2))) (foldF f (l.drop ((l.length + 1) / 2)))
def foldC (l : List Nat) : Nat := foldF l.length l
/-- Row, up to the bits of NaNs -/
def rowC (l : List Nat) : Nat := l.foldl adC 0

theorem foldF_two (f : Nat) (l : List Nat) (h : 2 ≤ l.length) : foldF (f + 1) l = adC (foldF f (l.take ((l.length + 1) / 2))) (foldF f (l.drop ((l.length + 1) / 2))) := by
  match l, h with
  | a :: b :: r, _ => rfl

theorem foldF_more : ∀ (f : Nat) (l : List Nat), l.length ≤ f → foldF f l = foldF l.length l
  | 0, l, h => by
    have : l = [] := List.eq_nil_of_length_eq_zero (by omega)
    subst this; rfl
  | f + 1, l, h => by
    match l, h with
    | [], _ => rfl
    | [x], _ => rfl
    | a :: b :: r, h =>
      generalize hl : a :: b :: r = l at *
      have h2 : 2 ≤ l.length := by rw [← hl]; simp
      obtain ⟨g, hg⟩ : ∃ g, l.length = g + 1 := ⟨l.length - 1, by omega⟩
      rw [foldF_two f l h2]
      rw [hg] at h ⊢
      rw [foldF_two g l h2, ← hg]
      rw [foldF_more f (l.take _) (by rw [List.length_take]; omega), foldF_more f (l.drop _) (by rw [List.length_drop]; omega)]
      rw [foldF_more g (l.take _) (by rw [List.length_take]; omega), foldF_more g (l.drop _) (by rw [List.length_drop]; omega)]
termination_by f => f

theorem foldC_two {l : List Nat} (h : 2 ≤ l.length) : foldC l = adC (foldC (l.take ((l.length + 1) / 2))) (foldC (l.drop ((l.length + 1) / 2))) := by
  unfold foldC
  obtain ⟨g, hg⟩ : ∃ g, l.length = g + 1 := ⟨l.length - 1, by omega⟩
  rw [show foldF l.length l = foldF (g + 1) l by rw [hg], foldF_two g l h]
  rw [foldF_more g (l.take _) (by rw [List.length_take]; omega), foldF_more g (l.drop _) (by rw [List.length_drop]; omega)]
theorem foldC_nil : foldC [] = 0 := rfl
theorem foldC_one (x : Nat) : foldC [x] = cn x := rfl

theorem foldC_twice {l : List Nat} (h : 1 ≤ l.length) : foldC (l ++ l) = adC (foldC l) (foldC l) := by
  rw [foldC_two (by rw [List.length_append]; omega)]
  rw [show ((l ++ l).length + 1) / 2 = l.length by rw [List.length_append]; omega]
  rw [List.take_left, List.drop_left]

theorem rowC_snoc (l : List Nat) (x : Nat) : rowC (l ++ [x]) = adC (rowC l) x := by
  unfold rowC
  rw [List.foldl_append]; rfl

theorem rowC_take {l : List Nat} {k : Nat} (h : k < l.length) : rowC (l.take (k + 1)) = adC (rowC (l.take k)) (l.getD k 0) := by
  rw [List.take_add_one, show l[k]? = some (l.getD k 0) by simp [h]]
  exact rowC_snoc _ _

end Go.Proofs.Ytefohemihiiceaa

/- What the walk knows of 64-bit numbers: sums and products whose NaNs the tape chooses; slices of such numbers as lists of their bits; no program in it. -/
namespace Go.Proofs.Ytefohemihiiceaa
open Go.RowKit

/-- what '+', '*' .. give, and the world behind them: a NaN's bits come from the tape -/
def flR (op : BinOp) (w : World) (x y : Nat) : Nat :=
  match floatBits op .f64 x y with
  | some r => r
  | none => (Question.nanBits .f64 x y).cut (w.tape w.drawn (.nanBits .f64 x y))
def flW (op : BinOp) (w : World) (x y : Nat) : World :=
  match floatBits op .f64 x y with
  | some _ => w
  | none => w.drew

theorem run_add_any {P : Program} (w : World) (t : TypeId) (x y : Nat) : (binOp .add t (.float .f64 x) (.float .f64 y)).run P w = .ok (.float .f64 (flR .add w x y)) (flW .add w x y) := by
  unfold flR flW
  cases h : floatBits .add .f64 x y with
  | some r => exact run_float_arith w .add t .f64 x y r h
  | none =>
    have h' : FloatKind.f64.format.add x y = none := h
    simp [binOp, Op.floatArith, h', Question.forced]
theorem run_mul_any {P : Program} (w : World) (t : TypeId) (x y : Nat) : (binOp .mul t (.float .f64 x) (.float .f64 y)).run P w = .ok (.float .f64 (flR .mul w x y)) (flW .mul w x y) := by
  unfold flR flW
  cases h : floatBits .mul .f64 x y with
  | some r => exact run_float_arith w .mul t .f64 x y r h
  | none =>
    have h' : FloatKind.f64.format.mul x y = none := h
    simp [binOp, Op.floatArith, h', Question.forced]

theorem flW_kp (op : BinOp) (w : World) (x y : Nat) : Kp w (flW op w x y) := by
  unfold flW
  split
  · exact Kp.refl w
  · exact Kp.drew w
theorem flW_heap (op : BinOp) (w : World) (x y : Nat) : (flW op w x y).heap = w.heap := by
  unfold flW
  split <;> rfl

theorem run_neg_any {P : Program} (w : World) (x y : Nat) (h : Op.negFloat .f64 x = y) : (Op.unary .neg (.float .f64 x)).run P w = .ok (.float .f64 y) w := by
  subst h
  rfl

/-- a 64-bit word -/
def W64 (x : Nat) : Prop := x < 18446744073709551616

theorem cut_nan (t x y : Nat) : nanW ((Question.nanBits .f64 x y).cut t) = true ∧ W64 ((Question.nanBits .f64 x y).cut t) := by
  unfold Question.cut
  simp only
  have h1 : t % 2 < 2 := Nat.mod_lt _ (by decide)
  have h2 : (t / 2) % (2 ^ 52 - 1) < 4503599627370495 := Nat.mod_lt _ (by decide)
  generalize (t / 2) % (2 ^ 52 - 1) = f at *
  have e : t % 2 * 2 ^ 63 + 9218868437227405312 + 1 + f = DD.word (t % 2 == 1) (9218868437227405313 + f) := by
    unfold Ieee.Format.word
    rw [dd_sign]
    have : t % 2 = 0 ∨ t % 2 = 1 := by omega
    rcases this with h | h
    · rw [h]; simp <;> omega
    · rw [h]; simp <;> omega
  refine ⟨?_, ?_⟩
  · rw [e]
    unfold nanW
    rw [read_word _ _ (by omega), if_neg (by omega), if_neg (by omega), if_neg (by omega)]
    rfl
  · unfold W64
    have : t % 2 = 0 ∨ t % 2 = 1 := by omega
    rcases this with h | h <;> rw [h] <;> omega

theorem flR_add (w : World) (x y : Nat) : cn (flR .add w x y) = adC x y ∧ W64 (flR .add w x y) := by
  unfold flR adC
  cases h : floatBits .add .f64 x y with
  | some r =>
    have h' : DD.add x y = some r := h
    rw [h']
    exact ⟨cn_num (add_notNaN h'), DD.add_lt h'⟩
  | none =>
    have h' : DD.add x y = none := h
    rw [h']
    exact ⟨cn_nan (cut_nan _ _ _).1, (cut_nan _ _ _).2⟩
theorem flR_mul (w : World) (x y : Nat) : cn (flR .mul w x y) = muC x y ∧ W64 (flR .mul w x y) := by
  unfold flR muC
  cases h : floatBits .mul .f64 x y with
  | some r =>
    have h' : DD.mul x y = some r := h
    rw [h']
    exact ⟨cn_num (mul_notNaN h'), DD.mul_lt h'⟩
  | none =>
    have h' : DD.mul x y = none := h
    rw [h']
    exact ⟨cn_nan (cut_nan _ _ _).1, (cut_nan _ _ _).2⟩

theorem ret_flt {k : FloatKind} {a b : Nat} (h : a = b) : Ending.returned (.float k a) = .returned (.float k b) := by rw [h]

theorem flts_oneCell (zs : List Nat) : ∀ u ∈ zs.map (Value.float .f64), u.oneCell' = true := by
  intro u hu
  obtain ⟨z, _, rfl⟩ := List.mem_map.1 hu
  rfl

/-- the slice value v reads as the numbers xs -/
structure Flts (w : World) (v : Value) (xs : List Nat) : Prop where
  wf : ∀ x ∈ xs, W64 x
  room : xs.length * 8 ≤ 140737488351232
  nonil : ∀ n c, v = .slice none n c → n = 0 ∧ c = 0
  val : ∃ a cap, v = .slice a xs.length cap ∧ (0 < xs.length → ∃ b off, a = some ⟨b, off, none⟩ ∧ b < w.heap.size ∧ ∀ i, i < xs.length → w.cell? ⟨b, off + i, none⟩ = some (.float .f64 (xs.getD i 0)))

theorem Flts.nil (w : World) : Flts w (.slice none 0 0) [] := ⟨by simp, by simp, by intro n c h; cases h; exact ⟨rfl, rfl⟩, none, 0, rfl, by simp⟩

theorem Flts.keep {w w' : World} {v : Value} {xs : List Nat} (h : Flts w v xs) (k : Kp w w') : Flts w' v xs := by
  obtain ⟨h1, h2, h0, a, cap, rfl, h3⟩ := h
  refine ⟨h1, h2, h0, a, cap, rfl, fun hp => ?_⟩
  obtain ⟨b, off, rfl, hb, hc⟩ := h3 hp
  exact ⟨b, off, rfl, by have := k.size; omega, fun i hi => (Below.cell k (p := ⟨b, off + i, none⟩) hb).trans (hc i hi)⟩

theorem Flts.opn {w : World} {v : Value} {xs : List Nat} {n : Nat} (h : Flts w v xs) (hn : xs.length = n) : ∃ a cap, v = .slice a n cap ∧ Hid (0 < n → ∃ b off, a = some ⟨b, off, none⟩ ∧ b < w.heap.size ∧ ∀ i, i < n → w.cell? ⟨b, off + i, none⟩ = some (.float .f64 (xs.getD i 0))) := by
  subst hn
  exact h.val

theorem Flts.getD {w : World} {v : Value} {xs : List Nat} (h : Flts w v xs) {k : Nat} (hk : k < xs.length) : W64 (xs.getD k 0) := by
  have e : xs.getD k 0 = xs[k] := by simp [hk]
  rw [e]
  exact h.wf _ (List.getElem_mem hk)

/-- block B holds the numbers ys, and is not frozen -/
def BlkF (w : World) (e : TypeId) (B : Nat) (ys : List Nat) : Prop := w.heap[B]? = some (.cells (ys.map (Value.float .f64)).toArray e)

theorem BlkF.lt {w : World} {e : TypeId} {B : Nat} {ys : List Nat} (h : BlkF w e B ys) : B < w.heap.size := by
  unfold BlkF at h
  exact (Array.getElem?_eq_some_iff.1 h).1

theorem BlkF.cell {w : World} {e : TypeId} {B : Nat} {ys : List Nat} (h : BlkF w e B ys) {i : Nat} (hi : i < ys.length) : w.cell? ⟨B, i, none⟩ = some (.float .f64 (ys.getD i 0)) := by
  unfold BlkF at h
  simp [World.cell?, h, hi]

theorem BlkF.frozen {w : World} {e : TypeId} {B : Nat} {ys : List Nat} (h : BlkF w e B ys) (i : Nat) : w.frozen? ⟨B, i, none⟩ = false := by
  unfold BlkF at h
  simp [World.frozen?, h]

theorem BlkF.set {w : World} {e : TypeId} {B : Nat} {ys : List Nat} (h : BlkF w e B ys) (i : Nat) (x : Nat) : BlkF (w.setCell ⟨B, i, none⟩ (.float .f64 x)) e B (ys.set i x) := by
  unfold BlkF at h ⊢
  simp [World.setCell, Array.getElem?_modify, h, List.map_set]

theorem BlkF.keep {w w' : World} {e : TypeId} {B : Nat} {ys : List Nat} (h : BlkF w e B ys) (k : Kp w w') : BlkF w' e B ys := by
  unfold BlkF
  rw [k.block B h.lt]
  exact h

theorem BlkF.made (w : World) (e : TypeId) (n : Nat) : BlkF (w.alloc (.cells (madeCells #[.float .f64 0] n) e)) e w.heap.size (List.replicate n 0) := by
  unfold BlkF
  simp only [World.alloc, Array.getElem?_push_size]
  congr 2
  apply Array.ext
  · simp [madeCells]
  · intro i h1 h2
    simp [madeCells, Nat.mod_one]

theorem BlkF.flts {w : World} {e : TypeId} {B n cap : Nat} {ys : List Nat} (h : BlkF w e B ys) (hn : ys.length = n) (hw : ∀ x ∈ ys, W64 x) (hr : n * 8 ≤ 140737488351232) : Flts w (.slice (some ⟨B, 0, none⟩) n cap) ys := by
  refine ⟨hw, by omega, (by intro n c h; cases h), some ⟨B, 0, none⟩, cap, by rw [hn], fun _ => ⟨B, 0, rfl, h.lt, fun i hi => ?_⟩⟩
  rw [Nat.zero_add]
  exact h.cell hi

/-- the call's own slice of ints: it may be appended to -/
def OwnF (w : World) (e : TypeId) (base : Nat) (v : Value) (xs : List Nat) : Prop := w.ownsRow base e 1 v xs.length (xs.map (Value.float .f64))

theorem OwnF.flts {w : World} {e : TypeId} {base : Nat} {v : Value} {xs : List Nat} (h : OwnF w e base v xs) (hw : ∀ x ∈ xs, W64 x) (hr : xs.length * 8 ≤ 140737488351232) : Flts w v xs := by
  obtain ⟨_, h | ⟨g, cap, cur, rfl, _, hh, _, _, _, ht⟩⟩ := h
  · obtain ⟨rfl, h0⟩ := h
    have : xs = [] := List.eq_nil_of_length_eq_zero h0
    subst this
    exact Flts.nil w
  · refine ⟨hw, hr, (by intro n c h; cases h), some ⟨g, 0, none⟩, cap, rfl, fun _ => ⟨g, 0, rfl, (Array.getElem?_eq_some_iff.1 hh).1, fun i hi => ?_⟩⟩
    have e1 : cur[i]? = some (.float .f64 (xs.getD i 0)) := by
      have h2 := congrArg (fun l => l[i]?) ht
      simp only [Nat.mul_one, List.getElem?_take, hi, if_true, List.getElem?_map, Array.getElem?_toList] at h2
      rw [h2]
      simp [hi]
    simp [World.cell?, hh, e1]

theorem OwnF.fresh {w w0 : World} {e : TypeId} {base : Nat} {v : Value} {xs : List Nat} (h : OwnF w e base v xs) (hb : w0.heap.size ≤ base) : Fresh w0 v := by
  obtain ⟨_, h | ⟨g, cap, cur, rfl, hg, _⟩⟩ := h
  · obtain ⟨rfl, _⟩ := h
    exact Fresh.nil _ _ _
  · exact Fresh.mk (by omega)

theorem OwnF.keep {w w' : World} {e : TypeId} {base : Nat} {v : Value} {xs : List Nat} (h : OwnF w e base v xs) (k : Kp w w') : OwnF w' e base v xs := by
  obtain ⟨h0, h | ⟨g, cap, cur, rfl, hg, hh, r⟩⟩ := h
  · exact ⟨h0, .inl h⟩
  · exact ⟨h0, .inr ⟨g, cap, cur, rfl, hg, by rw [k.block g (Array.getElem?_eq_some_iff.1 hh).1]; exact hh, r⟩⟩

theorem OwnF.nil (w : World) (e : TypeId) (base : Nat) : OwnF w e base (.slice none 0 0) [] := World.ownsRow_nil _ _ _ _

/-- a literal slice is the call's own -/
theorem OwnF.lit (w : World) (e : TypeId) (ys : List Nat) (c : Array Value) (B n base : Nat) (hc : c = (ys.map (Value.float .f64)).toArray) (hB : B = w.heap.size) (hn : ys.length = n) (hb : base ≤ w.heap.size) (hm : n ≤ maxLen) :
    OwnF (w.alloc (.cells c e)) e base (.slice (some ⟨B, 0, none⟩) n n) ys := by
  subst hc hB hn
  refine ⟨by simp, .inr ⟨w.heap.size, ys.length, (ys.map (Value.float .f64)).toArray, rfl, hb, ?_, Nat.le_refl _, hm, by simp, by simp [List.take_of_length_le]⟩⟩
  simp only [World.alloc, Array.getElem?_push_size]

/-- 'append(own, s...)' -/
theorem wpList_append_flts {P : Program} (w : World) {ops : Array Oper} {rest : List Oper} {o : Oper} {a : Act} {Q : Exit → Act → World → Prop}
    (hgd : o.guard = none) (s x : Operand) (t : TypeId) (ho : o.op = .call { callee := .builtin .append, args := #[s, x], argTypes := #[t, t] })
    (base : Nat) (e : TypeId) (hin : (P.info? e).map (fun i => (i.zero, i.size, i.bytes)) = some (some (.float .f64 0), 1, 8)) (ht : P.underlying t = some (.slice e))
    (v u : Value) (xs ys : List Nat) (hs : a.eval s = v) (hx : a.eval x = u) (hv : OwnF w e base v xs) (hu : Flts w u ys)
    (hroom : (xs.length + ys.length) * 8 ≤ 140737488351232) (hbase : base ≤ w.heap.size)
    (h : ∀ v' w', OwnF w' e base v' (xs ++ ys) → w.grownBy w' v.ownBlock → wpList P ops Q rest (a.put o.dst v') w') : wpList P ops Q (o :: rest) a w := by
  obtain ⟨i0, hi, hz0, hz1, hz2⟩ := info_parts hin
  obtain ⟨ao, cap, hval, hcells⟩ := hu.val
  subst hval
  match ao, hx, hcells, hu with
  | none, hx, _, hu =>
    obtain ⟨h1, h2⟩ := hu.nonil _ _ rfl
    have : ys = [] := List.eq_nil_of_length_eq_zero h1
    subst this
    subst h2
    refine wpList_plain hgd fun K hK => ?_
    have hrun := run_append_owned_none (P := P) w base t o.type e i0 1 ht hi v xs.length (xs.map (Value.float .f64)) hv
    unfold Oper.wp
    simp only [List.length_nil] at hx
    simp [execOp, ho, resolve, invoke, builtin, hs, hx, hrun, Result.andThen]
    refine hK _ _ (h v w ?_ (World.grownBy.refl _ _))
    rw [List.append_nil]
    exact hv
  | some ad, hx, hcells, hu =>
    refine wpList_append_own w hgd s x t ho base e i0 (.float .f64 0) 1 8 ht hi hz0 hz1 hz2 rfl (by decide) v xs.length (xs.map (Value.float .f64)) hs hv ad ys.length cap (ys.map (Value.float .f64)) hx (by simp) ?_ (flts_oneCell _) (by unfold maxLen; omega) (by omega) hbase ?_
    · intro j u hj
      have hjl : j < ys.length := by
        have := (List.getElem?_eq_some_iff.1 hj).1
        simpa using this
      obtain ⟨b, off, e1, _, hc⟩ := hcells (by omega)
      cases e1
      have := hc j hjl
      rw [List.getElem?_map] at hj
      have e2 : ys[j]? = some (ys.getD j 0) := by simp [hjl]
      rw [e2] at hj
      cases hj
      by_cases h0 : j = 0
      · subst h0; simpa [Addr.add] using this
      · simpa [Addr.add, h0] using this
    · intro v' w' h1 h2 _
      refine h v' w' ?_ h2
      unfold OwnF
      rw [List.length_append, List.map_append]
      exact h1


/-- the same as a run, and under a guard that is open -/
theorem run_append_flts {P : Program} (w : World) (base : Nat) (t ty e : TypeId) (hin : (P.info? e).map (fun i => (i.zero, i.size, i.bytes)) = some (some (.float .f64 0), 1, 8)) (ht : P.underlying t = some (.slice e))
    (v u : Value) (xs ys : List Nat) (hv : OwnF w e base v xs) (hu : Flts w u ys) (hroom : (xs.length + ys.length) * 8 ≤ 140737488351232) (hbase : base ≤ w.heap.size) :
    ∃ v' w', (Builtin.append_ #[t, t] ty #[v, u]).run P w = .ok v' w' ∧ OwnF w' e base v' (xs ++ ys) ∧ w.grownBy w' v.ownBlock := by
  obtain ⟨i0, hi, hz0, hz1, hz2⟩ := info_parts hin
  obtain ⟨ao, cap, hval, hcells⟩ := hu.val
  subst hval
  match ao, hcells, hu with
  | none, _, hu =>
    obtain ⟨h1, h2⟩ := hu.nonil _ _ rfl
    have : ys = [] := List.eq_nil_of_length_eq_zero h1
    subst this
    subst h2
    have hrun := run_append_owned_none (P := P) w base t ty e i0 1 ht hi v xs.length (xs.map (Value.float .f64)) hv
    exact ⟨v, w, hrun, by rw [List.append_nil]; exact hv, World.grownBy.refl _ _⟩
  | some ad, hcells, hu =>
    have hc : ∀ j u, (ys.map (Value.float .f64))[j]? = some u → w.cell? (ad.add j) = some u := by
      intro j u hj
      have hjl : j < ys.length := by
        have := (List.getElem?_eq_some_iff.1 hj).1
        simpa using this
      obtain ⟨b, off, e1, _, hc⟩ := hcells (by omega)
      cases e1
      have := hc j hjl
      rw [List.getElem?_map] at hj
      have e2 : ys[j]? = some (ys.getD j 0) := by simp [hjl]
      rw [e2] at hj
      cases hj
      by_cases h0 : j = 0
      · subst h0; simpa [Addr.add] using this
      · simpa [Addr.add, h0] using this
    obtain ⟨v', w', hrun, ho, hg, _⟩ := run_append_own (P := P) w base t ty e i0 (.float .f64 0) 1 8 ht hi hz0 hz1 hz2 rfl (by decide) v xs.length (xs.map (Value.float .f64)) hv ad ys.length cap (ys.map (Value.float .f64)) (by simp) hc (flts_oneCell _) (by unfold maxLen; omega) (by omega) hbase
    refine ⟨v', w', hrun, ?_, hg⟩
    unfold OwnF
    rw [List.length_append, List.map_append]
    exact ho

theorem wpList_append_flts_at {P : Program} (w : World) {ops : Array Oper} {rest : List Oper} {o : Oper} {a : Act} {Q : Exit → Act → World → Prop}
    (hgd : Region.wanted o (yielded ops a.tmps) = true) (s x : Operand) (t : TypeId) (ho : o.op = .call { callee := .builtin .append, args := #[s, x], argTypes := #[t, t] })
    (base : Nat) (e : TypeId) (hin : (P.info? e).map (fun i => (i.zero, i.size, i.bytes)) = some (some (.float .f64 0), 1, 8)) (ht : P.underlying t = some (.slice e))
    (v u : Value) (xs ys : List Nat) (hs : a.eval s = v) (hx : a.eval x = u) (hv : OwnF w e base v xs) (hu : Flts w u ys)
    (hroom : (xs.length + ys.length) * 8 ≤ 140737488351232) (hbase : base ≤ w.heap.size)
    (h : ∀ v' w', OwnF w' e base v' (xs ++ ys) → w.grownBy w' v.ownBlock → wpList P ops Q rest (a.put o.dst v') w') : wpList P ops Q (o :: rest) a w := by
  refine wpList_step fun K hK => ?_
  rw [if_pos hgd]
  obtain ⟨v', w', hrun, h1, h2⟩ := run_append_flts (P := P) w base t o.type e hin ht v u xs ys hv hu hroom hbase
  unfold Oper.wp
  simp [execOp, ho, resolve, invoke, builtin, hs, hx, hrun, Result.andThen]
  exact hK _ _ (h v' w' h1 h2)

theorem OwnF.block {w : World} {e : TypeId} {base : Nat} {v : Value} {xs : List Nat} (h : OwnF w e base v xs) (k : Nat) (hk : v.ownBlock = some k) : base ≤ k := by
  obtain ⟨_, h | ⟨g, cap, cur, rfl, hg, _⟩⟩ := h
  · obtain ⟨rfl, _⟩ := h
    cases hk
  · cases hk
    exact hg

theorem OwnF.lens {w : World} {e : TypeId} {base : Nat} {v : Value} {xs : List Nat} (h : OwnF w e base v xs) (a : Option Addr) (n c : Nat) (hv : v = .slice a n c) : n ≤ c ∧ c ≤ 9223372036854775807 := by
  obtain ⟨_, h | ⟨g, cap, cur, rfl, _, _, h1, h2, _, _⟩⟩ := h
  · obtain ⟨rfl, _⟩ := h
    cases hv
    omega
  · cases hv
    unfold maxLen at h2
    omega

end Go.Proofs.Ytefohemihiiceaa

/- Contracts of the functions on single numbers: the program's, the document's and the library's. -/
namespace Go.Proofs.Ytefohemihiiceaa
open Go.RowKit

/-- some number with these bits, any NaN for the one -/
def FltIs (e : Ending) (c : Nat) : Prop := ∃ r, e = .returned (.float .f64 r) ∧ cn r = c ∧ W64 r

/-- alike bit for bit, all NaNs one -/
def sameF (x y : Nat) : Bool := (((cn x : Nat) : Int) == ((cn y : Nat) : Int))
theorem sameF_iff {x y : Nat} : sameF x y = true ↔ cn x = cn y := by
  unfold sameF
  rw [beq_iff_eq]
  exact Int.ofNat_inj

end Go.Proofs.Ytefohemihiiceaa

/- Numbers that are none but one, literal slices of numbers, what is left of a contract. -/
namespace Go.Proofs.Ytefohemihiiceaa
open Go.RowKit

/-- a slice's room is not below its length -/
def Roomy (v : Value) : Prop := ∀ a n c, v = .slice a n c → n ≤ c ∧ c ≤ 9223372036854775807

theorem lit_flts (w : World) (e : TypeId) (ys : List Nat) (c : Array Value) (B n : Nat) (hc : c = (ys.map (Value.float .f64)).toArray) (hB : B = w.heap.size) (hn : ys.length = n) (hw : ∀ x ∈ ys, W64 x) (hr : n * 8 ≤ 140737488351232) :
    Flts (w.alloc (.cells c e)) (.slice (some ⟨B, 0, none⟩) n n) ys := by
  subst hc hB
  refine BlkF.flts (e := e) ?_ hn hw hr
  unfold BlkF
  simp only [World.alloc, Array.getElem?_push_size]

theorem roomy (a : Option Addr) (n c : Nat) (h : n ≤ c) (h' : c ≤ 9223372036854775807) : Roomy (.slice a n c) := by
  intro a n c e
  cases e
  exact ⟨h, h'⟩

theorem is_num {r c L : Nat} (h : cn r = c) (hc : c = L) (hL : nanW L = false) : r = L := by
  subst hc
  have : nanW r = false := by rw [← nan_cn, h]; exact hL
  rw [← h, cn_num this]

theorem num_of {f : Nat} {args : Array Value} {w : World} {c L : Nat} (h : Calls Try.prog f args w fun e w' => ∃ r, e = .returned (.float .f64 r) ∧ (cn r = c ∧ W64 r) ∧ w'.heap = w.heap ∧ Kp w w') (hc : c = L) (hL : nanW L = false) :
    Calls Try.prog f args w fun e w' => e = .returned (.float .f64 L) ∧ Kp w w' :=
  h.mono (by
    rintro e w' ⟨r, rfl, ⟨h1, _⟩, _, k⟩
    exact ⟨by rw [is_num h1 hc hL], k⟩)

theorem kp_of {f : Nat} {args : Array Value} {w : World} {v : Value} (h : Calls Try.prog f args w fun e w' => e = .returned v ∧ w' = w) : Calls Try.prog f args w fun e w' => e = .returned v ∧ Kp w w' :=
  h.mono (by
    rintro e w' ⟨rfl, rfl⟩
    exact ⟨rfl, Kp.refl _⟩)

end Go.Proofs.Ytefohemihiiceaa

/- Contracts of the rows: one number after another. -/
namespace Go.Proofs.Ytefohemihiiceaa
open Go.RowKit

theorem Flts.cell {w w' : World} {a : Option Addr} {n cap : Nat} {xs : List Nat} (h : Flts w (.slice a n cap) xs) (k : Kp w w') {i : Nat} (hi : i < n) : ∃ b off, a = some ⟨b, off, none⟩ ∧ w'.cell? ⟨b, off + i, none⟩ = some (.float .f64 (xs.getD i 0)) := by
  obtain ⟨_, _, _, a', cap', e, hv⟩ := h.keep k
  cases e
  obtain ⟨b, off, rfl, _, hc⟩ := hv (by omega)
  exact ⟨b, off, rfl, hc i hi⟩

/-- a number goes on from what is there -/
def rowFrom (s : Nat) (l : List Nat) : Nat := l.foldl adC (cn s)
theorem rowFrom_take {s : Nat} {l : List Nat} {k : Nat} (h : k < l.length) : rowFrom s (l.take (k + 1)) = adC (rowFrom s (l.take k)) (l.getD k 0) := by
  unfold rowFrom
  rw [List.take_add_one, show l[k]? = some (l.getD k 0) by simp [h], List.foldl_append]
  rfl
theorem adC_cn_l {r s : Nat} (x : Nat) (h : cn r = s) : adC r x = adC s x := by
  subst h
  rw [← adC_cn (cn r) x, cn_cn, adC_cn]

theorem w64_0 : W64 0 := by unfold W64; omega

end Go.Proofs.Ytefohemihiiceaa

/- Contracts of the folds by halves. -/
namespace Go.Proofs.Ytefohemihiiceaa
open Go.RowKit

theorem Flts.take {w : World} {b off n cap : Nat} {xs : List Nat} (h : Flts w (.slice (some ⟨b, off, none⟩) n cap) xs) {m : Nat} (hm : m ≤ n) (cap' : Nat) : Flts w (.slice (some ⟨b, off, none⟩) m cap') (xs.take m) := by
  obtain ⟨h1, h2, h0, a, c, e, h3⟩ := h
  cases e
  have hl : (xs.take m).length = m := by rw [List.length_take]; omega
  refine ⟨fun x hx => h1 x (List.mem_of_mem_take hx), by omega, (by intro n c h; cases h), some ⟨b, off, none⟩, cap', by rw [hl], fun hp => ?_⟩
  obtain ⟨b', off', e, hb, hc⟩ := h3 (by omega)
  cases e
  refine ⟨b, off, rfl, hb, fun i hi => ?_⟩
  have hi' : i < m := by omega
  have := hc i (by omega)
  simpa [List.getD_eq_getElem?_getD, List.getElem?_take, hi'] using this

theorem Flts.drop {w : World} {b off n cap : Nat} {xs : List Nat} (h : Flts w (.slice (some ⟨b, off, none⟩) n cap) xs) {m : Nat} (hm : m ≤ n) (cap' : Nat) : Flts w (.slice (some ⟨b, off + m, none⟩) (n - m) cap') (xs.drop m) := by
  obtain ⟨h1, h2, h0, a, c, e, h3⟩ := h
  cases e
  have hl : (xs.drop m).length = xs.length - m := by rw [List.length_drop]
  refine ⟨fun x hx => h1 x (List.mem_of_mem_drop hx), by omega, (by intro n c h; cases h), some ⟨b, off + m, none⟩, cap', by rw [hl], fun hp => ?_⟩
  obtain ⟨b', off', e, hb, hc⟩ := h3 (by omega)
  cases e
  refine ⟨b, off + m, rfl, hb, fun i hi => ?_⟩
  have := hc (m + i) (by omega)
  rw [← Nat.add_assoc] at this
  rw [this]
  simp [List.getD_eq_getElem?_getD]

theorem Flts.heap {w w' : World} {v : Value} {xs : List Nat} (h : Flts w v xs) (e : w'.heap = w.heap) : Flts w' v xs := by
  obtain ⟨h1, h2, h0, a, cap, rfl, h3⟩ := h
  refine ⟨h1, h2, h0, a, cap, rfl, fun hp => ?_⟩
  obtain ⟨b, off, rfl, hb, hc⟩ := h3 hp
  exact ⟨b, off, rfl, by rw [e]; exact hb, fun i hi => by have := hc i hi; unfold World.cell? at *; rw [e]; exact this⟩

end Go.Proofs.Ytefohemihiiceaa

/- The contract of the document's own fold. -/
namespace Go.Proofs.Ytefohemihiiceaa
open Go.RowKit

end Go.Proofs.Ytefohemihiiceaa

/- Arguments that came in: slices of integers of a kind, slices of 64-bit numbers, as the walks want them. -/
namespace Go.Proofs.Ytefohemihiiceaa
open Go.RowKit Go.ChangeShapes

def InRowK (k : IntKind) (w : World) (a : Option Addr) (len cap : Nat) (zs : List Int) : Prop :=
  (a = none ∧ len = 0 ∧ cap = 0 ∧ zs = []) ∨
  ∃ x, a = some x ∧ len ≤ cap ∧ cap ≤ maxLen ∧ zs.length = cap ∧ (∀ i, i < zs.length → w.cell? (x.add i) = some (.int k (zs.getD i 0))) ∧ ∀ n ∈ zs, (Lit.int k n).wf = true

theorem InRowK.max {k : IntKind} {w : World} {a : Option Addr} {len cap : Nat} {zs : List Int} (h : InRowK k w a len cap zs) : len ≤ 9223372036854775807 := by
  rcases h with ⟨_, rfl, _, _⟩ | ⟨x, _, h1, h2, _⟩
  · omega
  · unfold maxLen at h2; omega

/-- an address and its cells, one behind the other -/
theorem cells_at {w : World} {x : Addr} {n : Nat} {f : Nat → Value} (h : ∀ i, i < n → w.cell? (x.add i) = some (f i)) (hn : 0 < n) : ∃ b off, x = ⟨b, off, none⟩ ∧ b < w.heap.size ∧ ∀ i, i < n → w.cell? ⟨b, off + i, none⟩ = some (f i) := by
  have h0 := h 0 hn
  obtain ⟨b, off, sp⟩ := x
  have hs : sp = none := by
    unfold World.cell? at h0
    split at h0
    · split at h0
      · cases h0
      · rename_i hh; simpa [Addr.add] using hh
    · cases h0
  subst hs
  refine ⟨b, off, rfl, ?_, fun i hi => ?_⟩
  · unfold World.cell? at h0
    split at h0
    · rename_i c t f hh
      have := (Array.getElem?_eq_some_iff.1 hh).1
      simpa [Addr.add] using this
    · cases h0
  · have := h i hi
    by_cases h0 : i = 0
    · subst h0; simpa [Addr.add] using this
    · simpa [Addr.add, h0] using this

theorem wf_i64 {n : Int} (h : (Lit.int .i64 n).wf = true) : I64 n := by
  exact bounds_i64 h

theorem InRowK.len {k : IntKind} {w : World} {a : Option Addr} {len cap : Nat} {zs : List Int} (h : InRowK k w a len cap zs) : (zs.take len).length = len := by
  rcases h with ⟨_, rfl, _, rfl⟩ | ⟨x, _, h1, _, h3, _⟩
  · rfl
  · simp; omega

theorem InRowK.ints {w : World} {a : Option Addr} {len cap : Nat} {zs : List Int} (h : InRowK .i64 w a len cap zs) (hs : len ≤ 1000000) : Ints w (.slice a len cap) (zs.take len) := by
  rcases h with ⟨rfl, rfl, rfl, rfl⟩ | ⟨x, rfl, h1, _, h3, h4, h5⟩
  · exact Ints.nil w
  · have hl : (zs.take len).length = len := by simp; omega
    refine ⟨fun y hy => wf_i64 (h5 y (List.mem_of_mem_take hy)), by omega, (by intro n c h; cases h), some x, cap, by rw [hl], fun hp => ?_⟩
    obtain ⟨b, off, rfl, hb, hc⟩ := cells_at h4 (by omega)
    refine ⟨b, off, rfl, hb, fun i hi => ?_⟩
    have hil : i < len := by omega
    have := hc i (by omega)
    simpa [List.getD_eq_getElem?_getD, List.getElem?_take, hil] using this

/-- a slice of 64-bit numbers that came in -/
def InRowF (w : World) (a : Option Addr) (len cap : Nat) (zs : List Nat) : Prop :=
  (a = none ∧ len = 0 ∧ cap = 0 ∧ zs = []) ∨
  ∃ x, a = some x ∧ len ≤ cap ∧ cap ≤ maxLen ∧ zs.length = cap ∧ (∀ i, i < zs.length → w.cell? (x.add i) = some (.float .f64 (zs.getD i 0))) ∧ ∀ n ∈ zs, (Lit.float .f64 n).wf = true

theorem wf_w64 {n : Nat} (h : (Lit.float .f64 n).wf = true) : W64 n := by
  simp only [Lit.wf, decide_eq_true_eq] at h
  exact h

theorem InRowF.max {w : World} {a : Option Addr} {len cap : Nat} {zs : List Nat} (h : InRowF w a len cap zs) : len ≤ 9223372036854775807 := by
  rcases h with ⟨_, rfl, _, _⟩ | ⟨x, _, h1, h2, _⟩
  · omega
  · unfold maxLen at h2; omega
theorem InRowF.len {w : World} {a : Option Addr} {len cap : Nat} {zs : List Nat} (h : InRowF w a len cap zs) : (zs.take len).length = len := by
  rcases h with ⟨_, rfl, _, rfl⟩ | ⟨x, _, h1, _, h3, _⟩
  · rfl
  · simp; omega
theorem InRowF.roomy {w : World} {a : Option Addr} {len cap : Nat} {zs : List Nat} (h : InRowF w a len cap zs) : Roomy (.slice a len cap) := by
  intro a' n c e
  cases e
  rcases h with ⟨_, rfl, rfl, _⟩ | ⟨x, _, h1, h2, _⟩
  · omega
  · unfold maxLen at h2; omega
theorem InRowF.flts {w : World} {a : Option Addr} {len cap : Nat} {zs : List Nat} (h : InRowF w a len cap zs) (hs : len ≤ 1000000) : Flts w (.slice a len cap) (zs.take len) := by
  rcases h with ⟨rfl, rfl, rfl, rfl⟩ | ⟨x, rfl, h1, _, h3, h4, h5⟩
  · exact Flts.nil w
  · have hl : (zs.take len).length = len := by simp; omega
    refine ⟨fun y hy => wf_w64 (h5 y (List.mem_of_mem_take hy)), by omega, (by intro n c h; cases h), some x, cap, by rw [hl], fun hp => ?_⟩
    obtain ⟨b, off, rfl, hb, hc⟩ := cells_at h4 (by omega)
    refine ⟨b, off, rfl, hb, fun i hi => ?_⟩
    have hil : i < len := by omega
    have := hc i (by omega)
    simpa [List.getD_eq_getElem?_getD, List.getElem?_take, hil] using this

theorem list_of (m : Nat) (B : Nat → Nat) : ∃ zs : List Nat, zs.length = m ∧ ∀ i, i < m → zs.getD i 0 = B i :=
  ⟨(List.range m).map B, by simp, fun i hi => by simp [hi]⟩

theorem open_flts {H : Type} {enc : TypeId × Value → H} {P : Program} {w : World} {base : Nat} {spare : Nat → Bool} {held : Bool} {t e : TypeId} {fuel : Nat} {cs : List Value} {x : DataW H × List MemPlace}
    (ht : P.underlying t = some (.slice e)) (he : P.underlying e = some (.float .f64)) (hc : P.cellsOf e = 1) (hsp : ∀ b, spare b = true)
    (h : DataW.trod enc P w base spare held fuel t cs = some x) :
    (cs = [.slice none 0 0]) ∨
    ∃ (a : Addr) (len cap : Nat) (zs : List Nat), cs = [.slice (some a) len cap] ∧ len ≤ cap ∧ cap ≤ maxLen ∧ zs.length = cap ∧
      (∀ i, i < zs.length → w.cell? (a.add i) = some (.float .f64 (zs.getD i 0))) ∧ (∀ n ∈ zs, (Lit.float .f64 n).wf = true) := by
  rcases Go.Deep.open_slice1 ht hc h with ⟨h0, _⟩ | ⟨a, len, cap, m, n, V, D, Pl, rfl, hb, hl, hm, hmm, _, hx⟩
  · exact .inl h0
  · right
    rw [hsp, if_pos rfl] at hmm
    subst hmm
    have hv : ∀ i, i < m → ∃ b, V i = .float .f64 b ∧ (Lit.float .f64 b).wf = true := by
      intro i hi
      have h2 := (hx i hi).2
      cases n with
      | zero => simp [DataW.trod] at h2
      | succ n =>
        cases hV : V i <;> simp [DataW.trod, he, hV] at h2
        case float k b => exact ⟨b, by rw [h2.1.1], h2.1.2⟩
    obtain ⟨zs, hz, hzi⟩ := list_of m (fun i => if hi : i < m then Classical.choose (hv i hi) else 0)
    have hzi' : ∀ i, i < m → V i = .float .f64 (zs.getD i 0) ∧ (Lit.float .f64 (zs.getD i 0)).wf = true := by
      intro i hi
      rw [hzi i hi, dif_pos hi]
      exact Classical.choose_spec (hv i hi)
    refine ⟨a, len, m, zs, rfl, hl, hm, hz, fun i hi => ?_, fun y hy => ?_⟩
    · rw [(hx i (by omega)).1, (hzi' i (by omega)).1]
    · obtain ⟨i, hi, rfl⟩ := List.getElem_of_mem hy
      have := (hzi' i (by omega)).2
      simpa [hi] using this

/-- a pair of slices, integers and 64-bit numbers, that came in by value -/
theorem open_pair_rows {H : Type} {enc : TypeId × Value → H} {P : Program} {w : World} {base : Nat} {spare : Nat → Bool} {t t0 t1 e0 e1 : TypeId} {fuel : Nat} {cs : List Value} {x : DataW H × List MemPlace} {f0 f1 : Field}
    (ht : P.underlying t = some (.struct #[f0, f1])) (hf : (f0.offset, f1.offset, f0.type, f1.type) = (0, 1, t0, t1))
    (h0 : P.underlying t0 = some (.slice e0)) (h1 : P.underlying t1 = some (.slice e1)) (u0 : P.underlying e0 = some (.int .i64)) (u1 : P.underlying e1 = some (.float .f64))
    (c0 : P.cellsOf e0 = 1) (c1 : P.cellsOf e1 = 1) (d : (P.cellsOf t, P.cellsOf t0, P.cellsOf t1) = (2, 1, 1)) (hsp : ∀ b, spare b = true)
    (h : DataW.trod enc P w base spare true fuel t cs = some x) :
    ∃ a len cap zs a' len' cap' zs', cs = [.slice a len cap, .slice a' len' cap'] ∧ InRowK .i64 w a len cap zs ∧ InRowF w a' len' cap' zs' := by
  obtain ⟨y0, y1, n, rfl, hl, k0, k1⟩ := Go.ChangeShapes.trod_struct2 ht h
  simp only [Prod.mk.injEq] at hf d
  obtain ⟨o0, o1, rfl, rfl⟩ := hf
  obtain ⟨d0, d1, d2⟩ := d
  rw [d0] at hl
  match cs, hl with
  | [v0, v1], _ =>
    rw [o0, d1] at k0
    rw [o1, d2] at k1
    simp only [List.drop_zero, List.take_succ_cons, List.take_zero, List.drop_succ_cons] at k0 k1
    obtain ⟨a, len, cap, zs, q1, i1⟩ : ∃ a len cap zs, v0 = .slice a len cap ∧ InRowK .i64 w a len cap zs := by
      rcases open_ints h0 u0 c0 k0 with ⟨hcs, _⟩ | ⟨x, l, c, zs, hcs, _, hl, hm, hz, _, hcell, hwz⟩
      · simp at hcs
        exact ⟨none, 0, 0, [], hcs, .inl ⟨rfl, rfl, rfl, rfl⟩⟩
      · simp at hcs
        rw [hsp, if_pos rfl] at hz
        exact ⟨some x, l, c, zs, hcs, .inr ⟨_, rfl, hl, hm, hz, hcell, hwz⟩⟩
    obtain ⟨a', len', cap', zs', q2, i2⟩ : ∃ a len cap zs, v1 = .slice a len cap ∧ InRowF w a len cap zs := by
      rcases open_flts h1 u1 c1 hsp k1 with hcs | ⟨x, l, c, zs, hcs, hl, hm, hz, hcell, hwz⟩
      · simp at hcs
        exact ⟨none, 0, 0, [], hcs, .inl ⟨rfl, rfl, rfl, rfl⟩⟩
      · simp at hcs
        exact ⟨some x, l, c, zs, hcs, .inr ⟨_, rfl, hl, hm, hz, hcell, hwz⟩⟩
    exact ⟨a, len, cap, zs, a', len', cap', zs', by rw [q1, q2], i1, i2⟩

end Go.Proofs.Ytefohemihiiceaa

/- Contracts of what copies slices and asks tensors whether they may be. -/
namespace Go.Proofs.Ytefohemihiiceaa
open Go.RowKit

end Go.Proofs.Ytefohemihiiceaa

/- The contract of the copy of a tensor. -/
namespace Go.Proofs.Ytefohemihiiceaa
open Go.RowKit

theorem Own.weak {w : World} {e : TypeId} {base base' : Nat} {v : Value} {xs : List Int} (h : Own w e base v xs) (hb : base' ≤ base) : Own w e base' v xs := by
  obtain ⟨h0, h | ⟨g, cap, cur, rfl, hg, r⟩⟩ := h
  · exact ⟨h0, .inl h⟩
  · exact ⟨h0, .inr ⟨g, cap, cur, rfl, Nat.le_trans hb hg, r⟩⟩
theorem OwnF.weak {w : World} {e : TypeId} {base base' : Nat} {v : Value} {xs : List Nat} (h : OwnF w e base v xs) (hb : base' ≤ base) : OwnF w e base' v xs := by
  obtain ⟨h0, h | ⟨g, cap, cur, rfl, hg, r⟩⟩ := h
  · exact ⟨h0, .inl h⟩
  · exact ⟨h0, .inr ⟨g, cap, cur, rfl, Nat.le_trans hb hg, r⟩⟩

theorem Own.sl {w : World} {e : TypeId} {base : Nat} {v : Value} {xs : List Int} (h : Own w e base v xs) : ∃ a n c, v = .slice a n c := by
  obtain ⟨_, ⟨rfl, _⟩ | ⟨g, cap, cur, rfl, _⟩⟩ := h
  · exact ⟨_, _, _, rfl⟩
  · exact ⟨_, _, _, rfl⟩
theorem OwnF.sl {w : World} {e : TypeId} {base : Nat} {v : Value} {xs : List Nat} (h : OwnF w e base v xs) : ∃ a n c, v = .slice a n c := by
  obtain ⟨_, ⟨rfl, _⟩ | ⟨g, cap, cur, rfl, _⟩⟩ := h
  · exact ⟨_, _, _, rfl⟩
  · exact ⟨_, _, _, rfl⟩

theorem Own.setBelow {w : World} {e : TypeId} {base : Nat} {v : Value} {xs : List Int} (h : Own w e base v xs) {B : Nat} (hB : B < base) (i : Nat) (u : Value) : Own (w.setCell ⟨B, i, none⟩ u) e base v xs := by
  obtain ⟨h0, h | ⟨g, cap, cur, rfl, hg, hh, r⟩⟩ := h
  · exact ⟨h0, .inl h⟩
  · exact ⟨h0, .inr ⟨g, cap, cur, rfl, hg, (Below.heap_setCell w ⟨B, i, none⟩ u g (by simp; omega)).trans hh, r⟩⟩
theorem OwnF.setBelow {w : World} {e : TypeId} {base : Nat} {v : Value} {xs : List Nat} (h : OwnF w e base v xs) {B : Nat} (hB : B < base) (i : Nat) (u : Value) : OwnF (w.setCell ⟨B, i, none⟩ u) e base v xs := by
  obtain ⟨h0, h | ⟨g, cap, cur, rfl, hg, hh, r⟩⟩ := h
  · exact ⟨h0, .inl h⟩
  · exact ⟨h0, .inr ⟨g, cap, cur, rfl, hg, (Below.heap_setCell w ⟨B, i, none⟩ u g (by simp; omega)).trans hh, r⟩⟩

/-- block B holds a pair, and is not frozen -/
def Bx (w : World) (B : Nat) (x y : Value) : Prop := w.heap[B]? = some (.cells #[x, y] 44)
theorem Bx.lt {w : World} {B : Nat} {x y : Value} (h : Bx w B x y) : B < w.heap.size := (Array.getElem?_eq_some_iff.1 h).1
theorem Bx.c0 {w : World} {B : Nat} {x y : Value} (h : Bx w B x y) : w.cell? ⟨B, 0, none⟩ = some x := by
  unfold Bx at h
  simp [World.cell?, h]
theorem Bx.c1 {w : World} {B : Nat} {x y : Value} (h : Bx w B x y) : w.cell? ⟨B, 1, none⟩ = some y := by
  unfold Bx at h
  simp [World.cell?, h]
theorem Bx.frozen {w : World} {B : Nat} {x y : Value} (h : Bx w B x y) (i : Nat) : w.frozen? ⟨B, i, none⟩ = false := by
  unfold Bx at h
  simp [World.frozen?, h]
theorem Bx.keep {w w' : World} {B : Nat} {x y : Value} (h : Bx w B x y) (k : Kp w w') : Bx w' B x y := by
  unfold Bx
  rw [k.block B h.lt]
  exact h
theorem Bx.made (w : World) (x y : Value) : Bx (w.alloc (.cells #[x, y] 44)) w.heap.size x y := by
  unfold Bx
  simp only [World.alloc, Array.getElem?_push_size]

theorem Bx.madeAt (w : World) (x y : Value) (B : Nat) (hB : B = w.heap.size) : Bx (w.alloc (.cells #[x, y] 44)) B x y := by
  subst hB
  exact Bx.made w x y

/-- what a walk wants to know of the pair in block B -/
def BxO (w : World) (B : Nat) (x y : Value) : Prop := w.cell? ⟨B, 0, none⟩ = some x ∧ w.cell? ⟨B, 1, none⟩ = some y ∧ w.frozen? ⟨B, 0, none⟩ = false ∧ w.frozen? ⟨B, 1, none⟩ = false ∧ B < w.heap.size
theorem Bx.o {w : World} {B : Nat} {x y : Value} (h : Bx w B x y) : BxO w B x y := ⟨h.c0, h.c1, h.frozen 0, h.frozen 1, h.lt⟩

theorem Bx.set {w : World} {B : Nat} {x y : Value} (h : Bx w B x y) (u v : Value) : Bx ((w.setCell ⟨B, 0, none⟩ u).setCell ⟨B, 1, none⟩ v) B u v := by
  unfold Bx at h ⊢
  simp [World.setCell, Array.getElem?_modify, h]

end Go.Proofs.Ytefohemihiiceaa

/- Contracts of what asks tensors: whether they may be, which number stands where. -/
namespace Go.Proofs.Ytefohemihiiceaa
open Go.RowKit

/-- may these be a tensor? -/
def mayT (s : List Int) (d : List Nat) : Bool := mayB s && ((d.length : Int) == prodL s)
theorem mayT_no {s : List Int} {d : List Nat} (h : mayB s = false) : mayT s d = false := by unfold mayT; rw [h]; rfl
theorem mayT_yes {s : List Int} {d : List Nat} (h : mayB s = true) : mayT s d = ((d.length : Int) == prodL s) := by unfold mayT; rw [h]; rfl
theorem mayT_may {s : List Int} {d : List Nat} (h : mayT s d = true) : mayB s = true := by
  unfold mayT at h
  simp only [Bool.and_eq_true] at h
  exact h.1
theorem mayT_len {s : List Int} {d : List Nat} (h : mayT s d = true) : (d.length : Int) = prodL s := by
  unfold mayT at h
  simp only [Bool.and_eq_true, beq_iff_eq] at h
  exact h.2
theorem mayT_pos {s : List Int} {d : List Nat} (h : mayT s d = true) : 0 < d.length := by
  have h1 := mayT_len h
  have h2 := prodL_pos (may_good (mayT_may h)).2
  omega
theorem szN_yes {s : List Int} (h : mayB s = true) : szN s = prodL s := if_pos h
theorem szE_yes {s : List Int} (h : mayB s = true) : szE s = 0 := if_pos h
theorem szE_no {s : List Int} (h : mayB s = false) : (szE s == 0) = false := by rw [szE_zero, h]
theorem szE_ne {s : List Int} (h : mayB s = false) : (szE s != 0) = true := by
  have := szE_no h
  simp only [bne, this, Bool.not_false]
theorem szN_no {s : List Int} (h : mayB s = false) : szN s = 0 := if_neg (by rw [h]; simp)

/-- laying a pair into a block of its own -/
theorem box_in (w : World) (x y : Value) : ∃ W, W = w.alloc (.cells #[x, y] 44) ∧ Bx W w.heap.size x y ∧ Kp w W := ⟨_, rfl, Bx.made w x y, Kp.alloc w _⟩

set_option maxHeartbeats 400000 in
theorem small_any (a a' : Option Addr) (n c n' c' : Nat) (w : World) (hn : n ≤ 9223372036854775807) (hn' : n' ≤ 9223372036854775807) :
    Calls Try.prog 15 #[.agg #[.slice a n c, .slice a' n' c']] w fun e w' => e = .returned (.bool (decide (n ≤ 40) && decide (n' ≤ 8192))) ∧ Kp w w' := by
  by_cases h1 : n ≤ 40
  · have E : Hid ((decide (n ≤ 40) && decide (n' ≤ 8192)) = decide ((n' : Int) ≤ 8192)) := by
      unfold Hid
      rw [decide_eq_true h1, Bool.true_and]
      exact decide_eq_decide.2 (by omega)
    have h1' : (n : Int) ≤ 40 := by omega
    go_enter Try.func15, Try.ntmps15
    go_wp2
    go_ret
    exact ⟨ret_bool (unhide E).symm, Kp.alloc _ _⟩
  · have E : Hid ((decide (n ≤ 40) && decide (n' ≤ 8192)) = false) := by
      unfold Hid
      rw [decide_eq_false h1, Bool.false_and]
    have h1' : ¬ (n : Int) ≤ 40 := by omega
    have h1'' : decide ((n : Int) ≤ 40) = false := decide_eq_false h1'
    go_enter Try.func15, Try.ntmps15
    go_wp2
    go_ret
    exact ⟨by first | rfl | exact ret_bool (unhide E).symm, Kp.alloc _ _⟩

/-- the number at that place, or none -/
def atN (s : List Int) (d : List Nat) (a : List Int) : Nat := if mayT s d = true ∧ 0 ≤ ixN s a then d.getD (ixN s a).toNat 0 else 0
def atB (s : List Int) (d : List Nat) (a : List Int) : Bool := mayT s d && decide (0 ≤ ixN s a)
theorem at_no {s : List Int} {d : List Nat} {a : List Int} (h : mayT s d = false) : atN s d a = 0 ∧ atB s d a = false := by
  unfold atN atB
  rw [h]
  exact ⟨if_neg (fun e => by cases e.1), rfl⟩
theorem at_out {s : List Int} {d : List Nat} {a : List Int} (h : ixN s a < 0) : atN s d a = 0 ∧ atB s d a = false := by
  unfold atN atB
  exact ⟨if_neg (fun e => by omega), by rw [decide_eq_false (by omega), Bool.and_false]⟩
theorem at_in {s : List Int} {d : List Nat} {a : List Int} (h : mayT s d = true) (h' : 0 ≤ ixN s a) : atN s d a = d.getD (ixN s a).toNat 0 ∧ atB s d a = true := by
  unfold atN atB
  exact ⟨if_pos ⟨h, h'⟩, by rw [h, decide_eq_true h']; rfl⟩
theorem ix_lt {s : List Int} {d : List Nat} {a : List Int} (h : mayT s d = true) (h' : 0 ≤ ixN s a) : (ixN s a).toNat < d.length := by
  have hm := mayT_may h
  have hl := mayT_len h
  by_cases hc : mayB s = true ∧ a.length = s.length ∧ insB s a = true
  · have e : ixN s a = idx s a := if_pos hc
    have := idx_bounds hc.2.1 ((insB_iff s a).1 hc.2.2)
    omega
  · have e : ixN s a = -1 := if_neg hc
    omega
theorem ret_fb {a b : Nat} {c d : Bool} (h : a = b) (h' : c = d) : Ending.returned (.tuple #[.float .f64 a, .bool c]) = .returned (.tuple #[.float .f64 b, .bool d]) := by rw [h, h']

end Go.Proofs.Ytefohemihiiceaa

/- Contracts of what holds two tensors against each other: the program's and the document's. -/
namespace Go.Proofs.Ytefohemihiiceaa
open Go.RowKit

/-- as many, and the rule holds at each place -/
def allB (rule : Nat → Nat → Bool) (xs ys : List Nat) : Bool := decide (xs.length = ys.length ∧ ∀ j, j < xs.length → rule (xs.getD j 0) (ys.getD j 0) = true)
theorem allB_len {rule : Nat → Nat → Bool} {xs ys : List Nat} (h : xs.length ≠ ys.length) : allB rule xs ys = false := decide_eq_false (fun e => h e.1)
theorem allB_at {rule : Nat → Nat → Bool} {xs ys : List Nat} {k : Nat} (hk : k < xs.length) (h : rule (xs.getD k 0) (ys.getD k 0) = false) : allB rule xs ys = false :=
  decide_eq_false (fun e => by have := e.2 k hk; rw [h] at this; cases this)
theorem allB_yes {rule : Nat → Nat → Bool} {xs ys : List Nat} (hl : xs.length = ys.length) (h : ∀ j, j < xs.length → rule (xs.getD j 0) (ys.getD j 0) = true) : allB rule xs ys = true := decide_eq_true ⟨hl, h⟩

/-- alike as tensors, be they any or not -/
def sameT (s : List Int) (d : List Nat) (s' : List Int) (d' : List Nat) : Bool := sameB s s' && allB sameF d d'
theorem sameT_no {s : List Int} {d : List Nat} {s' : List Int} {d' : List Nat} (h : sameB s s' = false) : sameT s d s' d' = false := by unfold sameT; rw [h]; rfl
theorem sameT_yes {s : List Int} {d : List Nat} {s' : List Int} {d' : List Nat} (h : sameB s s' = true) : sameT s d s' d' = allB sameF d d' := by unfold sameT; rw [h]; rfl

end Go.Proofs.Ytefohemihiiceaa

/- Contracts of what asks whether numbers are finite, of roots and of what is without a sign. -/
namespace Go.Proofs.Ytefohemihiiceaa
open Go.RowKit

/-- the number without its sign -/
def absN (x : Nat) : Nat := x &&& 9223372036854775807
theorem absN_w64 {x : Nat} (h : W64 x) : W64 (absN x) := Nat.lt_of_le_of_lt Nat.and_le_left h

/-- is it an infinity? -/
def infB (x : Nat) : Bool := FloatKind.f64.format.order (absN x) 9218868437227405311 == some Ordering.gt

/-- neither NaN nor infinity? No. -/
def endB (x : Nat) : Bool := nanW x || infB x
theorem endB_nan {x : Nat} (h : nanW x = true) : endB x = true := by unfold endB; rw [h]; rfl
theorem endB_num {x : Nat} (h : nanW x = false) : endB x = infB x := by unfold endB; rw [h]; rfl

/-- does the rule hold somewhere? -/
def anyB (rule : Nat → Bool) (xs : List Nat) : Bool := decide (∃ j, j < xs.length ∧ rule (xs.getD j 0) = true)
theorem anyB_at {rule : Nat → Bool} {xs : List Nat} {k : Nat} (hk : k < xs.length) (h : rule (xs.getD k 0) = true) : anyB rule xs = true := decide_eq_true ⟨k, hk, h⟩
theorem anyB_no {rule : Nat → Bool} {xs : List Nat} (h : ∀ j, j < xs.length → rule (xs.getD j 0) = false) : anyB rule xs = false :=
  decide_eq_false (fun ⟨j, hj, e⟩ => by rw [h j hj] at e; cases e)

/-- a tensor that is finite -/
def finT (s : List Int) (d : List Nat) : Bool := mayT s d && !anyB endB d
theorem finT_no {s : List Int} {d : List Nat} (h : mayT s d = false) : finT s d = false := by unfold finT; rw [h]; rfl
theorem finT_yes {s : List Int} {d : List Nat} (h : mayT s d = true) : finT s d = !anyB endB d := by unfold finT; rw [h]; rfl
theorem finT_any' {s : List Int} {d : List Nat} (h : anyB endB d = true) : finT s d = false := by unfold finT; rw [h]; simp
theorem finT_none {s : List Int} {d : List Nat} (h : anyB endB d = false) : finT s d = mayT s d := by unfold finT; rw [h]; simp

end Go.Proofs.Ytefohemihiiceaa

/- Whole numbers below 2^53 as 64-bit numbers: what their words read as, and that their sums are exact; no program in it. -/
namespace Go.Proofs.Ytefohemihiiceaa

theorem log2_scale {n : Nat} (h : n ≠ 0) (s : Nat) : (n * 2 ^ s).log2 = n.log2 + s := by
  have h1 := (Nat.log2_eq_iff h).1 rfl
  have hp : 0 < 2 ^ s := Nat.two_pow_pos s
  refine (Nat.log2_eq_iff (Nat.mul_ne_zero h (by omega))).2 ⟨?_, ?_⟩
  · rw [Nat.pow_add]; exact Nat.mul_le_mul_right _ h1.1
  · rw [show n.log2 + s + 1 = (n.log2 + 1) + s by omega, Nat.pow_add]
    exact Nat.mul_lt_mul_of_pos_right h1.2 hp

theorem cut_zero (neg : Bool) (n : Nat) : Ieee.Toward.even.cut neg n 0 = n := by
  unfold Ieee.Toward.cut
  simp [Nat.mod_one]

theorem cut_exact (neg : Bool) (n k : Nat) (h : n ≠ 0) : Ieee.Toward.even.cut neg (n * 2 ^ k) k = n := by
  unfold Ieee.Toward.cut
  have e : min k ((n * 2 ^ k).log2 + 2) = k := by rw [log2_scale h]; omega
  have hp : 0 < 2 ^ k := Nat.two_pow_pos k
  simp only [e, Nat.shiftLeft_eq, Nat.one_mul, Nat.mul_mod_left, Nat.mul_div_cancel _ hp]
  have h1 : ¬ (2 ^ k < 2 * 0) := by omega
  have h2 : (2 ^ k == 2 * 0) = false := by rw [beq_eq_false_iff_ne]; omega
  simp [h1, h2]

/-- the rung of a whole number -/
def rungN (n : Nat) : Nat := (n.log2 + 1022) * 4503599627370496 + n * 2 ^ (52 - n.log2)

theorem log2_53 {n : Nat} (h : n ≠ 0) (hn : n < 9007199254740992) : n.log2 ≤ 52 := by
  have h1 := ((Nat.log2_eq_iff h).1 rfl).1
  have : ¬ 53 ≤ n.log2 := by
    intro h53
    have := Nat.pow_le_pow_right (show 0 < 2 by decide) h53
    have e : (2 : Nat) ^ 53 = 9007199254740992 := by decide
    omega
  omega

theorem mant {n : Nat} (h : n ≠ 0) (hn : n < 9007199254740992) : 4503599627370496 ≤ n * 2 ^ (52 - n.log2) ∧ n * 2 ^ (52 - n.log2) < 9007199254740992 := by
  have h1 := (Nat.log2_eq_iff h).1 rfl
  have h2 := log2_53 h hn
  have e : (2 : Nat) ^ 52 = 4503599627370496 := by decide
  have e' : (2 : Nat) ^ 53 = 9007199254740992 := by decide
  have hp : 0 < 2 ^ (52 - n.log2) := Nat.two_pow_pos _
  constructor
  · have := Nat.mul_le_mul_right (2 ^ (52 - n.log2)) h1.1
    rw [← Nat.pow_add, show n.log2 + (52 - n.log2) = 52 by omega, e] at this
    exact this
  · have := Nat.mul_lt_mul_of_pos_right h1.2 hp
    rw [← Nat.pow_add, show n.log2 + 1 + (52 - n.log2) = 53 by omega, e'] at this
    exact this

theorem near_scale (neg : Bool) {n : Nat} (h : n ≠ 0) (hn : n < 9007199254740992) (s : Nat) : DD.nearest neg (n * 2 ^ s) (-(s : Int)) = DD.word neg (rungN n) := by
  have hp : 0 < 2 ^ s := Nat.two_pow_pos s
  have hL := log2_53 h hn
  have hM := mant h hn
  unfold Ieee.Format.nearest
  rw [if_neg (Nat.mul_ne_zero h (by omega))]
  simp only [log2_scale h, dd_least, dd_frac, dd_binade, dd_inf]
  have e1 : max (-(s : Int) + ((n.log2 + s : Nat) : Int) - ((52 : Nat) : Int)) (-1074) = (n.log2 : Int) - 52 := by omega
  rw [e1]
  have e2 : ((n.log2 : Int) - 52 - -1074).toNat = n.log2 + 1022 := by omega
  rw [e2]
  have e3 : Ieee.Toward.even.cut neg ((n * 2 ^ s) <<< (-(s : Int) - ((n.log2 : Int) - 52)).toNat) (((n.log2 : Int) - 52) - -(s : Int)).toNat = n * 2 ^ (52 - n.log2) := by
    by_cases hs : s ≤ 52 - n.log2
    · have a1 : (-(s : Int) - ((n.log2 : Int) - 52)).toNat = 52 - n.log2 - s := by omega
      have a2 : (((n.log2 : Int) - 52) - -(s : Int)).toNat = 0 := by omega
      rw [a1, a2, cut_zero, Nat.shiftLeft_eq, Nat.mul_assoc, ← Nat.pow_add, show s + (52 - n.log2 - s) = 52 - n.log2 by omega]
    · have a1 : (-(s : Int) - ((n.log2 : Int) - 52)).toNat = 0 := by omega
      have a2 : (((n.log2 : Int) - 52) - -(s : Int)).toNat = s - (52 - n.log2) := by omega
      rw [a1, a2, Nat.shiftLeft_zero]
      have e : n * 2 ^ s = (n * 2 ^ (52 - n.log2)) * 2 ^ (s - (52 - n.log2)) := by
        rw [Nat.mul_assoc, ← Nat.pow_add, show 52 - n.log2 + (s - (52 - n.log2)) = s by omega]
      rw [e]
      exact cut_exact neg _ _ (by omega)
  rw [e3]
  have hr : rungN n ≤ 9218868437227405312 := by unfold rungN; omega
  unfold rungN at *
  rw [Nat.min_eq_left hr]

theorem read_rung (neg : Bool) {n : Nat} (h : n ≠ 0) (hn : n < 9007199254740992) : DD.read (DD.word neg (rungN n)) = .number neg (n * 2 ^ (52 - n.log2)) (-((52 - n.log2 : Nat) : Int)) := by
  have hL := log2_53 h hn
  have hM := mant h hn
  have hr : 4503599627370496 ≤ rungN n ∧ rungN n < 9218868437227405312 := by unfold rungN; omega
  rw [read_word neg _ (by omega), if_neg (by omega), if_pos hr.2]
  have e1 : rungN n % 4503599627370496 = n * 2 ^ (52 - n.log2) - 4503599627370496 := by unfold rungN; omega
  have e2 : rungN n / 4503599627370496 = n.log2 + 1023 := by unfold rungN; omega
  have e3 : 4503599627370496 + (n * 2 ^ (52 - n.log2) - 4503599627370496) = n * 2 ^ (52 - n.log2) := by omega
  have e4 : (-1074 : Int) + ((n.log2 + 1023 - 1 : Nat) : Int) = -((52 - n.log2 : Nat) : Int) := by omega
  rw [e1, e2, e3, e4]

/-- a whole number's word -/
def ofI (z : Int) : Nat := floatOfInt .f64 z
theorem ofI_eq (z : Int) : ofI z = DD.nearest (decide (z < 0)) z.natAbs 0 := rfl

theorem near_whole (neg : Bool) {n : Nat} (hn : n < 9007199254740992) (s : Nat) : DD.nearest neg (n * 2 ^ s) (-(s : Int)) = DD.nearest neg n 0 := by
  by_cases h : n = 0
  · subst h
    rw [Nat.zero_mul]
    unfold Ieee.Format.nearest
    rw [if_pos rfl, if_pos rfl]
  · rw [near_scale neg h hn s]
    have := near_scale neg h hn 0
    simp only [Nat.pow_zero, Nat.mul_one] at this
    exact this.symm

theorem read_ofI {z : Int} (hz : z.natAbs < 9007199254740992) : ∃ s : Nat, DD.read (ofI z) = .number (decide (z < 0)) (z.natAbs * 2 ^ s) (-(s : Int)) := by
  rw [ofI_eq]
  by_cases h : z.natAbs = 0
  · have hz0 : z = 0 := by omega
    subst hz0
    refine ⟨1074, ?_⟩
    decide +kernel
  · have := near_scale (decide (z < 0)) h hz 0
    simp only [Nat.pow_zero, Nat.mul_one] at this
    refine ⟨52 - z.natAbs.log2, ?_⟩
    rw [show (-((0 : Nat) : Int)) = 0 by rfl] at this
    rw [this]
    exact read_rung _ h hz

theorem nan_ofI (z : Int) : nanW (ofI z) = false := nan_nearest _ _ _
theorem cn_ofI (z : Int) : cn (ofI z) = ofI z := cn_num (nan_ofI z)

theorem signed_scale (z : Int) (s u : Nat) (h : s ≤ u) : Ieee.signed (decide (z < 0)) (z.natAbs * 2 ^ s) (u - s) = z * ((2 ^ u : Nat) : Int) := by
  unfold Ieee.signed
  rw [Nat.shiftLeft_eq, Nat.mul_assoc, ← Nat.pow_add, show s + (u - s) = u by omega]
  by_cases hz : z < 0
  · rw [if_pos (by simpa using hz)]
    have : (z.natAbs : Int) = -z := by omega
    rw [Int.natCast_mul, this, Int.neg_mul, Int.neg_neg]
  · rw [if_neg (by simpa using hz)]
    have : (z.natAbs : Int) = z := by omega
    rw [Int.natCast_mul, this]

theorem add_ofI {a b : Int} (ha : a.natAbs < 9007199254740992) (hb : b.natAbs < 9007199254740992) (hc : (a + b).natAbs < 9007199254740992) : DD.add (ofI a) (ofI b) = some (ofI (a + b)) := by
  obtain ⟨s, es⟩ := read_ofI ha
  obtain ⟨t, et⟩ := read_ofI hb
  unfold Ieee.Format.add
  rw [es, et]
  simp only [Ieee.Datum.sum]
  obtain ⟨u, hu⟩ : ∃ u : Nat, u = max s t := ⟨_, rfl⟩
  have e0 : min (-(s : Int)) (-(t : Int)) = -(u : Int) := by omega
  rw [e0]
  have e1 : (-(s : Int) - -(u : Int)).toNat = u - s := by omega
  have e2 : (-(t : Int) - -(u : Int)).toNat = u - t := by omega
  rw [e1, e2, signed_scale a s u (by omega), signed_scale b t u (by omega), ← Int.add_mul]
  have hp : 0 < ((2 ^ u : Nat) : Int) := by exact_mod_cast Nat.two_pow_pos u
  have en : ((a + b) * ((2 ^ u : Nat) : Int)).natAbs = (a + b).natAbs * 2 ^ u := by rw [Int.natAbs_mul]; rfl
  have es : (if (a + b) * ((2 ^ u : Nat) : Int) = 0 then decide (a < 0) && decide (b < 0) else decide ((a + b) * ((2 ^ u : Nat) : Int) < 0)) = decide (a + b < 0) := by
    by_cases h0 : a + b = 0
    · rw [h0, Int.zero_mul, if_pos rfl]
      by_cases h1 : a < 0
      · have h2 : ¬ b < 0 := by omega
        simp [h2]
      · simp [h1]
    · rw [if_neg (Int.mul_ne_zero h0 (by omega))]
      by_cases h1 : a + b < 0
      · have : (a + b) * ((2 ^ u : Nat) : Int) < 0 := Int.mul_neg_of_neg_of_pos h1 hp
        rw [decide_eq_true this, decide_eq_true h1]
      · have : ¬ (a + b) * ((2 ^ u : Nat) : Int) < 0 := by
          have : 0 ≤ (a + b) * ((2 ^ u : Nat) : Int) := Int.mul_nonneg (by omega) (by omega)
          omega
        rw [decide_eq_false this, decide_eq_false h1]
  rw [es, en]
  simp only [Option.map_some, Ieee.Format.write]
  rw [near_whole _ hc u, ← ofI_eq]

theorem adC_ofI {a b : Int} (ha : a.natAbs < 9007199254740992) (hb : b.natAbs < 9007199254740992) (hc : (a + b).natAbs < 9007199254740992) : adC (ofI a) (ofI b) = ofI (a + b) := by
  unfold adC
  rw [add_ofI ha hb hc]
  rfl

def sumI : List Int → Int
  | [] => 0
  | x :: l => x + sumI l
theorem sumI_append (l m : List Int) : sumI (l ++ m) = sumI l + sumI m := by
  induction l with
  | nil => simp [sumI]
  | cons x l ih => simp [sumI, ih, Int.add_assoc]
theorem sumI_bound {B : Nat} {l : List Int} (h : ∀ x ∈ l, x.natAbs ≤ B) : (sumI l).natAbs ≤ B * l.length := by
  induction l with
  | nil => simp [sumI]
  | cons x l ih =>
    have h1 := h x (by simp)
    have h2 := ih (fun y hy => h y (by simp [hy]))
    simp only [sumI, List.length_cons, Nat.mul_add, Nat.mul_one]
    omega
theorem ofI_zero : ofI 0 = 0 := by decide +kernel

theorem foldC_ofI {B : Nat} (n : Nat) (hB : B * n < 9007199254740992) : ∀ l : List Int, l.length ≤ n → (∀ x ∈ l, x.natAbs ≤ B) → foldC (l.map ofI) = ofI (sumI l) := by
  intro l
  induction hk : l.length using Nat.strongRecOn generalizing l with
  | _ k ih =>
    intro hn hl
    have hb : ∀ m : List Int, m.length ≤ n → (∀ x ∈ m, x.natAbs ≤ B) → (sumI m).natAbs < 9007199254740992 := fun m h1 h2 => Nat.lt_of_le_of_lt (Nat.le_trans (sumI_bound h2) (Nat.mul_le_mul_left B h1)) hB
    match l, hk with
    | [], _ => exact ofI_zero.symm
    | [x], _ =>
      show cn (ofI x) = _
      rw [cn_ofI]
      simp [sumI]
    | x :: y :: r, hk =>
      generalize hl2 : x :: y :: r = l at *
      have h2 : 2 ≤ l.length := by rw [← hl2]; simp
      have hlen : (l.map ofI).length = l.length := by simp
      rw [foldC_two (by omega), hlen, ← List.map_take, ← List.map_drop]
      have t1 : (l.take ((l.length + 1) / 2)).length = (l.length + 1) / 2 := by rw [List.length_take]; omega
      have t2 : (l.drop ((l.length + 1) / 2)).length = l.length - (l.length + 1) / 2 := by rw [List.length_drop]
      have m1 : ∀ x ∈ l.take ((l.length + 1) / 2), x.natAbs ≤ B := fun x hx => hl x (List.mem_of_mem_take hx)
      have m2 : ∀ x ∈ l.drop ((l.length + 1) / 2), x.natAbs ≤ B := fun x hx => hl x (List.mem_of_mem_drop hx)
      rw [ih _ (by omega) _ t1 (by omega) m1, ih _ (by omega) _ t2 (by omega) m2]
      have es : sumI l = sumI (l.take ((l.length + 1) / 2)) + sumI (l.drop ((l.length + 1) / 2)) := by rw [← sumI_append, List.take_append_drop]
      rw [adC_ofI (hb _ (by omega) m1) (hb _ (by omega) m2) (by rw [← es]; exact hb l (by omega) hl), ← es]

theorem rowC_ofI {B : Nat} (n : Nat) (hB : B * n < 9007199254740992) (l : List Int) (hn : l.length ≤ n) (hl : ∀ x ∈ l, x.natAbs ≤ B) : rowC (l.map ofI) = ofI (sumI l) := by
  have hb : ∀ m : List Int, m.length ≤ n → (∀ x ∈ m, x.natAbs ≤ B) → (sumI m).natAbs < 9007199254740992 := fun m h1 h2 => Nat.lt_of_le_of_lt (Nat.le_trans (sumI_bound h2) (Nat.mul_le_mul_left B h1)) hB
  have key : ∀ k, k ≤ l.length → rowC ((l.take k).map ofI) = ofI (sumI (l.take k)) := by
    intro k
    induction k with
    | zero => intro _; exact ofI_zero.symm
    | succ k ih =>
      intro hk
      have hlt : k < l.length := by omega
      have e : l.take (k + 1) = l.take k ++ [l[k]] := by rw [List.take_add_one, List.getElem?_eq_getElem hlt]; rfl
      have m0 : ∀ j, ∀ x ∈ l.take j, x.natAbs ≤ B := fun j x hx => hl x (List.mem_of_mem_take hx)
      have m1 : l[k].natAbs ≤ B := hl _ (List.getElem_mem hlt)
      have hbk := hb (l.take k) (by rw [List.length_take]; omega) (m0 k)
      have hbs := hb (l.take (k + 1)) (by rw [List.length_take]; omega) (m0 (k + 1))
      have h1 := hb [l[k]] (by simp; omega) (by intro x hx; cases List.mem_singleton.1 hx; exact m1)
      rw [e] at hbs ⊢
      rw [List.map_append, List.map_cons, List.map_nil, rowC_snoc, ih (by omega)]
      have es : sumI (l.take k ++ [l[k]]) = sumI (l.take k) + l[k] := by rw [sumI_append]; simp [sumI]
      rw [es] at hbs ⊢
      exact adC_ofI hbk (by simpa [sumI] using h1) hbs
  have := key l.length (Nat.le_refl _)
  rwa [List.take_length] at this

end Go.Proofs.Ytefohemihiiceaa

/- Whole numbers among the 64-bit ones, noughts of either sign: sums, folds, order, what came in; no program in it. -/
namespace Go.Proofs.Ytefohemihiiceaa

def I64b (x : Int) : Prop := -9223372036854775808 ≤ x ∧ x ≤ 9223372036854775807
def sg (s : Bool) (m : Nat) : Int := if s then -(m : Int) else (m : Int)
theorem signed_sg (s : Bool) (m u : Nat) : Ieee.signed s m u = sg s m * ((2 ^ u : Nat) : Int) := by
  unfold Ieee.signed sg
  rw [Nat.shiftLeft_eq]
  cases s
  · simp
  · simp [Int.neg_mul]
/-- x stands for the whole number z -/
def Wh (x : Nat) (z : Int) : Prop := ∃ (s : Bool) (m i : Nat), DD.read x = .number s m (-(i : Int)) ∧ sg s m = z * ((2 ^ i : Nat) : Int)

theorem Wh.nan {x : Nat} {z : Int} (h : Wh x z) : nanW x = false := by
  obtain ⟨s, m, i, e, _⟩ := h
  unfold nanW
  rw [e]
  rfl
theorem Wh.cn {x : Nat} {z : Int} (h : Wh x z) : cn x = x := cn_num h.nan

theorem wh_ofI {z : Int} (hz : z.natAbs < 9007199254740992) : Wh (ofI z) z := by
  obtain ⟨s, e⟩ := read_ofI hz
  refine ⟨_, _, s, e, ?_⟩
  have := signed_scale z s s (Nat.le_refl _)
  rw [Nat.sub_self, signed_sg] at this
  simpa using this
theorem wh_zero (neg : Bool) : Wh (DD.nearest neg 0 0) 0 := by
  refine ⟨neg, 0, 1074, ?_, ?_⟩
  · cases neg <;> decide +kernel
  · rw [Int.zero_mul]
    cases neg <;> rfl

theorem two_pos (u : Nat) : 0 < ((2 ^ u : Nat) : Int) := by exact_mod_cast Nat.two_pow_pos u
theorem wh_up {s : Bool} {m i u : Nat} {z : Int} (h : sg s m = z * ((2 ^ i : Nat) : Int)) (hu : i ≤ u) : Ieee.signed s m (u - i) = z * ((2 ^ u : Nat) : Int) := by
  rw [signed_sg, h, Int.mul_assoc, ← Int.natCast_mul, ← Nat.pow_add, show i + (u - i) = u by omega]

theorem adC_wh {x y : Nat} {a b : Int} (hx : Wh x a) (hy : Wh y b) (hc : (a + b).natAbs < 9007199254740992) : Wh (adC x y) (a + b) := by
  obtain ⟨s, m, i, ex, hm⟩ := hx
  obtain ⟨t, n, j, ey, hn⟩ := hy
  unfold adC Ieee.Format.add
  rw [ex, ey]
  simp only [Ieee.Datum.sum]
  obtain ⟨u, hu⟩ : ∃ u : Nat, u = max i j := ⟨_, rfl⟩
  have e0 : min (-(i : Int)) (-(j : Int)) = -(u : Int) := by omega
  rw [e0]
  have e1 : (-(i : Int) - -(u : Int)).toNat = u - i := by omega
  have e2 : (-(j : Int) - -(u : Int)).toNat = u - j := by omega
  rw [e1, e2, wh_up hm (by omega), wh_up hn (by omega), ← Int.add_mul]
  have hp := two_pos u
  have en : ((a + b) * ((2 ^ u : Nat) : Int)).natAbs = (a + b).natAbs * 2 ^ u := by rw [Int.natAbs_mul]; rfl
  simp only [Option.map_some, Ieee.Format.write, orN]
  rw [en, near_whole _ hc u]
  by_cases h0 : a + b = 0
  · rw [h0]
    exact wh_zero _
  · rw [if_neg (Int.mul_ne_zero h0 (by omega))]
    have es : decide ((a + b) * ((2 ^ u : Nat) : Int) < 0) = decide (a + b < 0) := by
      by_cases h1 : a + b < 0
      · rw [decide_eq_true (Int.mul_neg_of_neg_of_pos h1 hp), decide_eq_true h1]
      · have : ¬ (a + b) * ((2 ^ u : Nat) : Int) < 0 := by
          have : 0 ≤ (a + b) * ((2 ^ u : Nat) : Int) := Int.mul_nonneg (by omega) (by omega)
          omega
        rw [decide_eq_false this, decide_eq_false h1]
    rw [es, ← ofI_eq]
    exact wh_ofI hc

/-- pair by pair -/
def Whs : List Nat → List Int → Prop
  | [], [] => True
  | x :: l, z :: k => Wh x z ∧ Whs l k
  | _, _ => False
theorem Whs.len : ∀ {l : List Nat} {k : List Int}, Whs l k → l.length = k.length
  | [], [], _ => rfl
  | _ :: _, _ :: _, h => by simp [Whs.len h.2]
  | [], _ :: _, h => h.elim
  | _ :: _, [], h => h.elim
theorem Whs.take : ∀ {l : List Nat} {k : List Int} (n : Nat), Whs l k → Whs (l.take n) (k.take n)
  | _, _, 0, _ => by simp [Whs]
  | [], [], _ + 1, _ => by simp [Whs]
  | _ :: _, _ :: _, n + 1, h => ⟨h.1, Whs.take n h.2⟩
  | [], _ :: _, _ + 1, h => h.elim
  | _ :: _, [], _ + 1, h => h.elim
theorem Whs.drop : ∀ {l : List Nat} {k : List Int} (n : Nat), Whs l k → Whs (l.drop n) (k.drop n)
  | _, _, 0, h => h
  | [], [], _ + 1, _ => by simp [Whs]
  | _ :: _, _ :: _, n + 1, h => Whs.drop n h.2
  | [], _ :: _, _ + 1, h => h.elim
  | _ :: _, [], _ + 1, h => h.elim
theorem whs_mk : ∀ {l : List Nat} {k : List Int}, l.length = k.length → (∀ i, i < l.length → Wh (l.getD i 0) (k.getD i 0)) → Whs l k
  | [], [], _, _ => trivial
  | x :: l, z :: k, hl, h => ⟨by simpa using h 0 (by simp), whs_mk (by simpa using hl) (fun i hi => by simpa using h (i + 1) (by simpa using hi))⟩

theorem foldC_wh {B : Nat} (n : Nat) (hB : B * n < 9007199254740992) : ∀ (l : List Nat) (k : List Int), Whs l k → l.length ≤ n → (∀ x ∈ k, x.natAbs ≤ B) → Wh (foldC l) (sumI k) := by
  intro l
  induction hk : l.length using Nat.strongRecOn generalizing l with
  | _ c ih =>
    intro k hw hn hl
    have hb : ∀ m : List Int, m.length ≤ n → (∀ x ∈ m, x.natAbs ≤ B) → (sumI m).natAbs < 9007199254740992 := fun m h1 h2 => Nat.lt_of_le_of_lt (Nat.le_trans (sumI_bound h2) (Nat.mul_le_mul_left B h1)) hB
    match l, k, hk, hw with
    | [], [], _, _ =>
      rw [foldC_nil, ← ofI_zero]
      exact wh_ofI (by decide)
    | [x], [z], _, hw =>
      rw [foldC_one, hw.1.cn]
      simpa [sumI] using hw.1
    | x :: y :: r, k, hk, hw =>
      generalize hl2 : x :: y :: r = l at *
      have h2 : 2 ≤ l.length := by rw [← hl2]; simp
      have hlen := hw.len
      rw [foldC_two (by omega)]
      have t1 : (l.take ((l.length + 1) / 2)).length = (l.length + 1) / 2 := by rw [List.length_take]; omega
      have t2 : (l.drop ((l.length + 1) / 2)).length = l.length - (l.length + 1) / 2 := by rw [List.length_drop]
      have m1 : ∀ x ∈ k.take ((l.length + 1) / 2), x.natAbs ≤ B := fun x hx => hl x (List.mem_of_mem_take hx)
      have m2 : ∀ x ∈ k.drop ((l.length + 1) / 2), x.natAbs ≤ B := fun x hx => hl x (List.mem_of_mem_drop hx)
      have es : sumI k = sumI (k.take ((l.length + 1) / 2)) + sumI (k.drop ((l.length + 1) / 2)) := by rw [← sumI_append, List.take_append_drop]
      have a1 := ih _ (by omega) _ t1 _ (hw.take _) (by omega) m1
      have a2 := ih _ (by omega) _ t2 _ (hw.drop _) (by omega) m2
      rw [es]
      exact adC_wh a1 a2 (by rw [← es]; exact hb k (by omega) hl)
    | [x], _ :: _ :: _, _, hw => exact hw.2.elim
    | [], _ :: _, _, hw => exact hw.elim
    | [_], [], _, hw => exact hw.elim

theorem order_wh {x y : Nat} {z : Int} (hx : Wh x z) (hy : Wh y z) : (DD.order x y == some .eq) = true := by
  obtain ⟨s, m, i, ex, hm⟩ := hx
  obtain ⟨t, n, j, ey, hn⟩ := hy
  unfold Ieee.Format.order
  rw [ex, ey]
  simp only [Ieee.Datum.order]
  obtain ⟨u, hu⟩ : ∃ u : Nat, u = max i j := ⟨_, rfl⟩
  have e0 : min (-(i : Int)) (-(j : Int)) = -(u : Int) := by omega
  rw [e0]
  have e1 : (-(i : Int) - -(u : Int)).toNat = u - i := by omega
  have e2 : (-(j : Int) - -(u : Int)).toNat = u - j := by omega
  rw [e1, e2, wh_up hm (by omega), wh_up hn (by omega)]
  simp

theorem read_cases (x : Nat) : (∃ (s : Bool) (m i : Nat), DD.read x = .number s m (-(i : Int)) ∧ m < 9007199254740992) ∨ (∃ (s : Bool) (m i : Nat), DD.read x = .number s m ((i : Int) + 1) ∧ 4503599627370496 ≤ m) ∨ (∃ s, DD.read x = .infinity s) ∨ ∃ s t, DD.read x = .nan s t := by
  unfold Ieee.Format.read
  simp only [dd_binade, dd_inf, dd_sign, dd_least]
  generalize (x / 9223372036854775808 % 2 == 1) = s
  generalize x % 9223372036854775808 = r
  by_cases h1 : r < 4503599627370496
  · rw [if_pos h1]
    exact .inl ⟨s, r, 1074, rfl, by omega⟩
  · rw [if_neg h1]
    by_cases h2 : r < 9218868437227405312
    · rw [if_pos h2]
      by_cases h3 : (r / 4503599627370496 - 1) ≤ 1074
      · left
        refine ⟨s, 4503599627370496 + r % 4503599627370496, 1074 - (r / 4503599627370496 - 1), ?_, ?_⟩
        · generalize 4503599627370496 + r % 4503599627370496 = mm
          generalize r / 4503599627370496 - 1 = kk at *
          rw [show (-1074 + (kk : Int)) = -((1074 - kk : Nat) : Int) by omega]
        · have := Nat.mod_lt r (show 4503599627370496 > 0 by decide); omega
      · right; left
        refine ⟨s, 4503599627370496 + r % 4503599627370496, (r / 4503599627370496 - 1) - 1075, ?_, Nat.le_add_right _ _⟩
        generalize 4503599627370496 + r % 4503599627370496 = mm
        generalize r / 4503599627370496 - 1 = kk at *
        rw [show (-1074 + (kk : Int)) = ((kk - 1075 : Nat) : Int) + 1 by omega]
    · rw [if_neg h2]
      by_cases h3 : r = 9218868437227405312
      · rw [if_pos h3]; exact .inr (.inr (.inl ⟨s, rfl⟩))
      · rw [if_neg h3]; exact .inr (.inr (.inr ⟨s, _, rfl⟩))

theorem read_lo : DD.read 13875379345695965184 = .number true 8796093022208000 (-43) := by decide +kernel
theorem read_hi : DD.read 4652007308841189376 = .number false 8796093022208000 (-43) := by decide +kernel
theorem cmp_le {a b : Int} (h : compare a b = .lt ∨ compare a b = .eq) : a ≤ b := by
  rcases h with h | h
  · exact Int.le_of_lt (Int.compare_eq_lt.1 h)
  · rw [Int.compare_eq_eq.1 h]; omega
theorem cmp_ge {a b : Int} (h : compare a b = .gt ∨ compare a b = .eq) : b ≤ a := by
  rcases h with h | h
  · exact Int.le_of_lt (Int.compare_eq_gt.1 h)
  · rw [Int.compare_eq_eq.1 h]; omega

theorem cut_zero_le (neg : Bool) (n drop : Nat) : Ieee.Toward.zero.cut neg n drop ≤ n := by
  unfold Ieee.Toward.cut
  simp only [Bool.toNat_false, Nat.add_zero]
  exact Nat.div_le_self _ _

/-- a number between -1000 and 1000 is cut to an integer, and is that one if it equals it -/
theorem whole_in {x : Nat} (h1 : (DD.order x 13875379345695965184 == some .gt || DD.order x 13875379345695965184 == some .eq) = true) (h2 : (DD.order x 4652007308841189376 == some .lt || DD.order x 4652007308841189376 == some .eq) = true) :
    ∃ n : Int, floatToIntVal .f64 x .i64 = some n ∧ I64b n ∧ ((DD.order x (ofI n) == some .eq) = true → Wh x n ∧ n.natAbs ≤ 1000) := by
  simp only [Bool.or_eq_true, beq_iff_eq] at h1 h2
  unfold Ieee.Format.order at h1 h2
  rw [read_lo] at h1
  rw [read_hi] at h2
  rcases read_cases x with ⟨s, m, i, e, hm⟩ | ⟨s, m, i, e, hm⟩ | ⟨s, e⟩ | ⟨s, t, e⟩
  · rw [e] at h1 h2
    simp only [Ieee.Datum.order, Option.some.injEq] at h1 h2
    have g1 := cmp_ge h1
    have g2 := cmp_le h2
    clear h1 h2
    obtain ⟨v, hv⟩ : ∃ v : Nat, v = max i 43 := ⟨_, rfl⟩
    have e0 : min (-(i : Int)) (-43) = -(v : Int) := by omega
    rw [e0] at g1 g2
    have e1 : (-(i : Int) - -(v : Int)).toNat = v - i := by omega
    have e2 : (-43 - -(v : Int)).toNat = v - 43 := by omega
    rw [e1, e2, signed_sg, signed_sg] at g1 g2
    have hcut := cut_zero_le s (m <<< (0 : Nat)) i
    have hsh : m <<< (0 : Nat) = m := by simp
    rw [hsh] at hcut
    have hint : (DD.read x).toInt .zero = some (sg s (Ieee.Toward.zero.cut s m i)) := by
      rw [e]
      unfold Ieee.Datum.toInt Ieee.Datum.integral
      simp only
      rw [signed_sg]
      have q1 : (-(i : Int)).toNat = 0 := by omega
      have q2 : (- -(i : Int)).toNat = i := by omega
      rw [q1, q2, hsh]
      simp
    generalize Ieee.Toward.zero.cut s m i = c at *
    have hc : c < 9007199254740992 := by omega
    have hr : IntKind.i64.min ≤ sg s c ∧ sg s c ≤ IntKind.i64.max := by
      have q1 : IntKind.i64.min = -9223372036854775808 := by decide
      have q2 : IntKind.i64.max = 9223372036854775807 := by decide
      rw [q1, q2]
      unfold sg
      split <;> omega
    refine ⟨sg s c, ?_, ?_, ?_⟩
    · unfold floatToIntVal FloatKind.decode
      rw [show FloatKind.f64.format.read x = DD.read x from rfl, hint]
      simp only
      rw [if_pos hr]
    · unfold I64b sg
      split <;> omega
    · intro ho
      have hz : (sg s c).natAbs < 9007199254740992 := by unfold sg; split <;> omega
      generalize sg s c = n at *
      obtain ⟨t, et⟩ := read_ofI hz
      unfold Ieee.Format.order at ho
      rw [e, et] at ho
      simp only [Ieee.Datum.order, beq_iff_eq, Option.some.injEq] at ho
      have ho := Int.compare_eq_eq.1 ho
      obtain ⟨u, hu⟩ : ∃ u : Nat, u = max i t := ⟨_, rfl⟩
      have f0 : min (-(i : Int)) (-(t : Int)) = -(u : Int) := by omega
      have f1 : (-(i : Int) - -(u : Int)).toNat = u - i := by omega
      have f2 : (-(t : Int) - -(u : Int)).toNat = u - t := by omega
      rw [f0, f1, f2, signed_scale n t u (by omega), signed_sg] at ho
      have hp := two_pos (u - i)
      have hw : sg s m = n * ((2 ^ i : Nat) : Int) := by
        have : n * ((2 ^ u : Nat) : Int) = n * ((2 ^ i : Nat) : Int) * ((2 ^ (u - i) : Nat) : Int) := by
          rw [Int.mul_assoc, ← Int.natCast_mul, ← Nat.pow_add, show i + (u - i) = u by omega]
        rw [this] at ho
        exact Int.eq_of_mul_eq_mul_right (by omega) ho
      refine ⟨⟨s, m, i, e, hw⟩, ?_⟩
      have k1 := wh_up hw (show i ≤ v by omega)
      rw [signed_sg] at k1
      have k2 : ((8796093022208000 : Nat) : Int) * ((2 ^ (v - 43) : Nat) : Int) = 1000 * ((2 ^ v : Nat) : Int) := by
        rw [show (8796093022208000 : Nat) = 1000 * 2 ^ 43 by decide, Int.natCast_mul, Int.mul_assoc, ← Int.natCast_mul, ← Nat.pow_add, show 43 + (v - 43) = v by omega]
        rfl
      have k3 : sg true 8796093022208000 * ((2 ^ (v - 43) : Nat) : Int) = -1000 * ((2 ^ v : Nat) : Int) := by
        have : sg true 8796093022208000 = -((8796093022208000 : Nat) : Int) := rfl
        rw [this, Int.neg_mul, k2, Int.neg_mul]
      have k4 : sg false 8796093022208000 * ((2 ^ (v - 43) : Nat) : Int) = 1000 * ((2 ^ v : Nat) : Int) := k2
      rw [k1, k3] at g1
      rw [k1, k4] at g2
      have hv2 := two_pos v
      have r1 := Int.le_of_mul_le_mul_right g1 hv2
      have r2 := Int.le_of_mul_le_mul_right g2 hv2
      omega
  · exfalso
    rw [e] at h1 h2
    simp only [Ieee.Datum.order, Option.some.injEq] at h1 h2
    have g1 := cmp_ge h1
    have g2 := cmp_le h2
    have e0 : min ((i : Int) + 1) (-43) = -43 := by omega
    rw [e0] at g1 g2
    have e1 : ((i : Int) + 1 - -43).toNat = 44 + i := by omega
    have e2 : ((-43 : Int) - -43).toNat = 0 := by omega
    rw [e1, e2, signed_sg, signed_sg] at g1 g2
    have hp : 1 ≤ 2 ^ i := Nat.one_le_two_pow
    have hb : 4503599627370496 * 2 ^ 44 ≤ m * 2 ^ (44 + i) := by
      rw [Nat.pow_add]
      have : 2 ^ 44 ≤ 2 ^ 44 * 2 ^ i := Nat.le_mul_of_pos_right _ (by omega)
      exact Nat.mul_le_mul hm this
    have hb' : (79228162514264337593543950336 : Int) ≤ (m : Int) * ((2 ^ (44 + i) : Nat) : Int) := by
      rw [← Int.natCast_mul]
      have : 4503599627370496 * 2 ^ 44 = 79228162514264337593543950336 := by decide
      omega
    have c1 : sg true 8796093022208000 * ((2 ^ 0 : Nat) : Int) = -8796093022208000 := by decide
    have c2 : sg false 8796093022208000 * ((2 ^ 0 : Nat) : Int) = 8796093022208000 := by decide
    rw [c1] at g1
    rw [c2] at g2
    generalize ((2 ^ (44 + i) : Nat) : Int) = pw at *
    cases s
    · have : sg false m = (m : Int) := rfl
      rw [this] at g1 g2
      omega
    · have : sg true m = -(m : Int) := rfl
      rw [this, Int.neg_mul] at g1 g2
      omega
  · exfalso
    rw [e] at h1 h2
    cases s <;> simp [Ieee.Datum.order] at h1 h2
  · exfalso
    rw [e] at h1
    simp [Ieee.Datum.order] at h1

end Go.Proofs.Ytefohemihiiceaa

/- Plain mathematics of hooks: what each makes of a number, any NaN the same; hooks one behind the other; no program in it. -/
namespace Go.Proofs.Ytefohemihiiceaa
open Go.RowKit

/-- the number with the other sign -/
def ngN (x : Nat) : Nat := Op.negFloat .f64 x
theorem ngN_eq (x : Nat) : ngN x = x ^^^ 9223372036854775808 := rfl
theorem xor_top {r : Nat} (h : r < 9223372036854775808) : r ^^^ 9223372036854775808 = 9223372036854775808 + r := by
  have e : (9223372036854775808 : Nat) = 2 ^ 63 := by decide
  rw [e] at h ⊢
  apply Nat.eq_of_testBit_eq
  intro i
  rw [Nat.testBit_xor, Nat.testBit_two_pow]
  rcases Nat.lt_trichotomy i 63 with hi | rfl | hi
  · rw [Nat.testBit_two_pow_add_gt hi]
    have : decide (63 = i) = false := decide_eq_false (by omega)
    rw [this, Bool.xor_false]
  · rw [Nat.testBit_two_pow_add_eq]
    simp
  · have h1 : r.testBit i = false := Nat.testBit_lt_two_pow (Nat.lt_of_lt_of_le h (Nat.pow_le_pow_right (by decide) (by omega)))
    have h2 : (2 ^ 63 + r).testBit i = false := by
      apply Nat.testBit_lt_two_pow
      have : (2 : Nat) ^ 64 ≤ 2 ^ i := Nat.pow_le_pow_right (by decide) (by omega)
      have e' : (2 : Nat) ^ 64 = 2 ^ 63 + 2 ^ 63 := by decide
      omega
    rw [h1, h2]
    have : decide (63 = i) = false := decide_eq_false (by omega)
    rw [this]
    rfl
theorem ngN_word (s : Bool) {r : Nat} (h : r < 9223372036854775808) : ngN (DD.word s r) = DD.word (!s) r := by
  rw [ngN_eq]
  unfold Ieee.Format.word
  rw [dd_sign]
  cases s
  · exact xor_top h
  · show (9223372036854775808 + r) ^^^ 9223372036854775808 = r
    rw [← xor_top h, Nat.xor_assoc, Nat.xor_self, Nat.xor_zero]
theorem as_word {x : Nat} (h : W64 x) : ∃ s r, x = DD.word s r ∧ r < 9223372036854775808 := by
  unfold W64 at h
  by_cases hx : x < 9223372036854775808
  · exact ⟨false, x, rfl, hx⟩
  · refine ⟨true, x - 9223372036854775808, ?_, by omega⟩
    show x = DD.signWeight + _
    rw [dd_sign]
    omega
theorem ngN_w64 {x : Nat} (h : W64 x) : W64 (ngN x) := by
  obtain ⟨s, r, rfl, hr⟩ := as_word h
  rw [ngN_word s hr]
  unfold Ieee.Format.word W64
  rw [dd_sign]
  cases s <;> simp <;> omega
theorem read_ng {x : Nat} (h : W64 x) : DD.read (ngN x) = (DD.read x).opposite := by
  obtain ⟨s, r, rfl, hr⟩ := as_word h
  rw [ngN_word s hr, read_word _ _ hr, read_word _ _ hr]
  split
  · rfl
  · split
    · rfl
    · split <;> rfl

/-- is it not below nought? -/
def geB (x : Nat) : Bool := DD.order x 0 == some .gt || DD.order x 0 == some .eq
theorem read_zero : DD.read 0 = .number false 0 (-1074) := by decide
theorem cmp_ng {v : Int} (h : 0 ≤ v) : ¬ compare (-v) v = .gt := by
  rw [Int.compare_eq_gt]
  omega
/-- what is not below nought has its negative not above it -/
theorem ng_le {x : Nat} (h : W64 x) (hg : geB x = true) : (DD.order (ngN x) x == some .gt) = false := by
  unfold geB at hg
  unfold Ieee.Format.order at hg ⊢
  rw [read_ng h]
  rw [read_zero] at hg
  cases hx : DD.read x with
  | nan s t => rw [hx] at hg; simp [Ieee.Datum.order] at hg
  | infinity s =>
    rw [hx] at hg
    cases s
    · decide
    · simp [Ieee.Datum.order] at hg
  | number s m i =>
    rw [hx] at hg
    simp only [Ieee.Datum.order, Ieee.Datum.opposite, Int.min_self, Int.sub_self] at hg ⊢
    have hm : ∀ u, Ieee.signed (!s) m u = -Ieee.signed s m u := by
      intro u
      rw [signed_sg, signed_sg]
      unfold sg
      cases s <;> simp [Int.neg_mul]
    rw [hm]
    have h0 : 0 ≤ Ieee.signed s m (Int.toNat 0) := by
      have e0 : ∀ u, Ieee.signed false 0 u = 0 := by intro u; rw [signed_sg]; simp [sg]
      rw [e0] at hg
      have h1 : 0 ≤ Ieee.signed s m (i - min i (-1074)).toNat := by
        simp only [Bool.or_eq_true, beq_iff_eq, Option.some.injEq, Int.compare_eq_gt, Int.compare_eq_eq] at hg
        omega
      rw [signed_sg] at h1 ⊢
      have hp := two_pos (i - min i (-1074)).toNat
      have h2 : 0 ≤ sg s m := by
        apply Int.not_lt.1
        intro hlt
        have := Int.mul_neg_of_neg_of_pos hlt hp
        omega
      exact Int.mul_nonneg h2 (by have := two_pos (Int.toNat 0); omega)
    rw [beq_eq_false_iff_ne]
    intro e
    exact cmp_ng h0 (Option.some.inj e)

theorem order_nan {x : Nat} (h : nanW x = true) (y : Nat) : DD.order x y = none := by
  obtain ⟨s, t, e⟩ := read_nan h
  unfold Ieee.Format.order
  rw [e]
  cases DD.read y <;> rfl

/-- clipped to what lies between -X and X -/
def clN (X x : Nat) : Nat := if (DD.order x (ngN X) == some .lt) = true then ngN X else if (DD.order x X == some .gt) = true then X else x
theorem clN_lt {X x : Nat} (h : (DD.order x (ngN X) == some .lt) = true) : clN X x = ngN X := if_pos h
theorem clN_gt {X x : Nat} (h : (DD.order x (ngN X) == some .lt) = false) (h' : (DD.order x X == some .gt) = true) : clN X x = X := (if_neg (by rw [h]; decide)).trans (if_pos h')
theorem clN_in {X x : Nat} (h : (DD.order x (ngN X) == some .lt) = false) (h' : (DD.order x X == some .gt) = false) : clN X x = x := (if_neg (by rw [h]; decide)).trans (if_neg (by rw [h']; decide))
theorem clN_nan {X x : Nat} (h : nanW x = true) : clN X x = x := clN_in (by rw [order_nan h]; rfl) (by rw [order_nan h]; rfl)
theorem clN_w64 {X x : Nat} (h : W64 X) (h' : W64 x) : W64 (clN X x) := by
  unfold clN
  split
  · exact ngN_w64 h
  · split
    · exact h
    · exact h'

/-- a hook: what it does, and by what -/
structure Hk where
  k : Int
  x : Nat
def hnil : Hk := ⟨0, 0⟩
/-- what it makes of a number -/
def hkC (h : Hk) (x : Nat) : Nat := if h.k = 1 then muC x h.x else if h.k = 2 then cn (clN h.x x) else if h.k = 3 then 0 else cn x
theorem hkC_1 {h : Hk} (e : h.k = 1) (x : Nat) : hkC h x = muC x h.x := if_pos e
theorem hkC_2 {h : Hk} (e : h.k = 2) (x : Nat) : hkC h x = cn (clN h.x x) := (if_neg (by omega)).trans (if_pos e)
theorem hkC_3 {h : Hk} (e : h.k = 3) (x : Nat) : hkC h x = 0 := (if_neg (by omega)).trans ((if_neg (by omega)).trans (if_pos e))
theorem hkC_4 {h : Hk} (e : h.k = 4) (x : Nat) : hkC h x = cn x := (if_neg (by omega)).trans ((if_neg (by omega)).trans (if_neg (by omega)))
theorem hkC_cn (h : Hk) (x : Nat) : hkC h (cn x) = hkC h x := by
  cases hn : nanW x
  · rw [cn_num hn]
  · unfold hkC
    have h1 : muC (cn x) h.x = muC x h.x := by rw [← muC_cn (cn x) h.x, cn_cn, muC_cn]
    have h2 : cn (clN h.x (cn x)) = cn (clN h.x x) := by rw [clN_nan hn, clN_nan (by rw [nan_cn]; exact hn), cn_cn]
    rw [h1, h2, cn_cn]
theorem cn_hkC (h : Hk) (x : Nat) : cn (hkC h x) = hkC h x := by
  unfold hkC
  split
  · exact cn_muC _ _
  · split
    · exact cn_cn _
    · split
      · decide
      · exact cn_cn _
theorem endB_cn (x : Nat) : endB (cn x) = endB x := by
  cases hn : nanW x
  · rw [cn_num hn]
  · rw [endB_nan hn, endB_nan (by rw [nan_cn]; exact hn)]
theorem anyB_cn (d : List Nat) : anyB endB (d.map cn) = anyB endB d := by
  unfold anyB
  congr 1
  apply propext
  constructor
  · rintro ⟨j, hj, h⟩
    have hj' : j < d.length := by simpa using hj
    refine ⟨j, hj', ?_⟩
    have e : (d.map cn).getD j 0 = cn (d.getD j 0) := by simp [hj']
    rw [e, endB_cn] at h
    exact h
  · rintro ⟨j, hj, h⟩
    refine ⟨j, by simpa using hj, ?_⟩
    have e : (d.map cn).getD j 0 = cn (d.getD j 0) := by simp [hj]
    rw [e, endB_cn]
    exact h

/-- one hook of all numbers: none, if it is Finite and one of them is not -/
def oneH (h : Hk) (c : List Nat) : Option (List Nat) := if h.k = 4 ∧ anyB endB c = true then none else some (c.map (hkC h))
theorem oneH_bad {h : Hk} {c : List Nat} (e : h.k = 4) (b : anyB endB c = true) : oneH h c = none := if_pos ⟨e, b⟩
theorem oneH_fin {h : Hk} {c : List Nat} (b : anyB endB c = false) : oneH h c = some (c.map (hkC h)) := if_neg (fun e => by rw [b] at e; cases e.2)
theorem oneH_ok {h : Hk} {c : List Nat} (e : h.k ≠ 4) : oneH h c = some (c.map (hkC h)) := if_neg (fun q => e q.1)
/-- hooks one behind the other -/
def hkL (hs : List Hk) (c : List Nat) : Option (List Nat) := hs.foldl (fun o h => o.bind (oneH h)) (some c)
theorem foldl_none (hs : List Hk) : hs.foldl (fun o h => o.bind (oneH h)) none = (none : Option (List Nat)) := by
  induction hs with
  | nil => rfl
  | cons h t ih => exact ih
theorem hkL_nil (c : List Nat) : hkL [] c = some c := rfl
theorem hkL_app (hs ks : List Hk) (c : List Nat) : hkL (hs ++ ks) c = (hkL hs c).bind (hkL ks) := by
  unfold hkL
  rw [List.foldl_append]
  cases h : hs.foldl (fun o h => o.bind (oneH h)) (some c) with
  | none => rw [foldl_none]; rfl
  | some d => rfl
theorem take_hk {hs : List Hk} {j : Nat} (hj : j < hs.length) : hs.take (j + 1) = hs.take j ++ [hs.getD j hnil] := by
  have e : hs.getD j hnil = hs[j] := by simp [hj]
  rw [e, List.take_append_getElem]
theorem hkL_step {hs : List Hk} {j : Nat} (hj : j < hs.length) (c : List Nat) : hkL (hs.take (j + 1)) c = (hkL (hs.take j) c).bind (oneH (hs.getD j hnil)) := by
  rw [take_hk hj, hkL_app]
  cases hkL (hs.take j) c <;> rfl
theorem hkL_none {hs : List Hk} {j : Nat} {c : List Nat} (h : hkL (hs.take j) c = none) : hkL hs c = none := by
  rw [← List.take_append_drop j hs, hkL_app, h]
  rfl
theorem oneH_len {h : Hk} {c c' : List Nat} (e : oneH h c = some c') : c'.length = c.length := by
  unfold oneH at e
  split at e
  · cases e
  · cases e
    simp
theorem hkL_len : ∀ {hs : List Hk} {c c' : List Nat}, hkL hs c = some c' → c'.length = c.length
  | [], c, c', h => by cases h; rfl
  | k :: hs, c, c', h => by
    have e : hkL (k :: hs) c = (oneH k c).bind (hkL hs) := hkL_app [k] hs c
    rw [e] at h
    cases ho : oneH k c with
    | none => rw [ho] at h; cases h
    | some d =>
      rw [ho] at h
      rw [hkL_len (hs := hs) h, oneH_len ho]
theorem oneH_cn {h : Hk} {c c' : List Nat} (e : oneH h c = some c') : c'.map cn = c' := by
  unfold oneH at e
  split at e
  · cases e
  · cases e
    rw [List.map_map]
    apply List.map_congr_left
    intro x _
    exact cn_hkC h x
theorem hkL_cn : ∀ {hs : List Hk} {c c' : List Nat}, c.map cn = c → hkL hs c = some c' → c'.map cn = c'
  | [], c, c', hc, h => by cases h; exact hc
  | k :: hs, c, c', hc, h => by
    have e : hkL (k :: hs) c = (oneH k c).bind (hkL hs) := hkL_app [k] hs c
    rw [e] at h
    cases ho : oneH k c with
    | none => rw [ho] at h; cases h
    | some d =>
      rw [ho] at h
      exact hkL_cn (hs := hs) (oneH_cn ho) h

/-- is it no hook? -/
def wrB (h : Hk) : Bool := if h.k = 1 then false else if h.k = 2 then !geB h.x else if h.k = 3 ∨ h.k = 4 then DD.order h.x 0 != some .eq else true
theorem wrB_1 {h : Hk} (e : h.k = 1) : wrB h = false := if_pos e
theorem wrB_2 {h : Hk} (e : h.k = 2) : wrB h = !geB h.x := (if_neg (by omega)).trans (if_pos e)
theorem wrB_34 {h : Hk} (e : h.k = 3 ∨ h.k = 4) : wrB h = (DD.order h.x 0 != some .eq) := (if_neg (by omega)).trans ((if_neg (by omega)).trans (if_pos e))
theorem wrB_other {h : Hk} (e : ¬ (h.k = 1 ∨ h.k = 2 ∨ h.k = 3 ∨ h.k = 4)) : wrB h = true := (if_neg (by omega)).trans ((if_neg (by omega)).trans (if_neg (by omega)))
theorem wrB_kind {h : Hk} (e : wrB h = false) : h.k = 1 ∨ (h.k = 2 ∧ geB h.x = true) ∨ h.k = 3 ∨ h.k = 4 := by
  by_cases h1 : h.k = 1
  · exact .inl h1
  by_cases h2 : h.k = 2
  · rw [wrB_2 h2] at e
    exact .inr (.inl ⟨h2, by simpa using e⟩)
  by_cases h3 : h.k = 3
  · exact .inr (.inr (.inl h3))
  by_cases h4 : h.k = 4
  · exact .inr (.inr (.inr h4))
  rw [wrB_other (by omega)] at e
  cases e
def anyH (hs : List Hk) : Bool := decide (∃ j, j < hs.length ∧ wrB (hs.getD j hnil) = true)
theorem anyH_at {hs : List Hk} {k : Nat} (hk : k < hs.length) (h : wrB (hs.getD k hnil) = true) : anyH hs = true := decide_eq_true ⟨k, hk, h⟩
theorem anyH_no {hs : List Hk} (h : ∀ j, j < hs.length → wrB (hs.getD j hnil) = false) : anyH hs = false :=
  decide_eq_false (fun ⟨j, hj, e⟩ => by rw [h j hj] at e; cases e)
/-- may these be the hooks of a node? -/
def mayH (hs : List Hk) : Bool := decide (hs.length ≤ 4) && !anyH hs
theorem mayH_any {hs : List Hk} (h : anyH hs = true) : mayH hs = false := by unfold mayH; rw [h]; simp
theorem mayH_none {hs : List Hk} (h : anyH hs = false) : mayH hs = decide (hs.length ≤ 4) := by unfold mayH; rw [h]; simp
theorem mayH_long {hs : List Hk} (h : ¬ hs.length ≤ 4) : mayH hs = false := by unfold mayH; rw [decide_eq_false h]; rfl
theorem mayH_short {hs : List Hk} (h : hs.length ≤ 4) : mayH hs = !anyH hs := by unfold mayH; rw [decide_eq_true h]; rfl
theorem mayH_at {hs : List Hk} (h : mayH hs = true) {j : Nat} (hj : j < hs.length) : wrB (hs.getD j hnil) = false := by
  unfold mayH at h
  simp only [Bool.and_eq_true, Bool.not_eq_true'] at h
  have := of_decide_eq_false h.2
  cases e : wrB (hs.getD j hnil)
  · rfl
  · exact absurd ⟨j, hj, e⟩ this
theorem mayH_len {hs : List Hk} (h : mayH hs = true) : hs.length ≤ 4 := by
  unfold mayH at h
  simp only [Bool.and_eq_true] at h
  exact of_decide_eq_true h.1
theorem mayH_mk {hs : List Hk} (hl : hs.length ≤ 4) (h : ∀ j, j < hs.length → wrB (hs.getD j hnil) = false) : mayH hs = true := by rw [mayH_short hl, anyH_no h]; rfl

/-- what Do says of hooks and a tensor -/
def hoE (hs : List Hk) (s : List Int) (d : List Nat) : Int := if mayH hs = true then if mayT s d = true then if (hkL hs (d.map cn)).isSome = true then 0 else 8 else 2 else 8
def hoS (hs : List Hk) (s : List Int) (d : List Nat) : List Int := if hoE hs s d = 0 then s else []
def hoD (hs : List Hk) (s : List Int) (d : List Nat) : List Nat := if hoE hs s d = 0 then (hkL hs (d.map cn)).getD [] else []
theorem ho_may {hs : List Hk} {s : List Int} {d : List Nat} (h : mayH hs = false) : hoE hs s d = 8 ∧ hoS hs s d = [] ∧ hoD hs s d = [] := by
  have e : hoE hs s d = 8 := if_neg (by rw [h]; decide)
  exact ⟨e, if_neg (by omega), if_neg (by omega)⟩
theorem ho_ten {hs : List Hk} {s : List Int} {d : List Nat} (h : mayH hs = true) (h' : mayT s d = false) : hoE hs s d = 2 ∧ hoS hs s d = [] ∧ hoD hs s d = [] := by
  have e : hoE hs s d = 2 := (if_pos h).trans (if_neg (by rw [h']; decide))
  exact ⟨e, if_neg (by omega), if_neg (by omega)⟩
theorem ho_none {hs : List Hk} {s : List Int} {d : List Nat} (h : mayH hs = true) (h' : mayT s d = true) (hk : hkL hs (d.map cn) = none) : hoE hs s d = 8 ∧ hoS hs s d = [] ∧ hoD hs s d = [] := by
  have e : hoE hs s d = 8 := (if_pos h).trans ((if_pos h').trans (if_neg (by rw [hk]; decide)))
  exact ⟨e, if_neg (by omega), if_neg (by omega)⟩
theorem ho_some {hs : List Hk} {s : List Int} {d c : List Nat} (h : mayH hs = true) (h' : mayT s d = true) (hk : hkL hs (d.map cn) = some c) : hoE hs s d = 0 ∧ hoS hs s d = s ∧ hoD hs s d = c := by
  have e : hoE hs s d = 0 := (if_pos h).trans ((if_pos h').trans (if_pos (by rw [hk]; rfl)))
  exact ⟨e, if_pos e, (if_pos e).trans (by rw [hk]; rfl)⟩

end Go.Proofs.Ytefohemihiiceaa
