
/- Shapes as lists of integers: products, sizes, strides, places, broadcasts; no program in it. -/
import Derived.WalkKit
namespace Go.Proofs.Ytliddjpcbhdplaa

theorem getD_at {xs : List Int} {k : Nat} (hk : k < xs.length) : xs.getD k 0 = xs[k] := by simp [hk]

def prodL : List Int → Int
  | [] => 1
  | x :: r => x * prodL r

def Pos (xs : List Int) : Prop := ∀ x ∈ xs, 1 ≤ x

theorem Pos.cons {x : Int} {r : List Int} (h : Pos (x :: r)) : 1 ≤ x ∧ Pos r :=
  ⟨h x (by simp), fun y hy => h y (by simp [hy])⟩
theorem Pos.drop {xs : List Int} (h : Pos xs) (k : Nat) : Pos (xs.drop k) := fun x hx => h x (List.mem_of_mem_drop hx)
theorem Pos.take {xs : List Int} (h : Pos xs) (k : Nat) : Pos (xs.take k) := fun x hx => h x (List.mem_of_mem_take hx)
theorem Pos.getD {xs : List Int} (h : Pos xs) {k : Nat} (hk : k < xs.length) : 1 ≤ xs.getD k 0 := by
  rw [getD_at hk]; exact h _ (List.getElem_mem hk)

theorem mul_one_le {a b : Int} (ha : 1 ≤ a) (hb : 1 ≤ b) : 1 ≤ a * b := by
  have := Int.mul_le_mul ha hb (by omega) (by omega)
  simpa using this

theorem le_mul_one {a b : Int} (ha : 0 ≤ a) (hb : 1 ≤ b) : a ≤ a * b := by
  have := Int.mul_le_mul_of_nonneg_left hb ha
  simpa using this

theorem le_one_mul {a b : Int} (ha : 0 ≤ a) (hb : 1 ≤ b) : a ≤ b * a := by
  rw [Int.mul_comm]; exact le_mul_one ha hb

theorem prodL_pos : ∀ {xs : List Int}, Pos xs → 1 ≤ prodL xs
  | [], _ => by simp [prodL]
  | x :: r, h => by
    have h1 := h.cons
    exact mul_one_le h1.1 (prodL_pos h1.2)

theorem prodL_append : ∀ (xs ys : List Int), prodL (xs ++ ys) = prodL xs * prodL ys
  | [], ys => by simp [prodL]
  | x :: r, ys => by simp [prodL, prodL_append r ys, Int.mul_assoc]

theorem drop_cons {xs : List Int} {k : Nat} (hk : k < xs.length) : xs.drop k = xs.getD k 0 :: xs.drop (k + 1) := by
  rw [getD_at hk]; exact List.drop_eq_getElem_cons hk

theorem take_snoc {xs : List Int} {k : Nat} (hk : k < xs.length) : xs.take (k + 1) = xs.take k ++ [xs.getD k 0] := by
  rw [getD_at hk, List.take_succ_eq_append_getElem hk]

theorem prodL_drop {xs : List Int} {k : Nat} (hk : k < xs.length) : prodL (xs.drop k) = xs.getD k 0 * prodL (xs.drop (k + 1)) := by
  rw [drop_cons hk]; rfl

theorem prodL_take {xs : List Int} {k : Nat} (hk : k < xs.length) : prodL (xs.take (k + 1)) = prodL (xs.take k) * xs.getD k 0 := by
  rw [take_snoc hk, prodL_append]; simp [prodL]

theorem prodL_cut (xs : List Int) (k : Nat) : prodL xs = prodL (xs.take k) * prodL (xs.drop k) := by
  rw [← prodL_append, List.take_append_drop]

theorem prodL_drop_le {xs : List Int} (h : Pos xs) (k : Nat) : prodL (xs.drop k) ≤ prodL xs := by
  rw [prodL_cut xs k]
  exact le_one_mul (by have := prodL_pos (h.drop k); omega) (prodL_pos (h.take k))

theorem prodL_take_le {xs : List Int} (h : Pos xs) (k : Nat) : prodL (xs.take k) ≤ prodL xs := by
  rw [prodL_cut xs k]
  exact le_mul_one (by have := prodL_pos (h.take k); omega) (prodL_pos (h.drop k))

theorem getD_le_prodL {xs : List Int} (h : Pos xs) {k : Nat} (hk : k < xs.length) : xs.getD k 0 ≤ prodL xs := by
  have h1 := prodL_drop hk
  have h2 := prodL_drop_le h k
  have h3 := le_mul_one (a := xs.getD k 0) (by have := h.getD hk; omega) (prodL_pos (h.drop (k + 1)))
  omega

/-- what may be a shape -/
def Good (xs : List Int) : Prop := xs.length ≤ 4 ∧ Pos xs
def May (xs : List Int) : Prop := Good xs ∧ prodL xs ≤ 4096

theorem pos_iff (xs : List Int) : Pos xs ↔ ∀ k, k < xs.length → decide (1 ≤ xs.getD k 0) = true := by
  constructor
  · intro h k hk
    simpa using h.getD hk
  · intro h x hx
    obtain ⟨k, hk, rfl⟩ := List.mem_iff_getElem.1 hx
    have := h k hk
    rw [getD_at hk] at this
    simpa using this

def PosDec (xs : List Int) : Decidable (Pos xs) := decidable_of_iff _ (pos_iff xs).symm
def goodB (xs : List Int) : Bool := decide (xs.length ≤ 4) && decide (∀ k, k < xs.length → decide (1 ≤ xs.getD k 0) = true)
def mayB (xs : List Int) : Bool := goodB xs && decide (prodL xs ≤ 4096)
theorem goodB_iff (xs : List Int) : goodB xs = true ↔ Good xs := by simp only [goodB, Good, Bool.and_eq_true, decide_eq_true_eq, pos_iff]
theorem mayB_iff (xs : List Int) : mayB xs = true ↔ May xs := by simp only [mayB, May, Bool.and_eq_true, decide_eq_true_eq, goodB_iff]

/-- the size, and the error's number -/
def szN (xs : List Int) : Int := if mayB xs = true then prodL xs else 0
def szE (xs : List Int) : Int := if mayB xs = true then 0 else if goodB xs = true then 3 else 2

theorem szE_zero (xs : List Int) : (szE xs == 0) = mayB xs := by
  unfold szE
  cases h : mayB xs
  · cases h2 : goodB xs <;> simp
  · simp

theorem may_good {xs : List Int} (h : mayB xs = true) : Good xs := ((mayB_iff xs).1 h).1
theorem may_prod {xs : List Int} (h : mayB xs = true) : prodL xs ≤ 4096 := ((mayB_iff xs).1 h).2

/-- a product that is past the limit stays past it -/
theorem prod_over {xs : List Int} (h : Pos xs) {k : Nat} (hk : k < xs.length) (hp : 4096 / prodL (xs.take k) < xs.getD k 0) : 4096 < prodL xs := by
  have h1 := prodL_pos (h.take k)
  have h2 : 4096 < xs.getD k 0 * prodL (xs.take k) := (Int.ediv_lt_iff_lt_mul (by omega)).1 hp
  have h3 := prodL_take_le h (k + 1)
  rw [prodL_take hk, Int.mul_comm] at h3
  omega

theorem prod_under {xs : List Int} (h : Pos xs) {k : Nat} (hp : ¬ 4096 / prodL (xs.take k) < xs.getD k 0) : prodL (xs.take k) * xs.getD k 0 ≤ 4096 := by
  have h1 := prodL_pos (h.take k)
  have h2 : ¬ 4096 < xs.getD k 0 * prodL (xs.take k) := fun hc => hp ((Int.ediv_lt_iff_lt_mul (by omega)).2 hc)
  rw [Int.mul_comm]
  omega

/-- the product, or why there is none -/
def prN (xs : List Int) : Int := if prodL xs ≤ 4096 then prodL xs else 0
def prE (xs : List Int) : Int := if prodL xs ≤ 4096 then 0 else 3
theorem prN_yes {xs : List Int} (h : prodL xs ≤ 4096) : prN xs = prodL xs := if_pos h
theorem prE_yes {xs : List Int} (h : prodL xs ≤ 4096) : prE xs = 0 := if_pos h
theorem prN_no {xs : List Int} (h : 4096 < prodL xs) : prN xs = 0 := if_neg (Int.not_le.2 h)
theorem prE_no {xs : List Int} (h : 4096 < prodL xs) : prE xs = 3 := if_neg (Int.not_le.2 h)
theorem szN_good {xs : List Int} (h : goodB xs = true) : szN xs = prN xs := by unfold szN prN mayB; rw [h]; simp
theorem szE_good {xs : List Int} (h : goodB xs = true) : szE xs = prE xs := by unfold szE prE mayB; rw [h]; simp
theorem szN_bad {xs : List Int} (h : goodB xs = false) : szN xs = 0 := by unfold szN mayB; rw [h]; simp
theorem szE_bad {xs : List Int} (h : goodB xs = false) : szE xs = 2 := by unfold szE mayB; rw [h]; simp

/-- the strides of a shape -/
def sufs : List Int → List Int
  | [] => []
  | _ :: r => prodL r :: sufs r

theorem sufs_length : ∀ xs : List Int, (sufs xs).length = xs.length
  | [] => rfl
  | _ :: r => by simp [sufs, sufs_length r]

theorem sufs_drop : ∀ (xs : List Int) (k : Nat), (sufs xs).drop k = sufs (xs.drop k)
  | xs, 0 => by simp
  | [], k + 1 => by simp [sufs]
  | _ :: r, k + 1 => by simpa [sufs] using sufs_drop r k

theorem sufs_getD : ∀ (xs : List Int) (k : Nat), k < xs.length → (sufs xs).getD k 0 = prodL (xs.drop (k + 1))
  | _ :: r, 0, _ => by simp [sufs]
  | _ :: r, k + 1, h => by
    have := sufs_getD r k (by simpa using h)
    simpa [sufs] using this

def strN (xs : List Int) : List Int := if mayB xs = true then sufs xs else []

/-- where a place stands -/
def idx : List Int → List Int → Int
  | _ :: rs, a :: ra => a * prodL rs + idx rs ra
  | _, _ => 0

def Inside (s at_ : List Int) : Prop := ∀ k, k < s.length → 0 ≤ at_.getD k 0 ∧ at_.getD k 0 < s.getD k 0
def insB (s at_ : List Int) : Bool := decide (∀ k, k < s.length → (decide (0 ≤ at_.getD k 0) && decide (at_.getD k 0 < s.getD k 0)) = true)
theorem insB_iff (s at_ : List Int) : insB s at_ = true ↔ Inside s at_ := by
  simp only [insB, Inside, Bool.and_eq_true, decide_eq_true_eq]

theorem Inside.cons {s a : Int} {rs ra : List Int} (h : Inside (s :: rs) (a :: ra)) : (0 ≤ a ∧ a < s) ∧ Inside rs ra :=
  ⟨by simpa using h 0 (by simp), fun k hk => by simpa using h (k + 1) (by simpa using hk)⟩

theorem idx_bounds : ∀ {s a : List Int}, a.length = s.length → Inside s a → 0 ≤ idx s a ∧ idx s a < prodL s
  | [], [], _, _ => by simp [idx, prodL]
  | s :: rs, a :: ra, hl, h => by
    have h1 := h.cons
    have h2 := idx_bounds (s := rs) (a := ra) (by simpa using hl) h1.2
    have h3 : 0 ≤ a * prodL rs := Int.mul_nonneg h1.1.1 (by omega)
    have h4 : (a + 1) * prodL rs ≤ s * prodL rs := Int.mul_le_mul_of_nonneg_right (by omega) (by omega)
    rw [Int.add_mul, Int.one_mul] at h4
    simp only [idx, prodL]
    omega

theorem idx_drop {s a : List Int} (hl : a.length = s.length) {k : Nat} (hk : k < s.length) :
    idx (s.drop k) (a.drop k) = a.getD k 0 * prodL (s.drop (k + 1)) + idx (s.drop (k + 1)) (a.drop (k + 1)) := by
  rw [drop_cons hk, drop_cons (xs := a) (by omega)]
  simp [idx]

theorem Inside.drop {s a : List Int} (h : Inside s a) (k : Nat) : Inside (s.drop k) (a.drop k) := by
  intro j hj
  have h1 := h (k + j) (by simp at hj; omega)
  simpa [List.getD_eq_getElem?_getD] using h1

theorem idx_drop_le {s a : List Int} (hp : Pos s) (hl : a.length = s.length) (h : Inside s a) : ∀ k, idx (s.drop k) (a.drop k) ≤ idx s a
  | 0 => by simp
  | k + 1 => by
    have ih := idx_drop_le hp hl h k
    by_cases hk : k < s.length
    · rw [idx_drop hl hk] at ih
      have h1 := (h k hk).1
      have h2 := prodL_pos (hp.drop (k + 1))
      have h3 : 0 ≤ a.getD k 0 * prodL (s.drop (k + 1)) := Int.mul_nonneg h1 (by omega)
      omega
    · rw [List.drop_of_length_le (l := s) (by omega), List.drop_of_length_le (l := a) (by omega)]
      have := idx_bounds hl h
      simp [idx]
      omega

theorem idx_snoc : ∀ {s a : List Int} (m x : Int), a.length = s.length → idx (s ++ [m]) (a ++ [x]) = idx s a * m + x
  | [], [], m, x, _ => by simp [idx, prodL]
  | t :: s, y :: a, m, x, h => by
    have ih := idx_snoc (s := s) (a := a) m x (by simpa using h)
    simp only [List.cons_append, idx, ih, prodL_append, prodL, Int.mul_one]
    rw [Int.add_mul, Int.mul_assoc]
    omega

theorem idx_take {s a : List Int} (hl : a.length = s.length) {k : Nat} (hk : k < s.length) : idx (s.take (k + 1)) (a.take (k + 1)) = idx (s.take k) (a.take k) * s.getD k 0 + a.getD k 0 := by
  rw [take_snoc hk, take_snoc (xs := a) (by omega), idx_snoc]
  simp [hl]

theorem inside_take {s a : List Int} {k : Nat} (hk : k ≤ s.length) (hl : a.length = s.length) (h : ∀ j, j < k → 0 ≤ a.getD j 0 ∧ a.getD j 0 < s.getD j 0) : Inside (s.take k) (a.take k) := by
  intro j hj
  have hj' : j < k := by simp at hj; omega
  have := h j hj'
  simpa [List.getD_eq_getElem?_getD, List.getElem?_take, hj'] using this

def ixN (s at_ : List Int) : Int := if mayB s = true ∧ at_.length = s.length ∧ insB s at_ = true then idx s at_ else -1

/-- the place that stands at a number -/
def plc : List Int → Int → List Int
  | [], _ => []
  | _ :: r, i => i / prodL r :: plc r (i % prodL r)

theorem plc_length : ∀ (s : List Int) (i : Int), (plc s i).length = s.length
  | [], _ => rfl
  | _ :: r, i => by simp [plc, plc_length r]

theorem idx_plc : ∀ {s : List Int} {i : Int}, Pos s → 0 ≤ i → i < prodL s → idx s (plc s i) = i ∧ Inside s (plc s i)
  | [], i, _, h0, h1 => by
    simp [prodL] at h1
    refine ⟨by simp [idx]; omega, fun k hk => by simp at hk⟩
  | n :: r, i, hp, h0, h1 => by
    have hp' := hp.cons
    have hr := prodL_pos hp'.2
    have g0 := Int.emod_nonneg i (b := prodL r) (by omega)
    have g1 := Int.emod_lt_of_pos i (b := prodL r) (by omega)
    have ih := idx_plc hp'.2 g0 g1
    have hd : i / prodL r < n := Int.ediv_lt_of_lt_mul (by omega) (by simpa [prodL] using h1)
    have hn : 0 ≤ i / prodL r := Int.ediv_nonneg h0 (by omega)
    refine ⟨?_, ?_⟩
    · simp only [plc, idx, ih.1]
      rw [Int.mul_comm]
      exact Int.mul_ediv_add_emod i (prodL r)
    · intro k hk
      match k, hk with
      | 0, _ => simpa [plc] using ⟨hn, hd⟩
      | k + 1, hk => simpa [plc] using ih.2 k (by simpa using hk)

theorem plc_drop : ∀ (s : List Int) (i : Int) (k : Nat), k < s.length → ∃ j, (plc s i).drop k = plc (s.drop k) j ∧ plc s i = (plc s i).take k ++ plc (s.drop k) j
  | s, i, 0, _ => ⟨i, by simp, by simp⟩
  | n :: r, i, k + 1, h => by
    obtain ⟨j, h1, h2⟩ := plc_drop r (i % prodL r) k (by simpa using h)
    refine ⟨j, by simpa [plc] using h1, ?_⟩
    simp only [plc, List.take_succ_cons, List.cons_append, List.drop_succ_cons]
    rw [← h2]

theorem mod_mul_div {i m p : Int} (h0 : 0 ≤ i) (hm : 1 ≤ m) (hp : 1 ≤ p) : (i % (m * p)) / p = (i / p) % m ∧ (i % (m * p)) % p = i % p ∧ i / p / m = i / (m * p) := by
  obtain ⟨a, rfl⟩ := Int.eq_ofNat_of_zero_le h0
  obtain ⟨b, rfl⟩ := Int.eq_ofNat_of_zero_le (show 0 ≤ m by omega)
  obtain ⟨c, rfl⟩ := Int.eq_ofNat_of_zero_le (show 0 ≤ p by omega)
  refine ⟨?_, ?_, ?_⟩
  · have h := Nat.mod_mul_right_div_self a c b
    rw [Nat.mul_comm] at h
    exact_mod_cast h
  · have h := Nat.mod_mul_left_mod a b c
    exact_mod_cast h
  · have h := Nat.div_div_eq_div_mul a c b
    rw [Nat.mul_comm] at h
    exact_mod_cast h

theorem plc_down {s : List Int} {i : Int} (hp : Pos s) (h0 : 0 ≤ i) {k : Nat} (hk : k < s.length) :
    plc (s.drop k) (i % prodL (s.drop k)) = (i / prodL (s.drop (k + 1))) % s.getD k 0 :: plc (s.drop (k + 1)) (i % prodL (s.drop (k + 1))) ∧ i / prodL (s.drop (k + 1)) / s.getD k 0 = i / prodL (s.drop k) := by
  have h := mod_mul_div (i := i) h0 (hp.getD hk) (prodL_pos (hp.drop (k + 1)))
  rw [prodL_drop hk, drop_cons hk]
  simp only [plc]
  rw [h.1, h.2.1, h.2.2]
  exact ⟨rfl, rfl⟩

theorem plc_wf : ∀ {s : List Int} {i : Int}, Pos s → 0 ≤ i → i < prodL s → ∀ x ∈ plc s i, 0 ≤ x ∧ x < prodL s := by
  intro s i hp h0 h1 x hx
  obtain ⟨k, hk, rfl⟩ := List.mem_iff_getElem.1 hx
  have hi := (idx_plc hp h0 h1).2
  rw [plc_length] at hk
  have h2 := hi k hk
  have h3 := getD_le_prodL hp hk
  rw [getD_at (by rw [plc_length]; exact hk)] at h2
  omega

def plN (s : List Int) (i : Int) : List Int := if mayB s = true ∧ 0 ≤ i ∧ i < prodL s then plc s i else []

theorem ixN_yes {s a : List Int} (h1 : mayB s = true) (h2 : a.length = s.length) (h3 : insB s a = true) : ixN s a = idx s a := if_pos ⟨h1, h2, h3⟩
theorem ixN_no {s a : List Int} (h : mayB s = false ∨ a.length ≠ s.length ∨ insB s a = false) : ixN s a = -1 := by
  refine if_neg (fun h' => ?_)
  rcases h with h | h | h
  · rw [h'.1] at h; cases h
  · exact h h'.2.1
  · rw [h'.2.2] at h; cases h
theorem plN_yes {s : List Int} {i : Int} (h1 : mayB s = true) (h2 : 0 ≤ i) (h3 : i < prodL s) : plN s i = plc s i := if_pos ⟨h1, h2, h3⟩
theorem plN_no {s : List Int} {i : Int} (h : mayB s = false ∨ i < 0 ∨ prodL s ≤ i) : plN s i = [] := by
  refine if_neg (fun h' => ?_)
  rcases h with h | h | h
  · rw [h'.1] at h; cases h
  · omega
  · omega

/-- the k-th number from the end, or 1 -/
def fe (xs : List Int) (k : Nat) : Int := if k < xs.length then xs.getD (xs.length - 1 - k) 0 else 1
theorem fe_in {xs : List Int} {k : Nat} (h : k < xs.length) : fe xs k = xs.getD (xs.length - 1 - k) 0 := if_pos h
theorem fe_out {xs : List Int} {k : Nat} (h : xs.length ≤ k) : fe xs k = 1 := if_neg (by omega)
theorem fe_pos {xs : List Int} (h : Pos xs) (k : Nat) : 1 ≤ fe xs k := by
  by_cases hk : k < xs.length
  · rw [fe_in hk]; exact h.getD (by omega)
  · rw [fe_out (by omega)]; omega

/-- may the two numbers stand at one place? -/
def agB (x y : Int) : Bool := x == y || x == 1 || y == 1
def agAll (a b : List Int) : Bool := decide (∀ k, k < max a.length b.length → agB (fe a k) (fe b k) = true)
/-- the numbers of both, from the end -/
def joinR (a b : List Int) : Nat → List Int
  | 0 => []
  | k + 1 => max (fe a k) (fe b k) :: joinR a b k
/-- both, joined -/
def joinL (a b : List Int) : List Int := joinR a b (max a.length b.length)
theorem joinR_length (a b : List Int) : ∀ k, (joinR a b k).length = k
  | 0 => rfl
  | k + 1 => by simp [joinR, joinR_length a b k]
theorem joinL_length (a b : List Int) : (joinL a b).length = max a.length b.length := joinR_length _ _ _

def sprE (a b : List Int) : Int := if mayB a = true ∧ mayB b = true ∧ agAll a b = true then szE (joinL a b) else 2
def sprL (a b : List Int) : List Int := if mayB a = true ∧ mayB b = true ∧ agAll a b = true ∧ mayB (joinL a b) = true then joinL a b else []
def intoB (a b : List Int) : Bool := sprE a b == 0 && decide (sprL a b = b)

theorem spr_no {a b : List Int} (h : mayB a = false ∨ mayB b = false ∨ agAll a b = false) : sprE a b = 2 ∧ sprL a b = [] := by
  constructor
  · refine if_neg (fun h' => ?_)
    rcases h with h | h | h <;> simp_all
  · refine if_neg (fun h' => ?_)
    rcases h with h | h | h <;> simp_all
theorem sprE_yes {a b : List Int} (h1 : mayB a = true) (h2 : mayB b = true) (h3 : agAll a b = true) : sprE a b = szE (joinL a b) := if_pos ⟨h1, h2, h3⟩
theorem sprL_yes {a b : List Int} (h1 : mayB a = true) (h2 : mayB b = true) (h3 : agAll a b = true) (h4 : mayB (joinL a b) = true) : sprL a b = joinL a b := if_pos ⟨h1, h2, h3, h4⟩
theorem sprL_big {a b : List Int} (h4 : mayB (joinL a b) = false) : sprL a b = [] := if_neg (fun h => by rw [h.2.2.2] at h4; cases h4)

theorem agB_comm (x y : Int) : agB x y = agB y x := by
  unfold agB
  rw [Bool.eq_iff_iff]
  simp
  omega

theorem joinR_comm (a b : List Int) : ∀ k, joinR a b k = joinR b a k
  | 0 => rfl
  | k + 1 => by simp only [joinR, joinR_comm a b k, Int.max_comm]

theorem joinL_comm (a b : List Int) : joinL a b = joinL b a := by unfold joinL; rw [joinR_comm, Nat.max_comm]
theorem agAll_comm (a b : List Int) : agAll a b = agAll b a := by
  unfold agAll
  rw [Nat.max_comm]
  have : (fun k => agB (fe a k) (fe b k)) = fun k => agB (fe b k) (fe a k) := funext fun k => agB_comm _ _
  rw [Bool.eq_iff_iff]
  simp only [decide_eq_true_eq, agB_comm]

theorem sprE_comm (a b : List Int) : sprE a b = sprE b a := by
  unfold sprE
  rw [agAll_comm, joinL_comm]
  by_cases h1 : mayB a = true <;> by_cases h2 : mayB b = true <;> simp [h1, h2]

theorem sprL_comm (a b : List Int) : sprL a b = sprL b a := by
  unfold sprL
  rw [agAll_comm, joinL_comm]
  by_cases h1 : mayB a = true <;> by_cases h2 : mayB b = true <;> simp [h1, h2]

end Go.Proofs.Ytliddjpcbhdplaa
