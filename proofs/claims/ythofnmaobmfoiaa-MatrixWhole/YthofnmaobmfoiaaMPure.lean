
/- Matrices as rows of numbers: turned, multiplied; shapes of two places; no program in it. -/
import Derived.Test.YthofnmaobmfoiaaTenC
import Derived.Test.YthofnmaobmfoiaaRealB
namespace Go.Proofs.Ythofnmaobmfoiaa

theorem divs {r i k : Nat} (hi : i < r) : (k * r + i) / r = k ∧ (k * r + i) % r = i := by
  have h0 : 0 < r := by omega
  rw [Nat.mul_comm, Nat.mul_add_div h0, Nat.mul_add_mod, Nat.div_eq_of_lt hi, Nat.mod_eq_of_lt hi]
  omega
theorem inrow {r c i k : Nat} (hi : i < r) (hk : k < c) : i * c + k < r * c := by
  have h : (i + 1) * c ≤ r * c := Nat.mul_le_mul_right c hi
  rw [Nat.add_mul] at h
  omega
theorem map_range_snoc {f : Nat → Nat} (q : Nat) : (List.range (q + 1)).map f = (List.range q).map f ++ [f q] := by
  rw [List.range_succ, List.map_append]
  rfl
theorem range_getD {f : Nat → Nat} {n q : Nat} (h : q < n) : ((List.range n).map f).getD q 0 = f q := by
  simp [List.getD_eq_getElem?_getD, h]

/-- r rows of c numbers, turned -/
def turnAt (r c : Nat) (xs : List Nat) (q : Nat) : Nat := xs.getD ((q % r) * c + q / r) 0
def turnD (r c : Nat) (xs : List Nat) : List Nat := (List.range (c * r)).map (turnAt r c xs)
theorem turnAt_at {r c i k : Nat} {xs : List Nat} (hi : i < r) : turnAt r c xs (k * r + i) = xs.getD (i * c + k) 0 := by
  unfold turnAt
  rw [(divs hi).1, (divs hi).2]
theorem turnD_length (r c : Nat) (xs : List Nat) : (turnD r c xs).length = c * r := by simp [turnD]
theorem turnD_getD {r c i k : Nat} {xs : List Nat} (hi : i < r) (hk : k < c) : (turnD r c xs).getD (k * r + i) 0 = xs.getD (i * c + k) 0 := by
  unfold turnD
  rw [range_getD (inrow hk hi), turnAt_at hi]
theorem turnD_wf {r c : Nat} {xs : List Nat} {P : Nat → Prop} (h : ∀ k, P (xs.getD k 0)) : ∀ x ∈ turnD r c xs, P x := by
  intro x hx
  obtain ⟨q, _, rfl⟩ := List.mem_map.1 hx
  exact h _

/-- a column of what is turned is a row -/
theorem getD_ext {l m : List Nat} (hl : l.length = m.length) (h : ∀ q, q < l.length → l.getD q 0 = m.getD q 0) : l = m := by
  apply List.ext_getElem hl
  intro q h1 h2
  have := h q h1
  simpa [List.getD_eq_getElem?_getD, h1, h2] using this
theorem turn_turn {r c : Nat} {xs : List Nat} (hl : xs.length = r * c) : turnD c r (turnD r c xs) = xs := by
  apply getD_ext (by rw [turnD_length, hl])
  intro q hq
  rw [turnD_length] at hq
  have hc : 0 < c := Nat.pos_of_ne_zero (by rintro rfl; simp at hq)
  have h1 : q / c < r := Nat.div_lt_of_lt_mul (by rw [Nat.mul_comm]; exact hq)
  have h2 : q % c < c := Nat.mod_lt _ hc
  have h3 : q = (q / c) * c + q % c := by have := Nat.div_add_mod q c; rw [Nat.mul_comm] at this; omega
  rw [h3, turnD_getD h2 h1, turnD_getD h1 h2]

/-- the products of row i of the one and column k of the other -/
def prodsL (m n : Nat) (xs ys : List Nat) (i k : Nat) : List Nat := (List.range m).map (fun j => muC (xs.getD (i * m + j) 0) (ys.getD (j * n + k) 0))
def mulAt (m n : Nat) (xs ys : List Nat) (q : Nat) : Nat := rowC (prodsL m n xs ys (q / n) (q % n))
def mulL (p m n : Nat) (xs ys : List Nat) : List Nat := (List.range (p * n)).map (mulAt m n xs ys)
theorem mulAt_at {m n i k : Nat} {xs ys : List Nat} (hk : k < n) : mulAt m n xs ys (i * n + k) = rowC (prodsL m n xs ys i k) := by
  unfold mulAt
  rw [(divs hk).1, (divs hk).2]
theorem mulL_length (p m n : Nat) (xs ys : List Nat) : (mulL p m n xs ys).length = p * n := by simp [mulL]
theorem mulL_getD {p m n i k : Nat} {xs ys : List Nat} (hi : i < p) (hk : k < n) : (mulL p m n xs ys).getD (i * n + k) 0 = rowC (prodsL m n xs ys i k) := by
  unfold mulL
  rw [range_getD (inrow hi hk), mulAt_at hk]

theorem adC_cn_r (x y : Nat) : adC x (cn y) = adC x y := by
  rw [← adC_cn x (cn y), cn_cn, adC_cn]
theorem foldl_cn : ∀ (l : List Nat) (s : Nat), (l.map cn).foldl adC s = l.foldl adC s
  | [], _ => rfl
  | x :: l, s => by
    simp only [List.map_cons, List.foldl_cons, adC_cn_r]
    exact foldl_cn l _
theorem rowC_cn (l : List Nat) : rowC (l.map cn) = rowC l := foldl_cn l 0
theorem rowC_of {l m : List Nat} (h : l.map cn = m) : rowC l = rowC m := by rw [← h, rowC_cn]
theorem prodsL_cn (m n : Nat) (xs ys : List Nat) (i k : Nat) : (prodsL m n xs ys i k).map cn = prodsL m n xs ys i k := by
  unfold prodsL
  rw [List.map_map]
  apply List.map_congr_left
  intro j _
  exact cn_muC _ _
theorem prods_take {m n i k j : Nat} {xs ys : List Nat} : (List.range (j + 1)).map (fun j => muC (xs.getD (i * m + j) 0) (ys.getD (j * n + k) 0)) = (List.range j).map (fun j => muC (xs.getD (i * m + j) 0) (ys.getD (j * n + k) 0)) ++ [muC (xs.getD (i * m + j) 0) (ys.getD (j * n + k) 0)] := map_range_snoc j

theorem cn_rowC (l : List Nat) : cn (rowC l) = rowC l := by
  rcases List.eq_nil_or_concat l with rfl | ⟨r, x, rfl⟩
  · decide +kernel
  · rw [List.concat_eq_append, rowC_snoc, cn_adC]
theorem getD_mapcn (l : List Nat) (q : Nat) (h : q < l.length) : (l.map cn).getD q 0 = cn (l.getD q 0) := by
  simp [List.getD_eq_getElem?_getD, h]

/-- a shape of two places -/
theorem two_of {s : List Int} {d : List Nat} (h : mayT s d = true) (hl : s.length = 2) : ∃ p m : Nat, s = [(p : Int), (m : Int)] ∧ 1 ≤ p ∧ 1 ≤ m ∧ d.length = p * m ∧ p * m ≤ 4096 := by
  match s, hl with
  | [a, b], _ =>
    have hg := (may_good (mayT_may h)).2
    have ha := hg a (by simp)
    have hb := hg b (by simp)
    obtain ⟨p, rfl⟩ := Int.eq_ofNat_of_zero_le (show 0 ≤ a by omega)
    obtain ⟨m, rfl⟩ := Int.eq_ofNat_of_zero_le (show 0 ≤ b by omega)
    have h1 := mayT_len h
    have h2 := may_prod (mayT_may h)
    have e : prodL [(p : Int), (m : Int)] = ((p * m : Nat) : Int) := by simp [prodL]
    rw [e] at h1 h2
    exact ⟨p, m, rfl, by omega, by omega, by omega, by omega⟩
theorem good_two {p n : Nat} (hp : 1 ≤ p) (hn : 1 ≤ n) : goodB [(p : Int), (n : Int)] = true := by
  rw [goodB_iff]
  refine ⟨by simp, ?_⟩
  intro x hx
  simp at hx
  rcases hx with rfl | rfl <;> omega
theorem prodL_two (p n : Nat) : prodL [(p : Int), (n : Int)] = ((p * n : Nat) : Int) := by simp [prodL]
theorem may_two {p n : Nat} (hp : 1 ≤ p) (hn : 1 ≤ n) : mayB [(p : Int), (n : Int)] = decide (p * n ≤ 4096) := by
  unfold mayB
  rw [good_two hp hn, prodL_two, Bool.true_and]
  exact decide_eq_decide.2 (by omega)
theorem mayT_two {p n : Nat} {d : List Nat} (hp : 1 ≤ p) (hn : 1 ≤ n) (hd : d.length = p * n) (hm : p * n ≤ 4096) : mayT [(p : Int), (n : Int)] d = true := by
  unfold mayT
  rw [may_two hp hn, prodL_two, hd, decide_eq_true hm]
  simp
theorem szE_two {p n : Nat} (hp : 1 ≤ p) (hn : 1 ≤ n) (h : ¬ p * n ≤ 4096) : szE [(p : Int), (n : Int)] = 3 := by
  rw [szE_good (good_two hp hn), prE_no (by rw [prodL_two]; omega)]
theorem i64_two {p n : Nat} (hp : p ≤ 4096) (hn : n ≤ 4096) : ∀ x ∈ [(p : Int), (n : Int)], I64 x := by
  intro x hx
  simp at hx
  unfold I64
  rcases hx with rfl | rfl <;> omega
theorem le_mul_l {p m : Nat} (hm : 1 ≤ m) (h : p * m ≤ 4096) : p ≤ 4096 := Nat.le_trans (Nat.le_mul_of_pos_right p hm) h
theorem le_mul_r {p m : Nat} (hp : 1 ≤ p) (h : p * m ≤ 4096) : m ≤ 4096 := Nat.le_trans (Nat.le_mul_of_pos_left m hp) h

/-- may it be a matrix? -/
def matB (s : List Int) (d : List Nat) : Bool := mayT s d && ((s.length : Int) == 2)
theorem matB_yes {s : List Int} {d : List Nat} : matB s d = true ↔ mayT s d = true ∧ s.length = 2 := by
  unfold matB
  simp only [Bool.and_eq_true, beq_iff_eq]
  exact and_congr_right (fun _ => by omega)

/-- what Turn makes -/
def turS (s : List Int) (d : List Nat) : List Int := if matB s d = true then [s.getD 1 0, s.getD 0 0] else []
def turL (s : List Int) (d : List Nat) : List Nat := if matB s d = true then turnD (s.getD 0 0).toNat (s.getD 1 0).toNat d else []
def turE (s : List Int) (d : List Nat) : Int := if matB s d = true then 0 else 2
theorem tur_no {s : List Int} {d : List Nat} (h : matB s d = false) : turS s d = [] ∧ turL s d = [] ∧ turE s d = 2 := by
  unfold turS turL turE
  rw [h]
  exact ⟨rfl, rfl, rfl⟩
theorem tur_yes {p m : Nat} {d : List Nat} (h : matB [(p : Int), (m : Int)] d = true) : turS [(p : Int), (m : Int)] d = [(m : Int), (p : Int)] ∧ turL [(p : Int), (m : Int)] d = turnD p m d ∧ turE [(p : Int), (m : Int)] d = 0 := by
  unfold turS turL turE
  rw [if_pos h, if_pos h, if_pos h]
  exact ⟨rfl, rfl, rfl⟩

/-- what Mul makes -/
def fitB (f : List Int) (d : List Nat) (g : List Int) (e : List Nat) : Bool := matB f d && (matB g e && (f.getD 1 0 == g.getD 0 0))
def mshp (f g : List Int) : List Int := [f.getD 0 0, g.getD 1 0]
def mulB (f : List Int) (d : List Nat) (g : List Int) (e : List Nat) : Bool := fitB f d g e && mayB (mshp f g)
def mulS (f : List Int) (d : List Nat) (g : List Int) (e : List Nat) : List Int := if mulB f d g e = true then mshp f g else []
def mulD (f : List Int) (d : List Nat) (g : List Int) (e : List Nat) : List Nat := if mulB f d g e = true then mulL (f.getD 0 0).toNat (f.getD 1 0).toNat (g.getD 1 0).toNat d e else []
def mulE (f : List Int) (d : List Nat) (g : List Int) (e : List Nat) : Int := if fitB f d g e = true then szE (mshp f g) else 2
theorem mul_nofit {f g : List Int} {d e : List Nat} (h : fitB f d g e = false) : mulS f d g e = [] ∧ mulD f d g e = [] ∧ mulE f d g e = 2 := by
  unfold mulS mulD mulE mulB
  rw [h]
  exact ⟨rfl, rfl, rfl⟩
theorem fit_of {f g : List Int} {d e : List Nat} (h : fitB f d g e = true) : ∃ p m n : Nat, f = [(p : Int), (m : Int)] ∧ g = [(m : Int), (n : Int)] ∧ 1 ≤ p ∧ 1 ≤ m ∧ 1 ≤ n ∧ d.length = p * m ∧ p * m ≤ 4096 ∧ e.length = m * n ∧ m * n ≤ 4096 := by
  unfold fitB at h
  simp only [Bool.and_eq_true, beq_iff_eq, matB_yes] at h
  obtain ⟨⟨h1, h2⟩, ⟨h3, h4⟩, h5⟩ := h
  obtain ⟨p, m, rfl, p1, m1, dl, dm⟩ := two_of h1 h2
  obtain ⟨m', n, rfl, m1', n1, el, em⟩ := two_of h3 h4
  have h5 : (m : Int) = (m' : Int) := h5
  obtain rfl : m = m' := by omega
  exact ⟨p, m, n, rfl, rfl, p1, m1, n1, dl, dm, el, em⟩
theorem mul_yes {p m n : Nat} {d e : List Nat} (h : fitB [(p : Int), (m : Int)] d [(m : Int), (n : Int)] e = true) (p1 : 1 ≤ p) (n1 : 1 ≤ n) (hs : p * n ≤ 4096) :
    mulS [(p : Int), (m : Int)] d [(m : Int), (n : Int)] e = [(p : Int), (n : Int)] ∧ mulD [(p : Int), (m : Int)] d [(m : Int), (n : Int)] e = mulL p m n d e ∧ mulE [(p : Int), (m : Int)] d [(m : Int), (n : Int)] e = 0 := by
  have hb : mayB [(p : Int), (n : Int)] = true := by rw [may_two p1 n1]; exact decide_eq_true hs
  have hm : mshp [(p : Int), (m : Int)] [(m : Int), (n : Int)] = [(p : Int), (n : Int)] := rfl
  unfold mulS mulD mulE mulB
  rw [h, hm, hb]
  exact ⟨rfl, rfl, szE_yes hb⟩
theorem mul_big {p m n : Nat} {d e : List Nat} (h : fitB [(p : Int), (m : Int)] d [(m : Int), (n : Int)] e = true) (p1 : 1 ≤ p) (n1 : 1 ≤ n) (hs : ¬ p * n ≤ 4096) :
    mulS [(p : Int), (m : Int)] d [(m : Int), (n : Int)] e = [] ∧ mulD [(p : Int), (m : Int)] d [(m : Int), (n : Int)] e = [] ∧ mulE [(p : Int), (m : Int)] d [(m : Int), (n : Int)] e = 3 := by
  have hb : mayB [(p : Int), (n : Int)] = false := by rw [may_two p1 n1]; exact decide_eq_false hs
  have hm : mshp [(p : Int), (m : Int)] [(m : Int), (n : Int)] = [(p : Int), (n : Int)] := rfl
  unfold mulS mulD mulE mulB
  rw [h, hm, hb]
  exact ⟨rfl, rfl, szE_two p1 n1 hs⟩

end Go.Proofs.Ythofnmaobmfoiaa
