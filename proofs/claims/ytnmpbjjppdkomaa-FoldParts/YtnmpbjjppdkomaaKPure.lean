
/- Plain mathematics of broadcasts: which number of a shape falls on a place of a greater one, how often each is taken, rows that are picked by number; no program in it. -/
import Derived.Test.YtnmpbjjppdkomaaPureB
namespace Go.Proofs.Ytnmpbjjppdkomaa

/-- i and what follows it by steps, n in all -/
def runL (i : Int) (n : Nat) (st : Int) : List Int := (List.range n).map fun k : Nat => i + (k : Int) * st
/-- the same for each of l -/
def onw : List Int → Nat → Int → List Int
  | [], _, _ => []
  | i :: l, n, st => runL i n st ++ onw l n st

theorem runL_length (i : Int) (n : Nat) (st : Int) : (runL i n st).length = n := by simp [runL]
theorem runL_getD (i : Int) {n k : Nat} (st : Int) (h : k < n) : (runL i n st).getD k 0 = i + (k : Int) * st := by
  simp [runL, h]
theorem runL_succ (i : Int) (n : Nat) (st : Int) : runL i (n + 1) st = runL i n st ++ [i + (n : Int) * st] := by
  simp [runL, List.range_succ]
theorem onw_length : ∀ (l : List Int) (n : Nat) (st : Int), (onw l n st).length = l.length * n
  | [], n, st => by simp [onw]
  | i :: l, n, st => by
    simp only [onw, List.length_append, runL_length, onw_length l n st, List.length_cons]
    rw [Nat.add_mul, Nat.one_mul, Nat.add_comm]
theorem onw_append : ∀ (l m : List Int) (n : Nat) (st : Int), onw (l ++ m) n st = onw l n st ++ onw m n st
  | [], m, n, st => by simp [onw]
  | i :: l, m, n, st => by simp only [List.cons_append, onw, onw_append l m n st, List.append_assoc]
theorem onw_take {l : List Int} {k : Nat} (n : Nat) (st : Int) (h : k < l.length) : onw (l.take (k + 1)) n st = onw (l.take k) n st ++ runL (l.getD k 0) n st := by
  rw [take_snoc h, onw_append]
  simp [onw]
theorem getD_app_l {l m : List Int} {k : Nat} (h : k < l.length) : (l ++ m).getD k 0 = l.getD k 0 := by
  rw [List.getD_eq_getElem?_getD, List.getElem?_append_left h, ← List.getD_eq_getElem?_getD]
theorem getD_app_r {l m : List Int} {k : Nat} : (l ++ m).getD (l.length + k) 0 = m.getD k 0 := by
  rw [List.getD_eq_getElem?_getD, List.getElem?_append_right (by omega), Nat.add_sub_cancel_left, ← List.getD_eq_getElem?_getD]
theorem onw_getD : ∀ {l : List Int} {n i j : Nat} (st : Int), i < l.length → j < n → (onw l n st).getD (i * n + j) 0 = l.getD i 0 + (j : Int) * st
  | x :: l, n, 0, j, st, _, hj => by
    simp only [onw, Nat.zero_mul, Nat.zero_add]
    rw [getD_app_l (by rw [runL_length]; exact hj), runL_getD _ _ hj]
    simp
  | x :: l, n, i + 1, j, st, hi, hj => by
    have ih := onw_getD (l := l) (n := n) (i := i) (j := j) st (by simpa using hi) hj
    have e : (i + 1) * n + j = (runL x n st).length + (i * n + j) := by rw [runL_length, Nat.add_mul]; omega
    simp only [onw]
    rw [e, getD_app_r, ih]
    simp

/-- all of them, place by place -/
def srcR : List Int → List Int → List Int → List Int
  | l, st :: ss, n :: r => srcR (onw l n.toNat st) ss r
  | l, _, _ => l
/-- how far one is at number i of the shape -/
def dotP : List Int → List Int → Int → Int
  | st :: ss, _ :: r, i => st * (i / prodL r) + dotP ss r (i % prodL r)
  | _, _, _ => 0

theorem prodN (r : List Int) (h : Pos r) : ∃ P : Nat, prodL r = (P : Int) ∧ 1 ≤ P := by
  have := prodL_pos h
  obtain ⟨P, hP⟩ := Int.eq_ofNat_of_zero_le (show 0 ≤ prodL r by omega)
  exact ⟨P, hP, by omega⟩

theorem srcR_spec : ∀ (r ss l : List Int), ss.length = r.length → Pos r →
    (srcR l ss r).length = l.length * (prodL r).toNat ∧ ∀ i j : Nat, i < l.length → (j : Int) < prodL r → (srcR l ss r).getD (i * (prodL r).toNat + j) 0 = l.getD i 0 + dotP ss r j
  | [], [], l, _, _ => by
    simp [srcR, prodL, dotP]
    intro i j hi hj
    have : j = 0 := by omega
    subst this
    simp
  | n :: r, st :: ss, l, hl, hp => by
    have hp' := hp.cons
    obtain ⟨P, hP, hP1⟩ := prodN r hp'.2
    obtain ⟨m, hm⟩ := Int.eq_ofNat_of_zero_le (show 0 ≤ n by omega)
    subst hm
    have ih := srcR_spec r ss (onw l m st) (by simpa using hl) hp'.2
    rw [hP] at ih
    have hprod : prodL ((m : Int) :: r) = ((m * P : Nat) : Int) := by simp [prodL, hP]
    rw [hprod]
    simp only [Int.toNat_natCast] at ih ⊢
    simp only [srcR, Int.toNat_natCast]
    refine ⟨by rw [ih.1, onw_length, Nat.mul_assoc], ?_⟩
    intro i j hi hj
    have hj' : j < m * P := by exact_mod_cast hj
    have hq : j / P < m := Nat.div_lt_of_lt_mul (by rw [Nat.mul_comm]; exact hj')
    have ht : j % P < P := Nat.mod_lt _ (by omega)
    have e : i * (m * P) + j = (i * m + j / P) * P + j % P := by
      have := Nat.div_add_mod j P
      rw [Nat.add_mul, Nat.mul_assoc, Nat.mul_comm (j / P) P]
      omega
    have hin : i * m + j / P < (onw l m st).length := by
      rw [onw_length]
      have : (i + 1) * m ≤ l.length * m := Nat.mul_le_mul_right m hi
      rw [Nat.add_mul] at this
      omega
    rw [e, ih.2 _ _ hin (by exact_mod_cast ht), onw_getD st hi hq]
    simp only [dotP, hP]
    rw [show ((j : Int) / (P : Int)) = ((j / P : Nat) : Int) by simp, show ((j : Int) % (P : Int)) = ((j % P : Nat) : Int) by simp, Int.mul_comm st]
    omega

/-- the steps of a shape: nowhere, where it has a 1 -/
def stp : List Int → List Int
  | [] => []
  | x :: r => (if x = 1 then 0 else prodL r) :: stp r
theorem stp_length : ∀ g : List Int, (stp g).length = g.length
  | [] => rfl
  | x :: r => by simp [stp, stp_length r]
/-- as many numbers as t has: ones in front -/
def padL (f t : List Int) : List Int := List.replicate (t.length - f.length) 1 ++ f
theorem padL_length {f t : List Int} (h : f.length ≤ t.length) : (padL f t).length = t.length := by simp [padL]; omega
theorem prodL_ones : ∀ n : Nat, prodL (List.replicate n 1) = 1
  | 0 => rfl
  | n + 1 => by simp [List.replicate_succ, prodL, prodL_ones n]
theorem prodL_pad (f t : List Int) : prodL (padL f t) = prodL f := by
  unfold padL
  rw [prodL_append, prodL_ones, Int.one_mul]
theorem stp_ones (f : List Int) : ∀ n : Nat, stp (List.replicate n 1 ++ f) = List.replicate n 0 ++ stp f
  | 0 => rfl
  | n + 1 => by simp [List.replicate_succ, stp, stp_ones f n]

/-- each number is that of the greater shape, or 1 -/
def Br : List Int → List Int → Prop
  | [], [] => True
  | m :: f, n :: r => (m = n ∨ m = 1) ∧ Br f r
  | _, _ => False
theorem Br.len : ∀ {g t : List Int}, Br g t → g.length = t.length
  | [], [], _ => rfl
  | m :: f, n :: r, h => by simp [Br.len h.2]
  | [], _ :: _, h => h.elim
  | _ :: _, [], h => h.elim
theorem br_mk : ∀ {g t : List Int}, g.length = t.length → (∀ k, k < t.length → g.getD k 0 = t.getD k 0 ∨ g.getD k 0 = 1) → Br g t
  | [], [], _, _ => trivial
  | m :: f, n :: r, hl, h => ⟨by simpa using h 0 (by simp), br_mk (by simpa using hl) (fun k hk => by simpa using h (k + 1) (by simpa using hk))⟩

theorem dotP_bounds : ∀ {g t : List Int} {j : Int}, Br g t → Pos t → 0 ≤ j → j < prodL t → 0 ≤ dotP (stp g) t j ∧ dotP (stp g) t j < prodL g
  | [], [], j, _, _, _, _ => by simp [stp, dotP, prodL]
  | m :: f, n :: r, j, h, hp, h0, h1 => by
    have hp' := hp.cons
    have hr := prodL_pos hp'.2
    have ih := dotP_bounds (j := j % prodL r) h.2 hp'.2 (Int.emod_nonneg j (by omega)) (Int.emod_lt_of_pos j (by omega))
    have hd : j / prodL r < n := Int.ediv_lt_of_lt_mul (by omega) (by simpa [prodL] using h1)
    have hn : 0 ≤ j / prodL r := Int.ediv_nonneg h0 (by omega)
    simp only [stp, dotP, prodL]
    by_cases hm : m = 1
    · subst hm
      simpa using ih
    · rw [if_neg hm]
      have hmn : m = n := h.1.resolve_right hm
      subst hmn
      generalize j / prodL r = q at *
      have h2 : prodL f * q + prodL f ≤ m * prodL f := by
        have := Int.mul_le_mul_of_nonneg_right (show q + 1 ≤ m by omega) (show 0 ≤ prodL f by omega)
        rw [Int.add_mul, Int.one_mul, Int.mul_comm q] at this
        exact this
      have h3 : 0 ≤ prodL f * q := Int.mul_nonneg (by omega) hn
      omega

theorem dotP_self : ∀ {t : List Int} {j : Int}, Pos t → 0 ≤ j → j < prodL t → dotP (stp t) t j = j
  | [], j, _, h0, h1 => by simp [prodL] at h1; simp [stp, dotP]; omega
  | n :: r, j, hp, h0, h1 => by
    have hp' := hp.cons
    have hr := prodL_pos hp'.2
    have ih := dotP_self (j := j % prodL r) hp'.2 (Int.emod_nonneg j (by omega)) (Int.emod_lt_of_pos j (by omega))
    simp only [stp, dotP]
    rw [ih]
    have e := Int.mul_ediv_add_emod j (prodL r)
    by_cases hm : n = 1
    · subst hm
      have : j / prodL r = 0 := Int.ediv_eq_zero_of_lt h0 (by simpa [prodL] using h1)
      rw [if_pos rfl]
      rw [this] at e
      simpa using e
    · rw [if_neg hm]
      exact e

/-- the source of number j -/
def usrc (f t : List Int) (j : Nat) : Int := dotP (stp (padL f t)) t j
/-- the sources of all numbers -/
def srcL (f t : List Int) : List Int := (List.range (prodL t).toNat).map (usrc f t)
theorem srcL_length (f t : List Int) : (srcL f t).length = (prodL t).toNat := by simp [srcL]
theorem srcL_getD {f t : List Int} {j : Nat} (h : j < (prodL t).toNat) : (srcL f t).getD j 0 = usrc f t j := by simp [srcL, h]
theorem srcL_is {f t : List Int} (hp : Pos t) (hl : f.length ≤ t.length) : srcR [0] (stp (padL f t)) t = srcL f t := by
  have h := srcR_spec t (stp (padL f t)) [0] (by rw [stp_length, padL_length hl]) hp
  apply List.ext_getElem
  · rw [h.1, srcL_length]; simp
  · intro i h1 h2
    have hi : i < (prodL t).toNat := by rw [srcL_length] at h2; exact h2
    have h3 := h.2 0 i (by simp) (by omega)
    rw [Nat.zero_mul, Nat.zero_add, getD_at h1] at h3
    have h4 := srcL_getD (f := f) hi
    rw [getD_at h2] at h4
    rw [h3, h4]
    simp [usrc]

theorem into_spec {f t : List Int} (h : intoB f t = true) : mayB f = true ∧ mayB t = true ∧ f.length ≤ t.length ∧ Br (padL f t) t := by
  unfold intoB at h
  simp only [Bool.and_eq_true, beq_iff_eq, decide_eq_true_eq] at h
  obtain ⟨h1, h2⟩ := h
  obtain ⟨m1, m2, ag, mj⟩ := (sprE_zero_iff f t).1 h1
  rw [sprL_yes m1 m2 ag mj] at h2
  have hl : f.length ≤ t.length := by
    have := congrArg List.length h2
    rw [joinL_length] at this
    omega
  refine ⟨m1, m2, hl, br_mk (padL_length hl) fun k hk => ?_⟩
  have pf := (may_good m1).2
  have pt := (may_good m2).2
  by_cases hk' : k < t.length - f.length
  · right
    unfold padL
    rw [getD_app_l (by simpa using hk')]
    simp [hk']
  · obtain ⟨j, rfl⟩ : ∃ j, k = (t.length - f.length) + j := ⟨k - (t.length - f.length), by omega⟩
    have e1 : (padL f t).getD (t.length - f.length + j) 0 = f.getD j 0 := by
      have := getD_app_r (l := List.replicate (t.length - f.length) (1 : Int)) (m := f) (k := j)
      rw [List.length_replicate] at this
      exact this
    rw [e1]
    have hj : j < f.length := by omega
    have ef : fe f (f.length - 1 - j) = f.getD j 0 := by
      rw [fe_in (by omega)]
      congr 1
      omega
    have et : fe t (f.length - 1 - j) = t.getD (t.length - f.length + j) 0 := by
      rw [fe_in (by omega)]
      congr 1
      omega
    have g := ag_all ag (f.length - 1 - j)
    have q := fe_join pf pt (f.length - 1 - j)
    rw [h2, et, ef] at q
    rw [ef, et] at g
    have p1 := pf.getD hj
    have p2 := pt.getD (show t.length - f.length + j < t.length by omega)
    unfold agB at g
    simp only [Bool.or_eq_true, beq_iff_eq] at g
    omega

theorem usrc_bounds {f t : List Int} (h : intoB f t = true) {j : Nat} (hj : j < (prodL t).toNat) : 0 ≤ usrc f t j ∧ usrc f t j < prodL f := by
  obtain ⟨m1, m2, hl, hb⟩ := into_spec h
  have := dotP_bounds (j := j) hb (may_good m2).2 (by omega) (by omega)
  rw [prodL_pad] at this
  exact this
theorem srcL_bounds {f t : List Int} (h : intoB f t = true) : ∀ x ∈ srcL f t, 0 ≤ x ∧ x < prodL f := by
  intro x hx
  obtain ⟨j, hj, rfl⟩ := List.mem_map.1 hx
  exact usrc_bounds h (by simpa using hj)

/-- how often each number is taken -/
theorem count_src : ∀ {g t : List Int} (v : Int), Br g t → Pos t → 0 ≤ v → v < prodL g →
    (((List.range (prodL t).toNat).countP fun j : Nat => dotP (stp g) t j == v : Nat) : Int) * prodL g = prodL t
  | [], [], v, _, _, h0, h1 => by
    simp [prodL] at h1
    have : v = 0 := by omega
    subst this
    simp [prodL, stp, dotP, List.range_succ]
  | m :: f, n :: r, v, h, hp, h0, h1 => by
    have hp' := hp.cons
    obtain ⟨P, hP, hP1⟩ := prodN r hp'.2
    obtain ⟨k, hk⟩ := Int.eq_ofNat_of_zero_le (show 0 ≤ n by omega)
    subst hk
    have hpf : 1 ≤ prodL f := by
      have := dotP_bounds (j := 0) h.2 hp'.2 (by omega) (by omega)
      omega
    have hprod : prodL ((k : Int) :: r) = ((k * P : Nat) : Int) := by simp [prodL, hP]
    have split : ∀ (c : Nat) (p : Nat → Bool), (List.range (c * P)).countP p = ((List.range c).map fun q => (List.range P).countP fun x => p (q * P + x)).sum := by
      intro c p
      induction c with
      | zero => simp
      | succ c ih =>
        rw [Nat.add_mul, Nat.one_mul, List.range_add, List.countP_append, ih, List.range_succ, List.map_append, List.sum_append]
        simp [List.countP_map, Function.comp_def]
    have step : ∀ q x : Nat, x < P → dotP (stp (m :: f)) ((k : Int) :: r) ((q * P + x : Nat) : Int) = (if m = 1 then 0 else prodL f) * (q : Int) + dotP (stp f) r (x : Int) := by
      intro q x hx
      simp only [stp, dotP, hP]
      have e1 : (((q * P + x : Nat) : Int) / (P : Int)) = (q : Int) := by
        rw [← Int.natCast_ediv, Nat.mul_comm, Nat.mul_add_div (by omega), Nat.div_eq_of_lt hx, Nat.add_zero]
      have e2 : (((q * P + x : Nat) : Int) % (P : Int)) = (x : Int) := by
        rw [← Int.natCast_emod, Nat.mul_comm, Nat.mul_add_mod, Nat.mod_eq_of_lt hx]
      rw [e1, e2]
    have ihb := fun x (hx : x < P) => dotP_bounds (j := (x : Int)) h.2 hp'.2 (by omega) (by omega)
    rw [hprod, Int.toNat_natCast, split]
    by_cases hm : m = 1
    · subst hm
      have hv : v < prodL f := by simpa [prodL] using h1
      have ih := count_src v h.2 hp'.2 h0 hv
      rw [hP, Int.toNat_natCast] at ih
      have e : ((List.range k).map fun q => (List.range P).countP fun x : Nat => dotP (stp (1 :: f)) ((k : Int) :: r) ((q * P + x : Nat) : Int) == v) = (List.range k).map fun _ => (List.range P).countP fun x : Nat => dotP (stp f) r (x : Int) == v := by
        apply List.map_congr_left
        intro q _
        apply List.countP_congr
        intro x hx
        rw [step q x (by simpa using hx)]
        simp
      rw [e]
      simp only [List.map_const', List.length_range, List.sum_replicate_nat]
      simp only [prodL, Int.one_mul]
      rw [Int.natCast_mul, Int.mul_assoc, ih]
      simp
    · have hmn : m = (k : Int) := h.1.resolve_right hm
      subst hmn
      have h1' : v < (k : Int) * prodL f := h1
      have q1 : 0 ≤ v / prodL f := Int.ediv_nonneg h0 (by omega)
      have q2 : v / prodL f < (k : Int) := Int.ediv_lt_of_lt_mul (by omega) h1'
      obtain ⟨a, ha⟩ := Int.eq_ofNat_of_zero_le q1
      have hv2 := Int.emod_nonneg v (b := prodL f) (by omega)
      have hv3 := Int.emod_lt_of_pos v (b := prodL f) (by omega)
      have hv4 := Int.mul_ediv_add_emod v (prodL f)
      have ih := count_src (v % prodL f) h.2 hp'.2 hv2 hv3
      rw [hP, Int.toNat_natCast] at ih
      have e : ((List.range k).map fun q => (List.range P).countP fun x : Nat => dotP (stp ((k : Int) :: f)) ((k : Int) :: r) ((q * P + x : Nat) : Int) == v) = (List.range k).map fun q => if q = a then (List.range P).countP fun x : Nat => dotP (stp f) r (x : Int) == v % prodL f else 0 := by
        apply List.map_congr_left
        intro q _
        by_cases hqa : q = a
        · rw [if_pos hqa]
          apply List.countP_congr
          intro x hx
          rw [step q x (by simpa using hx), if_neg hm, hqa]
          simp only [beq_iff_eq]
          rw [ha] at hv4
          omega
        · rw [if_neg hqa, List.countP_eq_zero]
          intro x hx
          have hx' : x < P := by simpa using hx
          rw [step q x hx', if_neg hm]
          have b := ihb x hx'
          simp only [beq_iff_eq]
          intro hc
          apply hqa
          have : (q : Int) = v / prodL f := by
            rw [← hc, Int.add_comm, Int.add_mul_ediv_left _ _ (by omega), Int.ediv_eq_zero_of_lt b.1 b.2]
            omega
          omega
      rw [e]
      have hs : ∀ c : Nat, ((List.range c).map fun q => if q = a then (List.range P).countP fun x : Nat => dotP (stp f) r (x : Int) == v % prodL f else 0).sum = if a < c then (List.range P).countP fun x : Nat => dotP (stp f) r (x : Int) == v % prodL f else 0 := by
        intro c
        induction c with
        | zero => simp
        | succ c ihc =>
          rw [List.range_succ, List.map_append, List.sum_append, ihc]
          simp only [List.map_cons, List.map_nil, List.sum_cons, List.sum_nil, Nat.add_zero]
          by_cases h1 : a < c
          · rw [if_pos h1, if_neg (by omega), if_pos (by omega)]; omega
          · rw [if_neg h1]
            by_cases h2 : c = a
            · rw [if_pos h2, if_pos (by omega)]; omega
            · rw [if_neg h2, if_neg (by omega)]
      rw [hs, if_pos (by omega)]
      simp only [prodL]
      rw [Int.mul_left_comm, ih]
      simp

/-- what stands where the sources say k, in its order -/
def pick : List Int → List Nat → Int → List Nat
  | s :: ss, x :: xs, k => if s = k then x :: pick ss xs k else pick ss xs k
  | _, _, _ => []
theorem pick_app : ∀ (s t : List Int) (x y : List Nat) (k : Int), s.length = x.length → pick (s ++ t) (x ++ y) k = pick s x k ++ pick t y k
  | [], t, [], y, k, _ => rfl
  | a :: s, t, b :: x, y, k, h => by
    have ih := pick_app s t x y k (by simpa using h)
    simp only [List.cons_append, pick, ih]
    split <;> simp
theorem take_snocN {xs : List Nat} {k : Nat} (hk : k < xs.length) : xs.take (k + 1) = xs.take k ++ [xs.getD k 0] := by
  rw [List.take_succ_eq_append_getElem hk]
  simp [hk]
theorem pick_take {s : List Int} {x : List Nat} {i : Nat} (k : Int) (hs : i < s.length) (hx : i < x.length) :
    pick (s.take (i + 1)) (x.take (i + 1)) k = pick (s.take i) (x.take i) k ++ if s.getD i 0 = k then [x.getD i 0] else [] := by
  rw [take_snoc hs, take_snocN hx, pick_app _ _ _ _ _ (by simp; omega)]
  simp [pick]
theorem pick_len : ∀ (s : List Int) (x : List Nat) (k : Int), s.length = x.length → (pick s x k).length = s.countP (· == k)
  | [], [], k, _ => rfl
  | a :: s, b :: x, k, h => by
    have ih := pick_len s x k (by simpa using h)
    simp only [pick, List.countP_cons, beq_iff_eq]
    split <;> simp [ih]
theorem pick_mem : ∀ {s : List Int} {x : List Nat} {k : Int} {y : Nat}, y ∈ pick s x k → y ∈ x
  | a :: s, b :: x, k, y, h => by
    simp only [pick] at h
    split at h
    · rcases List.mem_cons.1 h with rfl | h
      · simp
      · exact List.mem_cons_of_mem _ (pick_mem h)
    · exact List.mem_cons_of_mem _ (pick_mem h)
theorem countP_take_lt {s : List Int} {i : Nat} (h : i < s.length) : (s.take i).countP (· == s.getD i 0) < s.countP (· == s.getD i 0) := by
  have h1 : s.countP (· == s.getD i 0) = (s.take i).countP (· == s.getD i 0) + (s.drop i).countP (· == s.getD i 0) := by
    rw [← List.countP_append, List.take_append_drop]
  have h2 : 1 ≤ (s.drop i).countP (· == s.getD i 0) := by
    rw [drop_cons h, List.countP_cons]
    simp
  omega

/-- how many are taken for each number -/
theorem count_srcL {f t : List Int} (h : intoB f t = true) {k : Nat} (hk : (k : Int) < prodL f) : (srcL f t).countP (· == (k : Int)) * (prodL f).toNat = (prodL t).toNat := by
  obtain ⟨m1, m2, hl, hb⟩ := into_spec h
  have p := count_src (k : Int) hb (may_good m2).2 (by omega) (by rw [prodL_pad]; exact hk)
  rw [prodL_pad] at p
  have e : (srcL f t).countP (· == (k : Int)) = (List.range (prodL t).toNat).countP fun j : Nat => dotP (stp (padL f t)) t j == (k : Int) := by
    unfold srcL
    rw [List.countP_map]
    rfl
  rw [e]
  have q1 := prodL_pos (may_good m1).2
  have q2 := prodL_pos (may_good m2).2
  generalize (List.range (prodL t).toNat).countP (fun j : Nat => dotP (stp (padL f t)) t j == (k : Int)) = c at *
  obtain ⟨a, ha⟩ := Int.eq_ofNat_of_zero_le (show 0 ≤ prodL f by omega)
  obtain ⟨b, hb⟩ := Int.eq_ofNat_of_zero_le (show 0 ≤ prodL t by omega)
  rw [ha, hb] at p ⊢
  simp only [Int.toNat_natCast]
  exact_mod_cast p

end Go.Proofs.Ytnmpbjjppdkomaa
