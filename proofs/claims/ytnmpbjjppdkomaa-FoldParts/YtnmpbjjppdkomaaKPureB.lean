
/- Plain mathematics of what is gathered: rows of one length, filled in any order; no program in it. -/
import Derived.Test.YtnmpbjjppdkomaaKPure
namespace Go.Proofs.Ytnmpbjjppdkomaa

/-- the rows while they are filled: k numbers have been laid -/
structure Gi (S : List Int) (d : List Nat) (n M k : Nat) (rows : List Nat) (filled : List Int) : Prop where
  rlen : rows.length = n * M
  flen : filled.length = n
  fil : ∀ j, j < n → filled.getD j 0 = ((pick (S.take k) (d.take k) (j : Int)).length : Int)
  row : ∀ j, j < n → ∀ i, i < (pick (S.take k) (d.take k) (j : Int)).length → rows.getD (j * M + i) 0 = (pick (S.take k) (d.take k) (j : Int)).getD i 0

theorem Gi.start (S : List Int) (d : List Nat) (n M : Nat) : Gi S d n M 0 (List.replicate (n * M) 0) (List.replicate n 0) := by
  refine ⟨by simp, by simp, fun j hj => ?_, fun j hj i hi => ?_⟩
  · simp [pick, hj]
  · simp [pick] at hi

theorem getD_set_ne {l : List Nat} {i k x : Nat} (h : i ≠ k) : (l.set i x).getD k 0 = l.getD k 0 := by
  simp [List.getD_eq_getElem?_getD, h]
theorem getD_set_eq {l : List Nat} {i x : Nat} (h : i < l.length) : (l.set i x).getD i 0 = x := by simp [h]
theorem getDI_set_ne {l : List Int} {i k : Nat} {x : Int} (h : i ≠ k) : (l.set i x).getD k 0 = l.getD k 0 := by
  simp [List.getD_eq_getElem?_getD, h]
theorem getDN_app_l {l m : List Nat} {k : Nat} (h : k < l.length) : (l ++ m).getD k 0 = l.getD k 0 := by
  rw [List.getD_eq_getElem?_getD, List.getElem?_append_left h, ← List.getD_eq_getElem?_getD]
theorem getDN_last {l : List Nat} {x : Nat} : (l ++ [x]).getD l.length 0 = x := by
  rw [List.getD_eq_getElem?_getD, List.getElem?_append_right (by omega), Nat.sub_self]; rfl

theorem Gi.step {S : List Int} {d : List Nat} {n M k : Nat} {rows : List Nat} {filled : List Int} (h : Gi S d n M k rows filled) (hS : k < S.length) (hd : k < d.length) {j : Nat} (hj : S.getD k 0 = (j : Int)) (hjn : j < n)
    (hM : ∀ j, j < n → S.countP (· == (j : Int)) = M) (hl : S.length = d.length) :
    ∃ c : Nat, filled.getD j 0 = (c : Int) ∧ c < M ∧ Gi S d n M (k + 1) (rows.set (j * M + c) (d.getD k 0)) (filled.set j ((c : Int) + 1)) := by
  have hc : (pick (S.take k) (d.take k) (j : Int)).length < M := by
    rw [pick_len _ _ _ (by simp [hl]), ← hM j hjn, ← hj]
    exact countP_take_lt hS
  have hb : ∀ {a b c : Nat}, a < n → b < M → a * M + b < n * M := by
    intro a b c ha hb
    have : (a + 1) * M ≤ n * M := Nat.mul_le_mul_right M ha
    rw [Nat.add_mul] at this
    omega
  have hlt : j * M + (pick (S.take k) (d.take k) (j : Int)).length < rows.length := by rw [h.rlen]; exact hb (c := 0) hjn hc
  have hpk : ∀ j', j' < n → (pick (S.take k) (d.take k) (j' : Int)).length ≤ M := by
    intro j' hj'
    rw [pick_len _ _ _ (by simp [hl]), ← hM j' hj']
    exact List.Sublist.countP_le (List.take_sublist _ _)
  refine ⟨_, h.fil j hjn, hc, ⟨by simpa using h.rlen, by simpa using h.flen, fun j' hj' => ?_, fun j' hj' i hi => ?_⟩⟩
  · rw [pick_take _ hS hd, hj]
    by_cases e : j = j'
    · subst e
      rw [if_pos rfl, List.length_append, List.length_singleton]
      have : (filled.set j (((pick (S.take k) (d.take k) (j : Int)).length : Int) + 1)).getD j 0 = ((pick (S.take k) (d.take k) (j : Int)).length : Int) + 1 := by simp [h.flen, hjn]
      rw [this]
      omega
    · rw [if_neg (by omega), List.append_nil, getDI_set_ne e]
      exact h.fil j' hj'
  · rw [pick_take _ hS hd, hj] at hi ⊢
    by_cases e : j = j'
    · subst e
      rw [if_pos rfl] at hi ⊢
      rw [List.length_append, List.length_singleton] at hi
      by_cases e2 : i = (pick (S.take k) (d.take k) (j : Int)).length
      · subst e2
        rw [getD_set_eq hlt, getDN_last]
      · rw [getD_set_ne (by omega), getDN_app_l (by omega)]
        exact h.row j hjn i (by omega)
    · rw [if_neg (by omega), List.append_nil] at hi ⊢
      rw [getD_set_ne ?_]
      · exact h.row j' hj' i hi
      · intro e2
        have h1 := hpk j' hj'
        have q1 : (j * M + (pick (S.take k) (d.take k) (j : Int)).length) / M = j := by
          rw [Nat.mul_comm, Nat.mul_add_div (by omega), Nat.div_eq_of_lt hc, Nat.add_zero]
        have q2 : (j' * M + i) / M = j' := by
          rw [Nat.mul_comm, Nat.mul_add_div (by omega), Nat.div_eq_of_lt (by omega), Nat.add_zero]
        rw [e2, q2] at q1
        exact e q1.symm

theorem Gi.done {S : List Int} {d : List Nat} {n M : Nat} {rows : List Nat} {filled : List Int} (h : Gi S d n M S.length rows filled) (hM : ∀ j, j < n → S.countP (· == (j : Int)) = M) (hl : S.length = d.length) {j : Nat} (hj : j < n) :
    (rows.drop (j * M)).take M = pick S d (j : Int) := by
  have e1 : S.take S.length = S := by simp
  have e2 : d.take S.length = d := by rw [hl]; simp
  have hp : (pick S d (j : Int)).length = M := by rw [pick_len _ _ _ hl]; exact hM j hj
  have hr := h.row j hj
  rw [e1, e2] at hr
  have hb : (j + 1) * M ≤ n * M := Nat.mul_le_mul_right M hj
  rw [Nat.add_mul] at hb
  have hrl := h.rlen
  apply List.ext_getElem
  · rw [List.length_take, List.length_drop, hp]; omega
  · intro i h1 h2
    have hi : i < M := by rw [← hp]; exact h2
    have := hr i (by rw [hp]; exact hi)
    rw [List.getElem_take, List.getElem_drop]
    have g1 : rows.getD (j * M + i) 0 = rows[j * M + i]'(by omega) := by simp [show j * M + i < rows.length by omega]
    have g2 : (pick S d (j : Int)).getD i 0 = (pick S d (j : Int))[i] := by simp [h2]
    rw [← g1, ← g2]
    exact this

/-- each number is taken so many times -/
theorem count_many {f t : List Int} (h : intoB f t = true) {n M : Nat} (hn : prodL f = (n : Int)) (hM : n * M = (prodL t).toNat) : ∀ j, j < n → (srcL f t).countP (· == (j : Int)) = M := by
  intro j hj
  have := count_srcL h (k := j) (by omega)
  rw [hn, Int.toNat_natCast, ← hM, Nat.mul_comm n M] at this
  exact Nat.eq_of_mul_eq_mul_right (by omega) this

theorem many_of {f t : List Int} (h : intoB f t = true) : ∃ n M : Nat, prodL f = (n : Int) ∧ 1 ≤ n ∧ n * M = (prodL t).toNat ∧ 1 ≤ M := by
  obtain ⟨m1, m2, _, _⟩ := into_spec h
  have p1 := prodL_pos (may_good m1).2
  have p2 := prodL_pos (may_good m2).2
  obtain ⟨n, hn⟩ := Int.eq_ofNat_of_zero_le (show 0 ≤ prodL f by omega)
  have hc := count_srcL h (k := 0) (by omega)
  rw [hn, Int.toNat_natCast] at hc
  refine ⟨n, _, hn, by omega, by rw [Nat.mul_comm]; exact hc, ?_⟩
  generalize (srcL f t).countP (· == ((0 : Nat) : Int)) = M at *
  match M, hc with
  | 0, hc => simp at hc; omega
  | M + 1, _ => omega

end Go.Proofs.Ytnmpbjjppdkomaa
