
/- The document's scheduler, against the same state: who can run, who waits, who is done; plain mathematics. -/
import Derived.Test.YtenbmfhhmbfgoaaSchO
namespace Go.Proofs.Ytenbmfhhmbfgoaa

/-- what a task is: 1 it can run, 2 it waits, 3 it is done -/
def stA (A : SS) (i : Nat) : Int := if (i : Int) ∈ A.ab then 1 else if (i : Int) ∈ A.wt then 2 else 3
theorem stA_one {A : SS} {i : Nat} (h : (i : Int) ∈ A.ab) : stA A i = 1 := if_pos h
theorem stA_two {ps : List Int} {A : SS} (ok : SOk ps A) {i : Nat} (h : (i : Int) ∈ A.wt) : stA A i = 2 := by
  unfold stA
  rw [if_neg (ok.dj _ h), if_pos h]
theorem stA_three {A : SS} {i : Nat} (h1 : (i : Int) ∉ A.ab) (h2 : (i : Int) ∉ A.wt) : stA A i = 3 := by
  unfold stA
  rw [if_neg h1, if_neg h2]
theorem stA_cases {ps : List Int} {A : SS} (ok : SOk ps A) (i : Nat) : ((i : Int) ∈ A.ab ∧ (i : Int) ∉ A.wt ∧ stA A i = 1) ∨ ((i : Int) ∉ A.ab ∧ (i : Int) ∈ A.wt ∧ stA A i = 2) ∨ ((i : Int) ∉ A.ab ∧ (i : Int) ∉ A.wt ∧ stA A i = 3) := by
  by_cases h1 : (i : Int) ∈ A.ab
  · exact .inl ⟨h1, fun h => ok.dj _ h h1, stA_one h1⟩
  · by_cases h2 : (i : Int) ∈ A.wt
    · exact .inr (.inl ⟨h1, h2, stA_two ok h2⟩)
    · exact .inr (.inr ⟨h1, h2, stA_three h1 h2⟩)
theorem stA_bound (A : SS) (i : Nat) : 1 ≤ stA A i ∧ stA A i ≤ 3 := by
  unfold stA
  split
  · omega
  · split <;> omega

/-- those of the first k that are among xs -/
def RL (xs : List Int) : Nat → List Int
  | 0 => []
  | k + 1 => if (k : Int) ∈ xs then RL xs k ++ [(k : Int)] else RL xs k
theorem RL_mem (xs : List Int) : ∀ (k : Nat) (x : Int), x ∈ RL xs k ↔ x ∈ xs ∧ 0 ≤ x ∧ x < (k : Int)
  | 0, x => by
    constructor
    · intro h; cases h
    · rintro ⟨_, h1, h2⟩; omega
  | k + 1, x => by
    have ih := RL_mem xs k x
    unfold RL
    split
    · rename_i h
      rw [List.mem_append, ih, List.mem_singleton]
      constructor
      · rintro (⟨a, b, c⟩ | rfl)
        · exact ⟨a, b, by omega⟩
        · exact ⟨h, by omega, by omega⟩
      · rintro ⟨a, b, c⟩
        by_cases e : x = (k : Int)
        · exact .inr e
        · exact .inl ⟨a, b, by omega⟩
    · rename_i h
      rw [ih]
      constructor
      · rintro ⟨a, b, c⟩
        exact ⟨a, b, by omega⟩
      · rintro ⟨a, b, c⟩
        refine ⟨a, b, ?_⟩
        have : x ≠ (k : Int) := fun e => h (e ▸ a)
        omega
theorem RL_len (xs : List Int) : ∀ k, (RL xs k).length ≤ k
  | 0 => Nat.le_refl _
  | k + 1 => by
    have ih := RL_len xs k
    unfold RL
    split
    · simp; exact ih
    · omega
theorem RL_rise (xs : List Int) : ∀ k, Rise (RL xs k)
  | 0 => by unfold RL Rise; simp
  | k + 1 => by
    have ih := RL_rise xs k
    unfold RL
    split
    · unfold Rise at ih ⊢
      rw [List.pairwise_append]
      refine ⟨ih, by simp, fun x hx y hy => ?_⟩
      rw [List.mem_singleton] at hy
      have := ((RL_mem xs k x).1 hx).2.2
      omega
    · exact ih
theorem RL_all {xs : List Int} {n : Nat} (h : Rise xs) (hb : ∀ x ∈ xs, 0 ≤ x ∧ x < (n : Int)) : RL xs n = xs :=
  rise_ext (RL_rise xs n) h (fun x => by
    rw [RL_mem]
    exact ⟨fun h => h.1, fun h => ⟨h, hb x h⟩⟩)
theorem RL_at {xs : List Int} {n : Nat} (h : Rise xs) (hb : ∀ x ∈ xs, 0 ≤ x ∧ x < (n : Int)) {t : Nat} (ht : (t : Int) ∈ xs) : (RL xs t).length < xs.length ∧ xs.getD (RL xs t).length 0 = (t : Int) := by
  have key : ∀ m, ∃ r, RL xs (t + 1 + m) = RL xs (t + 1) ++ r := by
    intro m
    induction m with
    | zero => exact ⟨[], by simp⟩
    | succ m ih =>
      obtain ⟨r, hr⟩ := ih
      have e : RL xs (t + 1 + (m + 1)) = if ((t + 1 + m : Nat) : Int) ∈ xs then RL xs (t + 1 + m) ++ [((t + 1 + m : Nat) : Int)] else RL xs (t + 1 + m) := rfl
      rw [e]
      split
      · exact ⟨r ++ [((t + 1 + m : Nat) : Int)], by rw [hr, List.append_assoc]⟩
      · exact ⟨r, hr⟩
  have htn := hb _ ht
  obtain ⟨r, hr⟩ := key (n - (t + 1))
  rw [show t + 1 + (n - (t + 1)) = n by omega, RL_all h hb] at hr
  have e1 : RL xs (t + 1) = RL xs t ++ [(t : Int)] := by
    conv => lhs; unfold RL
    rw [if_pos ht]
  rw [e1] at hr
  generalize RL xs t = R at *
  refine ⟨by rw [hr]; simp, ?_⟩
  rw [hr, List.append_assoc, List.getD_eq_getElem?_getD, List.getElem?_append_right (Nat.le_refl _)]
  simp
/-- how many of the first k are not done -/
def cntA (A : SS) : Nat → Nat
  | 0 => 0
  | k + 1 => if stA A k = 3 then cntA A k else cntA A k + 1
theorem cntA_le (A : SS) : ∀ k, cntA A k ≤ k
  | 0 => Nat.le_refl _
  | k + 1 => by
    have ih := cntA_le A k
    unfold cntA
    split <;> omega
theorem cntA_eq {ps : List Int} {A : SS} (ok : SOk ps A) : ∀ k, cntA A k = (RL A.ab k).length + (RL A.wt k).length
  | 0 => rfl
  | k + 1 => by
    have ih := cntA_eq ok k
    unfold cntA RL
    rcases stA_cases ok k with ⟨h1, h2, h3⟩ | ⟨h1, h2, h3⟩ | ⟨h1, h2, h3⟩
    · rw [if_neg (by omega), if_pos h1, if_neg h2]; simp; omega
    · rw [if_neg (by omega), if_neg h1, if_pos h2]; simp; omega
    · rw [if_pos h3, if_neg h1, if_neg h2]; exact ih
theorem cntA_all {ps : List Int} {A : SS} (ok : SOk ps A) : cntA A A.ts.length = A.ab.length + A.wt.length := by
  rw [cntA_eq ok, RL_all ok.abr ok.abb, RL_all ok.wtr ok.wtb]

/-- what waking changes -/
theorem stA_wake {ps : List Int} {A : SS} (ok : SOk ps A) {id : Nat} (j : Nat) : stA (wakeS A (id : Int)).2 j = if j = id ∧ stA A id ≠ 3 then 1 else stA A j := by
  unfold wakeS
  rcases stA_cases ok id with ⟨h1, h2, h3⟩ | ⟨h1, h2, h3⟩ | ⟨h1, h2, h3⟩
  · rw [if_neg (by rw [hasL_no ok.wtr h2]; simp), if_pos ((hasL_iff ok.abr).2 h1)]
    show stA A j = _
    by_cases e : j = id
    · subst e; rw [if_pos ⟨rfl, by omega⟩, h3]
    · rw [if_neg (fun h => e h.1)]
  · have hw := (hasL_iff ok.wtr).2 h2
    rw [if_pos hw]
    by_cases e : j = id
    · subst e
      rw [if_pos ⟨rfl, by omega⟩]
      exact stA_one (insL_mem.2 (.inl rfl))
    · rw [if_neg (fun h => e h.1)]
      have hne : (j : Int) ≠ (id : Int) := by omega
      have q1 : (j : Int) ∈ insL (id : Int) A.ab ↔ (j : Int) ∈ A.ab := by rw [insL_mem]; exact ⟨fun h => h.resolve_left hne, .inr⟩
      have q2 : (j : Int) ∈ delL (id : Int) A.wt ↔ (j : Int) ∈ A.wt := by rw [delL_mem ok.wtr hw]; exact ⟨fun h => h.1, fun h => ⟨h, hne⟩⟩
      unfold stA
      simp only [q1, q2]
  · rw [if_neg (by rw [hasL_no ok.wtr h2]; simp), if_neg (by rw [hasL_no ok.abr h1]; simp), if_neg (by rintro ⟨_, h⟩; exact h h3)]
theorem wake_none {ps : List Int} {A : SS} (ok : SOk ps A) {id : Int} (h : id < 0 ∨ (A.ts.length : Int) ≤ id ∨ stA A id.toNat = 3) : wakeS A id = (false, A) := by
  have hn : id ∉ A.ab ∧ id ∉ A.wt := by
    refine ⟨fun hm => ?_, fun hm => ?_⟩
    · have hb := ok.abb _ hm
      rcases h with h | h | h
      · omega
      · omega
      · have e : ((id.toNat : Nat) : Int) = id := by omega
        rw [stA_one (by rw [e]; exact hm)] at h
        omega
    · have hb := ok.wtb _ hm
      rcases h with h | h | h
      · omega
      · omega
      · have e : ((id.toNat : Nat) : Int) = id := by omega
        rw [stA_two ok (by rw [e]; exact hm)] at h
        omega
  unfold wakeS
  rw [if_neg (by rw [hasL_no ok.wtr hn.2]; simp), if_neg (by rw [hasL_no ok.abr hn.1]; simp)]
theorem wake_some {ps : List Int} {A : SS} (ok : SOk ps A) {id : Nat} (h : stA A id ≠ 3) : (wakeS A (id : Int)).1 = true := by
  unfold wakeS
  rcases stA_cases ok id with ⟨h1, h2, h3⟩ | ⟨h1, h2, h3⟩ | ⟨h1, h2, h3⟩
  · rw [if_neg (by rw [hasL_no ok.wtr h2]; simp), if_pos ((hasL_iff ok.abr).2 h1)]
  · rw [if_pos ((hasL_iff ok.wtr).2 h2)]
  · exact absurd h3 h
/-- the flags -/
def flA (A : SS) (i : Nat) : Bool := (A.ts.getD i tk0).2
theorem flA_woken (ts : List (Value × Bool)) (id : Nat) (b : Bool) (hl : id < ts.length) (j : Nat) : ((wokenT ts (id : Int) b).getD j tk0).2 = if j = id then b else (ts.getD j tk0).2 := by
  unfold wokenT
  rw [Int.toNat_natCast]
  by_cases e : j = id
  · subst e
    rw [if_pos rfl]
    simp [List.getD, hl]
  · rw [if_neg e]
    simp [List.getD, Ne.symm e]
theorem flA_wake {ps : List Int} {A : SS} (ok : SOk ps A) {id : Nat} (hl : id < A.ts.length) (j : Nat) : flA (wakeS A (id : Int)).2 j = if j = id ∧ stA A id = 1 then true else flA A j := by
  unfold wakeS
  rcases stA_cases ok id with ⟨h1, h2, h3⟩ | ⟨h1, h2, h3⟩ | ⟨h1, h2, h3⟩
  · rw [if_neg (by rw [hasL_no ok.wtr h2]; simp), if_pos ((hasL_iff ok.abr).2 h1)]
    show ((wokenT A.ts (id : Int) true).getD j tk0).2 = _
    rw [flA_woken _ _ _ hl]
    by_cases e : j = id
    · rw [if_pos e, if_pos ⟨e, h3⟩]
    · rw [if_neg e, if_neg (fun h => e h.1)]; rfl
  · rw [if_pos ((hasL_iff ok.wtr).2 h2), if_neg (by omega)]
    rfl
  · rw [if_neg (by rw [hasL_no ok.wtr h2]; simp), if_neg (by rw [hasL_no ok.abr h1]; simp), if_neg (by omega)]
/-- what settling changes -/
theorem stA_settle {ps : List Int} {A : SS} (ok : SOk ps A) {i : Nat} (hi : (i : Int) ∈ A.ab) (r : Int) (j : Nat) : stA (settleS A i r) j = if j = i then (if r = 3 then 3 else if r = 2 then (if flA A i = true then 1 else 2) else 1) else stA A j := by
  have hh := (hasL_iff ok.abr).2 hi
  have hnw : (i : Int) ∉ A.wt := fun h => ok.dj _ h hi
  have other : ∀ (ab wt : List Int), (∀ x, x ≠ (i : Int) → (x ∈ ab ↔ x ∈ A.ab)) → (∀ x, x ≠ (i : Int) → (x ∈ wt ↔ x ∈ A.wt)) → ∀ ts k st now, j ≠ i → stA ⟨ts, ab, wt, k, st, now⟩ j = stA A j := by
    intro ab wt h1 h2 ts k st now hj
    have hne : (j : Int) ≠ (i : Int) := by omega
    unfold stA
    simp only [h1 _ hne, h2 _ hne]
  have hdel : ∀ x, x ≠ (i : Int) → (x ∈ delL (i : Int) A.ab ↔ x ∈ A.ab) := fun x hx => by rw [delL_mem ok.abr hh]; exact ⟨fun h => h.1, fun h => ⟨h, hx⟩⟩
  have hdi : (i : Int) ∉ delL (i : Int) A.ab := fun h => ((delL_mem ok.abr hh).1 h).2 rfl
  have hins : ∀ x, x ≠ (i : Int) → (x ∈ insL (i : Int) A.wt ↔ x ∈ A.wt) := fun x hx => by rw [insL_mem]; exact ⟨fun h => h.resolve_left hx, .inr⟩
  unfold settleS
  by_cases h3 : r = 3
  · rw [if_pos h3]
    by_cases e : j = i
    · subst e
      rw [if_pos rfl, if_pos h3]
      exact stA_three hdi hnw
    · rw [if_neg e]
      exact other _ _ hdel (fun _ _ => Iff.rfl) _ _ _ _ e
  · rw [if_neg h3]
    by_cases h2 : r = 2
    · rw [if_pos h2]
      show stA (if flA A i = true then _ else _) j = _
      by_cases hf : flA A i = true
      · rw [if_pos hf]
        show stA A j = _
        by_cases e : j = i
        · subst e
          rw [if_pos rfl, if_neg h3, if_pos h2, if_pos hf]
          exact stA_one hi
        · rw [if_neg e]
      · rw [if_neg hf]
        by_cases e : j = i
        · subst e
          rw [if_pos rfl, if_neg h3, if_pos h2, if_neg hf]
          unfold stA
          rw [if_neg hdi, if_pos (insL_mem.2 (.inl rfl))]
        · rw [if_neg e]
          exact other _ _ hdel hins _ _ _ _ e
    · rw [if_neg h2]
      by_cases e : j = i
      · subst e
        rw [if_pos rfl, if_neg h3, if_neg h2]
        exact stA_one hi
      · rw [if_neg e]
theorem flA_settle (A : SS) {i : Nat} (hl : i < A.ts.length) (r : Int) (j : Nat) (hj : j ≠ i ∨ r ≠ 3) : flA (settleS A i r) j = if j = i ∧ r = 2 then false else flA A j := by
  unfold settleS
  by_cases h3 : r = 3
  · rw [if_pos h3]
    have hji := hj.resolve_right (fun h => h h3)
    rw [if_neg (fun h => hji h.1)]
    show ((A.ts.set i tk0).getD j tk0).2 = _
    simp [List.getD, Ne.symm hji]
    rfl
  · rw [if_neg h3]
    by_cases h2 : r = 2
    · rw [if_pos h2]
      show flA (if flA A i = true then _ else _) j = _
      by_cases hf : flA A i = true
      · rw [if_pos hf]
        show ((wokenT A.ts (i : Int) false).getD j tk0).2 = _
        rw [flA_woken _ _ _ hl]
        by_cases e : j = i
        · rw [if_pos e, if_pos ⟨e, h2⟩]
        · rw [if_neg e, if_neg (fun h => e h.1)]; rfl
      · rw [if_neg hf]
        show flA A j = _
        by_cases e : j = i
        · subst e
          rw [if_pos ⟨rfl, h2⟩]
          simpa using hf
        · rw [if_neg (fun h => e h.1)]
    · rw [if_neg h2, if_neg (fun h => h2 h.2)]
/-- where another number only has turned -/
theorem stA_numbers (A : SS) (k : Nat) (st : Bool) (now : Int) (j : Nat) : stA { A with k := k, st := st, now := now } j = stA A j := rfl
theorem stA_go (A : SS) (f : Value) (j : Nat) : stA (goS A f) j = if j = A.ts.length then 1 else stA A j := by
  by_cases e : j = A.ts.length
  · subst e
    rw [if_pos rfl]
    exact stA_one (insL_mem.2 (.inl rfl))
  · rw [if_neg e]
    have hne : (j : Int) ≠ (A.ts.length : Int) := by omega
    have q : (j : Int) ∈ insL (A.ts.length : Int) A.ab ↔ (j : Int) ∈ A.ab := by rw [insL_mem]; exact ⟨fun h => h.resolve_left hne, .inr⟩
    unfold stA goS
    simp only [q]

end Go.Proofs.Ytenbmfhhmbfgoaa
