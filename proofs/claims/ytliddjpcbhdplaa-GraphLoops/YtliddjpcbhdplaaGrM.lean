
/- Graphs each of which Calls the next one so many times: how much work that is. Plain mathematics. -/
import Derived.Test.YtliddjpcbhdplaaGrK
namespace Go.Proofs.Ytliddjpcbhdplaa

def ndC (t : Int) : Nd := ⟨16, [0], [], t, [], [], []⟩
def chN (c k : Nat) (lp : Bool) (i : Nat) : List Nd := ndLf :: ((if i + 1 < k then List.replicate c (ndC ((i + 1 : Nat) : Int)) else []) ++ (if lp = true ∧ i + 1 = k then [ndC 0] else []))
def chGs (c k : Nat) (lp : Bool) : List (List Nd) := (List.range k).map (chN c k lp)
theorem chGs_length (c k : Nat) (lp : Bool) : (chGs c k lp).length = k := by simp [chGs]
theorem chGs_at {c k i : Nat} {lp : Bool} (h : i < k) : (chGs c k lp).getD i [] = chN c k lp i := by simp [chGs, h]

theorem callsL_rep (c : Nat) (t : Int) (ns : List Nd) : callsL (List.replicate c (ndC t) ++ ns) = List.replicate c t ++ callsL ns := by
  induction c with
  | zero => rfl
  | succ c ih =>
    rw [List.replicate_succ, List.replicate_succ, List.cons_append, List.cons_append, ← ih]
    rfl
theorem callsL_ch (c k i : Nat) (lp : Bool) : callsL (chN c k lp i) = (if i + 1 < k then List.replicate c ((i + 1 : Nat) : Int) else []) ++ (if lp = true ∧ i + 1 = k then [0] else []) := by
  have h0 : ∀ ns, callsL (ndLf :: ns) = callsL ns := fun ns => rfl
  have h1 : callsL (if lp = true ∧ i + 1 = k then [ndC 0] else []) = (if lp = true ∧ i + 1 = k then [0] else []) := by
    split
    · rfl
    · rfl
  unfold chN
  rw [h0]
  by_cases h : i + 1 < k
  · rw [if_pos h, if_pos h, callsL_rep, h1]
  · rw [if_neg h, if_neg h, List.nil_append, List.nil_append, h1]
theorem cnt_next {c k i : Nat} {lp : Bool} (h : i + 1 < k) (j : Nat) : cnt (chGs c k lp) i j = if j = i + 1 then c else 0 := by
  unfold cnt
  rw [chGs_at (by omega), callsL_ch, if_pos h, if_neg (by omega), List.append_nil, List.count_replicate]
  by_cases e : j = i + 1
  · subst e; simp
  · rw [if_neg e, if_neg (by simp; omega)]
theorem cnt_last {c k i : Nat} {lp : Bool} (h : i + 1 = k) (j : Nat) : cnt (chGs c k lp) i j = if lp = true ∧ j = 0 then 1 else 0 := by
  unfold cnt
  rw [chGs_at (by omega), callsL_ch, if_neg (by omega), List.nil_append]
  by_cases e : lp = true
  · rw [if_pos ⟨e, h⟩]
    by_cases e2 : j = 0
    · subst e2; rw [if_pos ⟨e, rfl⟩]; rfl
    · rw [if_neg (by simp [e2]), List.count_eq_zero]
      simp; omega
  · rw [if_neg (by simp [e]), if_neg (by simp [e])]; rfl
theorem lenG_next {c k i : Nat} {lp : Bool} (h : i + 1 < k) : lenG (chGs c k lp) i = 1 + c := by
  unfold lenG
  rw [chGs_at (by omega)]
  unfold chN
  rw [if_pos h, if_neg (by omega)]
  simp; omega
theorem lenG_last {c k i : Nat} (h : i + 1 = k) : lenG (chGs c k false) i = 1 := by
  unfold lenG
  rw [chGs_at (by omega)]
  unfold chN
  rw [if_neg (by omega), if_neg (by simp)]
  rfl

theorem whole_ch (c k : Nat) (lp : Bool) (hk : 0 < k) : WholeP (chGs c k lp) 0 := by
  refine whole_of ((List.range k).map Int.ofNat) ?_ ?_
  · simp only [List.mem_map, List.mem_range]; exact ⟨0, hk, rfl⟩
  intro x hx
  simp only [List.mem_map, List.mem_range] at hx
  obtain ⟨i, hi, rfl⟩ := hx
  refine ⟨⟨by simp, by rw [chGs_length]; simp; exact hi⟩, fun y hy => ?_⟩
  unfold tg at hy
  have e : (Int.ofNat i).toNat = i := by simp
  rw [e, chGs_at hi, callsL_ch] at hy
  simp only [List.mem_map, List.mem_range]
  rcases List.mem_append.1 hy with hy | hy
  · by_cases h : i + 1 < k
    · rw [if_pos h] at hy
      exact ⟨i + 1, h, ((List.mem_replicate.1 hy).2).symm⟩
    · rw [if_neg h] at hy; cases hy
  · by_cases h : lp = true ∧ i + 1 = k
    · rw [if_pos h] at hy
      simp only [List.mem_cons, List.not_mem_nil, or_false] at hy
      subst hy
      exact ⟨0, hk, rfl⟩
    · rw [if_neg h] at hy; cases hy

theorem ways_pos (gs : List (List Nd)) (f : Nat → Nat) (n : Nat) (h0 : f 0 = 0) (h : ∀ d, d < n → f d < gs.length ∧ 0 < cnt gs (f d) (f (d + 1))) : ∀ d, d ≤ n → 0 < lv gs 0 d (f d)
  | 0, _ => by
    rw [h0]
    show 0 < (if ((0 : Nat) : Int) = 0 then 1 else 0)
    simp
  | d + 1, hd => by
    obtain ⟨h1, h2⟩ := h d (by omega)
    have ih := ways_pos gs f n h0 h d (by omega)
    have h3 := sumN_le (f := fun i => lv gs 0 d i * cnt gs i (f (d + 1))) h1
    exact Nat.lt_of_lt_of_le (Nat.mul_pos ih h2) h3
def deepB (c k : Nat) (lp : Bool) : Prop := (0 < c ∧ 8 < k - 1) ∨ (lp = true ∧ (0 < c ∨ k = 1))
theorem deep_ch {c k : Nat} {lp : Bool} (hk : 0 < k) (h : deepB c k lp) : DeepP (chGs c k lp) 0 := by
  rcases h with ⟨hc, h8⟩ | ⟨hl, h1⟩
  · refine ⟨9, by rw [chGs_length]; omega, ways_pos _ (fun d => d) 9 rfl (fun d hd => ⟨by rw [chGs_length]; omega, ?_⟩) 9 (Nat.le_refl _)⟩
    show 0 < cnt (chGs c k lp) d (d + 1)
    rw [cnt_next (by omega), if_pos rfl]
    exact hc
  · refine ⟨9 % k, by rw [chGs_length]; exact Nat.mod_lt _ hk, ways_pos _ (fun d => d % k) 9 (Nat.zero_mod k) (fun d hd => ⟨by rw [chGs_length]; exact Nat.mod_lt _ hk, ?_⟩) 9 (Nat.le_refl _)⟩
    show 0 < cnt (chGs c k lp) (d % k) ((d + 1) % k)
    have hm := Nat.mod_lt d hk
    by_cases e : d % k + 1 < k
    · have e2 : (d + 1) % k = d % k + 1 := by rw [Nat.add_mod, Nat.mod_eq_of_lt (show 1 < k by omega), Nat.mod_eq_of_lt e]
      rw [cnt_next e, if_pos e2]
      rcases h1 with h1 | h1
      · exact h1
      · omega
    · have e1 : d % k + 1 = k := by omega
      have e2 : (d + 1) % k = 0 := by
        have := Nat.div_add_mod d k
        have h3 : d + 1 = k * (d / k) + k := by omega
        rw [h3]; simp
      rw [cnt_last e1, if_pos ⟨hl, e2⟩]
      omega

theorem sumN_only {f : Nat → Nat} {n x : Nat} (hx : x < n) (h : ∀ k, k < n → k ≠ x → f k = 0) : sumN n f = f x := by
  have := sumN_one (f := f) (g := fun _ => 0) hx (fun k hk hne => h k hk hne)
  rw [sumN_zero n (fun _ _ => rfl)] at this
  omega
/-- the ways where one chain is -/
theorem lv_ch {c k : Nat} (hk : 0 < k) : ∀ d j, j < k → lv (chGs c k false) 0 d j = if j = d then c ^ d else 0
  | 0, j, _ => by
    show (if (j : Int) = 0 then 1 else 0) = _
    by_cases e : j = 0
    · subst e; rfl
    · rw [if_neg e, if_neg (by omega)]
  | d + 1, j, hj => by
    show sumN (chGs c k false).length _ = _
    rw [chGs_length]
    by_cases hd : d < k
    · rw [sumN_only hd (fun i hi hne => by rw [lv_ch hk d i hi, if_neg hne, Nat.zero_mul]), lv_ch hk d d hd, if_pos rfl]
      by_cases h1 : d + 1 < k
      · rw [cnt_next h1]
        by_cases e : j = d + 1
        · rw [if_pos e, if_pos e, Nat.pow_succ]
        · rw [if_neg e, if_neg e, Nat.mul_zero]
      · rw [cnt_last (by omega), if_neg (by simp), if_neg (by omega), Nat.mul_zero]
    · rw [sumN_zero k (fun i hi => by rw [lv_ch hk d i hi, if_neg (by omega), Nat.zero_mul]), if_neg (by omega)]

/-- the work of a graph that has m graphs behind it -/
def wV (c : Nat) : Nat → Nat
  | 0 => 1
  | m + 1 => 1 + c * (1 + wV c m)
def wP (c : Nat) : Nat → Nat
  | 0 => 1
  | m + 1 => min (1 + c * (1 + wP c m)) 1048576
theorem wP_le (c : Nat) : ∀ m, wP c m ≤ 1048576
  | 0 => by show 1 ≤ 1048576; omega
  | m + 1 => Nat.min_le_right _ _
theorem wP_eq (c : Nat) : ∀ m, wP c m = min (wV c m) 1048576
  | 0 => by show 1 = min 1 1048576; decide
  | m + 1 => by
    rw [wP, wV, wP_eq c m]
    by_cases h : wV c m ≤ 1048576
    · rw [Nat.min_eq_left h]
    · have e1 : min (wV c m) 1048576 = 1048576 := Nat.min_eq_right (by omega)
      rw [e1]
      rcases Nat.eq_zero_or_pos c with rfl | hc
      · simp
      · have h1 : 1 + 1048576 ≤ c * (1 + 1048576) := Nat.le_mul_of_pos_left _ hc
        have h2 : 1 + wV c m ≤ c * (1 + wV c m) := Nat.le_mul_of_pos_left _ hc
        have a1 : min (1 + c * (1 + 1048576)) 1048576 = 1048576 := Nat.min_eq_right (by omega)
        have a2 : min (1 + c * (1 + wV c m)) 1048576 = 1048576 := Nat.min_eq_right (by omega)
        rw [a1, a2]
theorem wk_ch {c k : Nat} (hk : 0 < k) : ∀ d, d ≤ k - 1 → wk (chGs c k false) 0 d + c ^ d * wV c (k - 1 - d) = wV c (k - 1)
  | 0, _ => by simp [wk]
  | d + 1, hd => by
    have ih := wk_ch (c := c) hk d (by omega)
    have hs : sumN (chGs c k false).length (fun j => lv (chGs c k false) 0 d j * lenG (chGs c k false) j) = c ^ d * (1 + c) := by
      rw [chGs_length, sumN_only (x := d) (by omega) (fun j hj hne => by rw [lv_ch hk d j hj, if_neg hne, Nat.zero_mul]), lv_ch hk d d (by omega), if_pos rfl, lenG_next (by omega)]
    have hv : wV c (k - 1 - d) = 1 + c * (1 + wV c (k - 1 - (d + 1))) := by
      rw [show k - 1 - d = (k - 1 - (d + 1)) + 1 by omega, wV]
    show wk (chGs c k false) 0 d + sumN _ _ + _ = _
    rw [hs, ← ih, hv, Nat.pow_succ]
    generalize wV c (k - 1 - (d + 1)) = x
    generalize wk (chGs c k false) 0 d = y
    generalize c ^ d = z
    rw [Nat.mul_add z 1 c, Nat.mul_add z 1, Nat.mul_add c 1 x, Nat.mul_add z (c * 1) (c * x), Nat.mul_assoc z c x, Nat.mul_one, Nat.mul_one]
    omega
theorem wk_end {c k : Nat} (hk : 0 < k) : ∀ m, wk (chGs c k false) 0 (k + m) = wV c (k - 1)
  | 0 => by
    have h := wk_ch (c := c) hk (k - 1) (Nat.le_refl _)
    have hs : sumN (chGs c k false).length (fun j => lv (chGs c k false) 0 (k - 1) j * lenG (chGs c k false) j) = c ^ (k - 1) := by
      rw [chGs_length, sumN_only (x := k - 1) (by omega) (fun j hj hne => by rw [lv_ch hk _ j hj, if_neg hne, Nat.zero_mul]), lv_ch hk _ _ (by omega), if_pos rfl, lenG_last (by omega), Nat.mul_one]
    have e : k + 0 = (k - 1) + 1 := by omega
    rw [e, wk, hs, ← h, Nat.sub_self, wV, Nat.mul_one]
  | m + 1 => by
    rw [← Nat.add_assoc, wk, wk_end hk m, chGs_length, sumN_zero k (fun j hj => by rw [lv_ch hk _ j hj, if_neg (by omega), Nat.zero_mul])]
    rfl

/-- the first graph Calls none -/
theorem none_ch {k : Nat} {lp : Bool} (hk : 0 < k) (h : ¬ (lp = true ∧ k = 1)) : ∀ d j, j < k → lv (chGs 0 k lp) 0 (d + 1) j = 0
  | 0, j, hj => by
    show sumN (chGs 0 k lp).length _ = 0
    rw [chGs_length]
    refine sumN_zero k fun i hi => ?_
    show (if (i : Int) = 0 then 1 else 0) * _ = 0
    by_cases e : i = 0
    · subst e
      by_cases h1 : 0 + 1 < k
      · rw [cnt_next h1]; simp
      · have hn : ¬ (lp = true ∧ j = 0) := fun e => h ⟨e.1, by omega⟩
        rw [cnt_last (by omega), if_neg hn, Nat.mul_zero]
    · rw [if_neg (by omega), Nat.zero_mul]
  | d + 1, j, hj => by
    show sumN (chGs 0 k lp).length _ = 0
    rw [chGs_length]
    exact sumN_zero k fun i hi => by rw [none_ch hk h d i hi, Nat.zero_mul]
theorem wk_none {k : Nat} {lp : Bool} (hk : 0 < k) (h : ¬ (lp = true ∧ k = 1)) : ∀ d, wk (chGs 0 k lp) 0 (d + 1) = 1
  | 0 => by
    show 0 + sumN (chGs 0 k lp).length _ = 1
    rw [chGs_length, sumN_only hk (fun i hi hne => by show (if (i : Int) = 0 then 1 else 0) * _ = 0; rw [if_neg (by omega), Nat.zero_mul])]
    show 0 + 1 * lenG (chGs 0 k lp) 0 = 1
    by_cases h1 : 0 + 1 < k
    · rw [lenG_next h1]
    · have hl : lp = false := by
        cases lp
        · rfl
        · exact absurd ⟨rfl, by omega⟩ h
      subst hl
      rw [lenG_last (by omega)]
  | d + 1 => by
    rw [wk, wk_none hk h d, chGs_length, sumN_zero k (fun j hj => by rw [none_ch hk h d j hj, Nat.zero_mul])]

theorem deep_main {c k : Nat} {lp : Bool} {v e : Int} (hk : 0 < k) (h : WorkR (chGs c k lp) 0 v e) :
    (deepB c k lp → e = 9) ∧ (¬ deepB c k lp → 4096 < wP c (k - 1) → e = 10) ∧ (¬ deepB c k lp → ¬ 4096 < wP c (k - 1) → e = 0 ∧ v = (wP c (k - 1) : Int)) := by
  have hw := whole_ch c k lp hk
  by_cases hd : deepB c k lp
  · have h1 := deep_ch hk hd
    rcases h with ⟨a, _⟩ | ⟨_, _, _, he⟩ | ⟨_, a, _⟩ | ⟨_, a, _⟩
    · exact absurd hw a
    · exact ⟨fun _ => he, fun n => absurd hd n, fun n => absurd hd n⟩
    · exact absurd h1 a
    · exact absurd h1 a
  · have key : ¬ DeepP (chGs c k lp) 0 ∧ wk (chGs c k lp) 0 9 = wV c (k - 1) := by
      unfold deepB at hd
      by_cases hc : c = 0
      · subst hc
        have hn : ¬ (lp = true ∧ k = 1) := fun e => hd (.inr ⟨e.1, .inr e.2⟩)
        refine ⟨?_, ?_⟩
        · rintro ⟨j, hj, hp⟩
          rw [chGs_length] at hj
          rw [none_ch hk hn 8 j hj] at hp
          omega
        · rw [wk_none hk hn 8]
          cases k - 1 with
          | zero => rfl
          | succ m => rw [wV]; simp
      · have hl : lp = false := by
          cases lp
          · rfl
          · exact absurd (.inr ⟨rfl, .inl (by omega)⟩) hd
        subst hl
        have hk9 : k ≤ 9 := by
          apply Classical.byContradiction
          intro hn
          exact hd (.inl ⟨by omega, by omega⟩)
        refine ⟨?_, ?_⟩
        · rintro ⟨j, hj, hp⟩
          rw [chGs_length] at hj
          rw [lv_ch hk 9 j hj, if_neg (by omega)] at hp
          omega
        · have := wk_end (c := c) hk (9 - k)
          rw [show k + (9 - k) = 9 by omega] at this
          exact this
    obtain ⟨h1, h2⟩ := key
    have h3 := wP_eq c (k - 1)
    refine ⟨fun n => absurd n hd, ?_⟩
    rcases h with ⟨a, _⟩ | ⟨_, a, _⟩ | ⟨_, _, h4, h5, h6⟩ | ⟨_, _, h4, h5, h6⟩
    · exact absurd hw a
    · exact absurd a h1
    · rw [h2] at h4
      exact ⟨fun _ _ => h6, fun _ hn => absurd (by rw [h3]; omega) hn⟩
    · rw [h2] at h4 h5
      refine ⟨fun _ hn => absurd hn (by rw [h3]; omega), fun _ _ => ⟨h6, ?_⟩⟩
      rw [h5, h3, Nat.min_eq_left (by omega)]

end Go.Proofs.Ytliddjpcbhdplaa
