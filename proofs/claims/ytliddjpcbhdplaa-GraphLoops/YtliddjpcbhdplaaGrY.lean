
/- The work of a graph by that of those that it Calls: the plain mathematics of the law GraphWorks. -/
import Derived.Test.YtliddjpcbhdplaaGrM
namespace Go.Proofs.Ytliddjpcbhdplaa

theorem lv_front (gs : List (List Nd)) (g : Nat) (hg : g < gs.length) : ∀ d k, k < gs.length → lv gs (g : Int) (d + 1) k = sumN gs.length (fun j => cnt gs g j * lv gs (j : Int) d k)
  | 0, k, hk => by
    have e1 : lv gs (g : Int) (0 + 1) k = cnt gs g k := by
      show sumN gs.length (fun i => (if (i : Int) = (g : Int) then 1 else 0) * cnt gs i k) = _
      rw [sumN_only hg (fun i _ hne => by rw [if_neg (by omega), Nat.zero_mul]), if_pos rfl, Nat.one_mul]
    rw [e1]
    show _ = sumN gs.length (fun j => cnt gs g j * (if (k : Int) = (j : Int) then 1 else 0))
    rw [sumN_only hk (fun i _ hne => by rw [if_neg (by omega), Nat.mul_zero]), if_pos rfl, Nat.mul_one]
  | d + 1, k, hk => by
    show sumN gs.length (fun i => lv gs (g : Int) (d + 1) i * cnt gs i k) = sumN gs.length (fun j => cnt gs g j * sumN gs.length (fun i => lv gs (j : Int) d i * cnt gs i k))
    have h1 : sumN gs.length (fun i => lv gs (g : Int) (d + 1) i * cnt gs i k) = sumN gs.length (fun i => sumN gs.length (fun j => cnt gs g j * (lv gs (j : Int) d i * cnt gs i k))) :=
      sumN_ext fun i hi => by
        rw [lv_front gs g hg d i hi, ← sumN_mul]
        exact sumN_ext fun j _ => Nat.mul_assoc _ _ _
    rw [h1, sumN_swap (fun j i => cnt gs g j * (lv gs (j : Int) d i * cnt gs i k))]
    exact sumN_ext fun j _ => sumN_mul' _ _ _
theorem wk_front (gs : List (List Nd)) (g : Nat) (hg : g < gs.length) : ∀ d, wk gs (g : Int) (d + 1) = lenG gs g + sumN gs.length (fun j => cnt gs g j * wk gs (j : Int) d)
  | 0 => by
    show 0 + sumN gs.length (fun k => (if (k : Int) = (g : Int) then 1 else 0) * lenG gs k) = lenG gs g + sumN gs.length (fun j => cnt gs g j * 0)
    rw [sumN_only hg (fun i _ hne => by rw [if_neg (by omega), Nat.zero_mul]), if_pos rfl, Nat.one_mul, sumN_zero gs.length (fun _ _ => Nat.mul_zero _)]
    omega
  | d + 1 => by
    show wk gs (g : Int) (d + 1) + sumN gs.length (fun k => lv gs (g : Int) (d + 1) k * lenG gs k) = lenG gs g + sumN gs.length (fun j => cnt gs g j * (wk gs (j : Int) d + sumN gs.length (fun k => lv gs (j : Int) d k * lenG gs k)))
    rw [wk_front gs g hg d]
    have h1 : sumN gs.length (fun k => lv gs (g : Int) (d + 1) k * lenG gs k) = sumN gs.length (fun k => sumN gs.length (fun j => cnt gs g j * (lv gs (j : Int) d k * lenG gs k))) :=
      sumN_ext fun k hk => by
        rw [lv_front gs g hg d k hk, ← sumN_mul]
        exact sumN_ext fun j _ => Nat.mul_assoc _ _ _
    rw [h1, sumN_swap (fun j k => cnt gs g j * (lv gs (j : Int) d k * lenG gs k)), Nat.add_assoc, ← sumN_add]
    congr 1
    refine sumN_ext fun j _ => ?_
    rw [Nat.mul_add, sumN_mul']
theorem lv_zero {gs : List (List Nd)} {g : Int} {d : Nat} (h : ∀ k, k < gs.length → lv gs g d k = 0) : ∀ r k, k < gs.length → lv gs g (d + r) k = 0
  | 0, k, hk => h k hk
  | r + 1, k, hk => by
    show sumN gs.length (fun i => lv gs g (d + r) i * cnt gs i k) = 0
    exact sumN_zero _ fun i hi => by rw [lv_zero h r i hi, Nat.zero_mul]
theorem lv_trans {gs : List (List Nd)} {g : Int} {a j : Nat} (h : 0 < lv gs g a j) : ∀ b k, 0 < lv gs (j : Int) b k → 0 < lv gs g (a + b) k
  | 0, k, hp => by
    have hp : 0 < (if (k : Int) = (j : Int) then 1 else 0) := hp
    split at hp
    · rename_i e
      have e2 : k = j := by omega
      rw [e2]
      exact h
    · omega
  | b + 1, k, hp => by
    obtain ⟨i, hi, hp⟩ := sumN_pos (n := gs.length) (f := fun i => lv gs (j : Int) b i * cnt gs i k) hp
    have h1 := lv_trans h b i (Nat.pos_of_mul_pos_right hp)
    exact Nat.lt_of_lt_of_le (Nat.mul_pos h1 (Nat.pos_of_mul_pos_left hp)) (sumN_le (f := fun i => lv gs g (a + b) i * cnt gs i k) hi)

/-- what the graphs of a list of Calls come to -/
def sumT (gs : List (List Nd)) : List Int → Nat
  | [] => 0
  | t :: l => wk gs t 9 + sumT gs l
theorem sumT_append (gs : List (List Nd)) (l : List Int) (t : Int) : sumT gs (l ++ [t]) = sumT gs l + wk gs t 9 := by
  induction l with
  | nil => show wk gs t 9 + 0 = 0 + wk gs t 9; omega
  | cons x l ih => show wk gs x 9 + sumT gs (l ++ [t]) = wk gs x 9 + sumT gs l + wk gs t 9; omega
theorem sumT_count (gs : List (List Nd)) : ∀ l : List Int, (∀ t ∈ l, inRg gs t) → sumN gs.length (fun j => l.count (j : Int) * wk gs (j : Int) 9) = sumT gs l
  | [], _ => sumN_zero _ fun _ _ => by rw [List.count_nil, Nat.zero_mul]
  | t :: l, h => by
    obtain ⟨h1, h2⟩ := h t (List.mem_cons_self ..)
    have ih := sumT_count gs l (fun x hx => h x (List.mem_cons_of_mem _ hx))
    obtain ⟨n, rfl⟩ : ∃ n : Nat, t = n := ⟨t.toNat, by omega⟩
    have h3 : sumN gs.length (fun j => ((n : Int) :: l).count (j : Int) * wk gs (j : Int) 9) = sumN gs.length (fun j => l.count (j : Int) * wk gs (j : Int) 9 + (if j = n then 1 else 0) * wk gs (j : Int) 9) :=
      sumN_ext fun j _ => by
        rw [List.count_cons, Nat.add_mul]
        by_cases e : j = n
        · subst e; simp
        · have e2 : ¬ (n : Int) = (j : Int) := by omega
          simp [e, e2]
    rw [h3, sumN_add, ih, sumN_only (x := n) (by omega) (fun j _ hne => by rw [if_neg hne, Nat.zero_mul]), if_pos rfl, Nat.one_mul]
    show _ = wk gs (n : Int) 9 + sumT gs l
    omega

/-- graph g with m Leaf nodes more -/
def moreG (gs : List (List Nd)) (g m : Nat) : List (List Nd) := gs.set g (gs.getD g [] ++ List.replicate m ndLf)
theorem callsL_more (ns : List Nd) (m : Nat) : callsL (ns ++ List.replicate m ndLf) = callsL ns := by
  have h : callsL (List.replicate m ndLf) = [] := by
    induction m with
    | zero => rfl
    | succ m ih => exact ih
  rw [callsL_append, h, List.append_nil]
theorem moreG_length (gs : List (List Nd)) (g m : Nat) : (moreG gs g m).length = gs.length := by unfold moreG; simp
theorem moreG_at {gs : List (List Nd)} {g m : Nat} (hg : g < gs.length) (k : Nat) : (moreG gs g m).getD k [] = if k = g then gs.getD g [] ++ List.replicate m ndLf else gs.getD k [] := by
  unfold moreG
  by_cases e : k = g
  · subst e
    rw [if_pos rfl]
    simp [List.getD, hg]
  · rw [if_neg e]
    simp [List.getD, Ne.symm e]
theorem moreG_calls {gs : List (List Nd)} {g m : Nat} (hg : g < gs.length) (k : Nat) : callsL ((moreG gs g m).getD k []) = callsL (gs.getD k []) := by
  rw [moreG_at hg]
  split
  · rename_i e
    rw [callsL_more, e]
  · rfl
theorem moreG_cnt {gs : List (List Nd)} {g m : Nat} (hg : g < gs.length) (i k : Nat) : cnt (moreG gs g m) i k = cnt gs i k := by
  unfold cnt
  rw [moreG_calls hg]
theorem moreG_lv {gs : List (List Nd)} {g m : Nat} (hg : g < gs.length) (x : Int) : ∀ d k, lv (moreG gs g m) x d k = lv gs x d k
  | 0, _ => rfl
  | d + 1, k => by
    show sumN (moreG gs g m).length (fun i => lv (moreG gs g m) x d i * cnt (moreG gs g m) i k) = sumN gs.length (fun i => lv gs x d i * cnt gs i k)
    rw [moreG_length]
    exact sumN_ext fun i _ => by rw [moreG_lv hg x d i, moreG_cnt hg]
theorem moreG_len {gs : List (List Nd)} {g m : Nat} (hg : g < gs.length) (k : Nat) : lenG (moreG gs g m) k = lenG gs k + (if k = g then m else 0) := by
  unfold lenG
  rw [moreG_at hg]
  by_cases e : k = g
  · subst e; rw [if_pos rfl, if_pos rfl, List.length_append, List.length_replicate]
  · rw [if_neg e, if_neg e]; rfl
theorem moreG_rch {gs : List (List Nd)} {g m : Nat} (hg : g < gs.length) (x y : Int) : Rch (moreG gs g m) x y ↔ Rch gs x y := by
  constructor
  · intro h
    induction h with
    | base => exact .base
    | step _ hr ht ih =>
      refine .step ih ⟨hr.1, by rw [← moreG_length gs g m]; exact hr.2⟩ ?_
      unfold tg at ht
      rw [moreG_calls hg] at ht
      exact ht
  · intro h
    induction h with
    | base => exact .base
    | step _ hr ht ih =>
      refine .step ih ⟨hr.1, by rw [moreG_length gs g m]; exact hr.2⟩ ?_
      unfold tg
      rw [moreG_calls hg]
      exact ht
theorem moreG_whole {gs : List (List Nd)} {g m : Nat} (hg : g < gs.length) (x : Int) : WholeP (moreG gs g m) x ↔ WholeP gs x := by
  unfold WholeP inRg
  rw [moreG_length]
  exact ⟨fun h y hy => h y ((moreG_rch hg x y).2 hy), fun h y hy => h y ((moreG_rch hg x y).1 hy)⟩
theorem moreG_deep {gs : List (List Nd)} {g m : Nat} (hg : g < gs.length) (x : Int) : DeepP (moreG gs g m) x ↔ DeepP gs x := by
  unfold DeepP
  rw [moreG_length]
  constructor
  · rintro ⟨k, hk, hp⟩
    exact ⟨k, hk, by rw [moreG_lv hg] at hp; exact hp⟩
  · rintro ⟨k, hk, hp⟩
    exact ⟨k, hk, by rw [moreG_lv hg]; exact hp⟩
theorem no_way_back {gs : List (List Nd)} {g : Nat} (hg : g < gs.length) (hd : ¬ DeepP gs (g : Int)) {e : Nat} (he : 0 < e) : lv gs (g : Int) e g = 0 := by
  apply Classical.byContradiction
  intro hne
  have hp : 0 < lv gs (g : Int) e g := by omega
  have hall : ∀ r, 0 < lv gs (g : Int) (e * r) g := by
    intro r
    induction r with
    | zero => show 0 < (if (g : Int) = (g : Int) then 1 else 0); simp
    | succ r ih => rw [Nat.mul_succ]; exact lv_trans ih e g hp
  have hz : ∀ k, k < gs.length → lv gs (g : Int) 9 k = 0 := fun k hk => by
    apply Classical.byContradiction
    intro h
    exact hd ⟨k, hk, by omega⟩
  have h9 := hall 9
  have e9 : e * 9 = 9 + (e * 9 - 9) := by omega
  rw [e9, lv_zero hz (e * 9 - 9) g hg] at h9
  omega
theorem moreG_wk {gs : List (List Nd)} {g m : Nat} (hg : g < gs.length) (hd : ¬ DeepP gs (g : Int)) : ∀ d, wk (moreG gs g m) (g : Int) (d + 1) = wk gs (g : Int) (d + 1) + m := by
  have step : ∀ d, sumN (moreG gs g m).length (fun k => lv (moreG gs g m) (g : Int) d k * lenG (moreG gs g m) k) = sumN gs.length (fun k => lv gs (g : Int) d k * lenG gs k) + lv gs (g : Int) d g * m := fun d => by
    rw [moreG_length]
    have h1 : sumN gs.length (fun k => lv (moreG gs g m) (g : Int) d k * lenG (moreG gs g m) k) = sumN gs.length (fun k => lv gs (g : Int) d k * lenG gs k + lv gs (g : Int) d k * (if k = g then m else 0)) :=
      sumN_ext fun k _ => by rw [moreG_lv hg, moreG_len hg, Nat.mul_add]
    rw [h1, sumN_add, sumN_only (f := fun k => lv gs (g : Int) d k * (if k = g then m else 0)) hg (fun k _ hne => by rw [if_neg hne, Nat.mul_zero]), if_pos rfl]
  intro d
  induction d with
  | zero =>
    show 0 + sumN (moreG gs g m).length (fun k => lv (moreG gs g m) (g : Int) 0 k * lenG (moreG gs g m) k) = 0 + sumN gs.length (fun k => lv gs (g : Int) 0 k * lenG gs k) + m
    have h0 : lv gs (g : Int) 0 g = 1 := if_pos rfl
    rw [step 0, h0]
    omega
  | succ d ih =>
    show wk (moreG gs g m) (g : Int) (d + 1) + _ = wk gs (g : Int) (d + 1) + _ + m
    rw [ih, step (d + 1), no_way_back hg hd (Nat.succ_pos d)]
    omega

theorem called_law {gs : List (List Nd)} {g : Nat} (hg : g < gs.length) (hw : WholeP gs (g : Int)) (hd : ¬ DeepP gs (g : Int)) {t : Int} (ht : t ∈ callsL (gs.getD g [])) : inRg gs t ∧ WholeP gs t ∧ ¬ DeepP gs t ∧ wk gs t 9 = wk gs t 8 := by
  have htg : t ∈ tg gs (g : Int) := by unfold tg; simpa using ht
  have hr : Rch gs (g : Int) t := .step .base ⟨by omega, by omega⟩ htg
  have hin := hw t hr
  obtain ⟨j, rfl⟩ : ∃ j : Nat, t = j := ⟨t.toNat, by have := hin.1; omega⟩
  have hj : j < gs.length := by have := hin.2; omega
  have hc : 0 < cnt gs g j := by unfold cnt; exact List.count_pos_iff.2 ht
  have h8 : ∀ k, k < gs.length → lv gs (j : Int) 8 k = 0 := fun k hk => by
    apply Classical.byContradiction
    intro h
    refine hd ⟨k, hk, ?_⟩
    rw [lv_front gs g hg 8 k hk]
    exact Nat.lt_of_lt_of_le (Nat.mul_pos hc (by omega)) (sumN_le (f := fun j => cnt gs g j * lv gs (j : Int) 8 k) hj)
  refine ⟨hin, fun y hy => hw y ?_, ?_, ?_⟩
  · induction hy with
    | base => exact hr
    | step _ h1 h2 ih => exact .step ih h1 h2
  · rintro ⟨k, hk, hp⟩
    rw [lv_zero h8 1 k hk] at hp
    omega
  · show wk gs (j : Int) 8 + sumN gs.length (fun k => lv gs (j : Int) 8 k * lenG gs k) = _
    rw [sumN_zero _ (fun k hk => by rw [h8 k hk, Nat.zero_mul])]
    rfl
theorem sum_law {gs : List (List Nd)} {g : Nat} (hg : g < gs.length) (hw : WholeP gs (g : Int)) (hd : ¬ DeepP gs (g : Int)) : wk gs (g : Int) 9 = lenG gs g + sumT gs (callsL (gs.getD g [])) := by
  rw [wk_front gs g hg 8, ← sumT_count gs _ (fun t ht => (called_law hg hw hd ht).1)]
  congr 1
  refine sumN_ext fun j _ => ?_
  by_cases hc : (j : Int) ∈ callsL (gs.getD g [])
  · rw [(called_law hg hw hd hc).2.2.2]
    rfl
  · have : cnt gs g j = 0 := List.count_eq_zero.2 hc
    have h2 : (callsL (gs.getD g [])).count (j : Int) = 0 := this
    rw [this, h2, Nat.zero_mul, Nat.zero_mul]
theorem sumT_le (gs : List (List Nd)) : ∀ l : List Int, ∀ t ∈ l, wk gs t 9 ≤ sumT gs l
  | [], t, h => by cases h
  | x :: l, t, h => by
    show _ ≤ wk gs x 9 + sumT gs l
    rcases List.mem_cons.1 h with rfl | h
    · omega
    · have := sumT_le gs l t h
      omega

theorem works_no {gs : List (List Nd)} {g v e : Int} (h : WorkR gs g v e) (he : e ≠ 0) : v = 0 := by
  rcases h with ⟨_, h, _⟩ | ⟨_, _, h, _⟩ | ⟨_, _, _, h, _⟩ | ⟨_, _, _, _, h⟩
  · exact h
  · exact h
  · exact h
  · exact absurd h he
theorem works_law {gs : List (List Nd)} {g : Nat} {v : Int} (hg : g < gs.length) (h : WorkR gs (g : Int) v 0) : v = (wk gs (g : Int) 9 : Int) ∧ wk gs (g : Int) 9 ≤ 4096 ∧ wk gs (g : Int) 9 = lenG gs g + sumT gs (callsL (gs.getD g [])) ∧
    (∀ t ∈ callsL (gs.getD g []), ∀ v' e', WorkR gs t v' e' → e' = 0 ∧ v' = (wk gs t 9 : Int)) ∧
    ∀ (m : Nat) (v' e' : Int), WorkR (moreG gs g m) (g : Int) v' e' → (wk gs (g : Int) 9 + m ≤ 4096 ∧ e' = 0 ∧ v' = ((wk gs (g : Int) 9 + m : Nat) : Int)) ∨ (4096 < wk gs (g : Int) 9 + m ∧ e' = 10 ∧ v' = 0) := by
  rcases h with ⟨_, _, h⟩ | ⟨_, _, _, h⟩ | ⟨_, _, _, _, h⟩ | ⟨hw, hd, hle, hv, _⟩
  · exact absurd h (by decide)
  · exact absurd h (by decide)
  · exact absurd h (by decide)
  · have hs := sum_law hg hw hd
    refine ⟨hv, hle, hs, fun t ht v' e' hW => ?_, fun m v' e' hW => ?_⟩
    · obtain ⟨_, h1, h2, _⟩ := called_law hg hw hd ht
      have h3 := sumT_le gs _ t ht
      rcases hW with ⟨a, _⟩ | ⟨_, a, _⟩ | ⟨_, _, a, _⟩ | ⟨_, _, _, h4, h5⟩
      · exact absurd h1 a
      · exact absurd a h2
      · omega
      · exact ⟨h5, h4⟩
    · have h1 : wk (moreG gs g m) (g : Int) 9 = wk gs (g : Int) 9 + m := moreG_wk hg hd 8
      rcases hW with ⟨a, _⟩ | ⟨_, a, _⟩ | ⟨_, _, a, b, c⟩ | ⟨_, _, a, b, c⟩
      · exact absurd ((moreG_whole hg _).2 hw) a
      · exact absurd ((moreG_deep hg _).1 a) hd
      · exact .inr ⟨by omega, c, b⟩
      · exact .inl ⟨by omega, c, by rw [b, h1]⟩

end Go.Proofs.Ytliddjpcbhdplaa
