
/- Who is reached, and by whom: plain mathematics, no program in it. -/
import Derived.Test.YtefohemihiiceaaGrA
namespace Go.Proofs.Ytefohemihiiceaa

/-- each input of each of the first n nodes stands below its node; f i: the inputs of node i -/
def SoundF (n : Nat) (f : Nat → List Int) : Prop := ∀ i, i < n → ∀ x ∈ f i, 0 ≤ x ∧ x < (i : Int)

def markL (bs : List Bool) (xs : List Int) : List Bool := xs.foldl (fun b x => b.set x.toNat true) bs
theorem markL_length : ∀ (xs : List Int) (bs : List Bool), (markL bs xs).length = bs.length
  | [], _ => rfl
  | x :: xs, bs => by
    show (markL (bs.set x.toNat true) xs).length = _
    rw [markL_length xs, List.length_set]
theorem markL_snoc (bs : List Bool) (xs : List Int) (x : Int) : markL bs (xs ++ [x]) = (markL bs xs).set x.toNat true := by
  simp [markL]
theorem set_at {bs : List Bool} {i j : Nat} (hj : j < bs.length) : (bs.set i true).getD j false = (bs.getD j false || decide (i = j)) := by
  by_cases e : i = j
  · subst e; simp [hj]
  · simp [List.getD, List.getElem?_set_ne e, e]
theorem markL_at : ∀ (xs : List Int) (bs : List Bool) (j : Nat), (∀ x ∈ xs, 0 ≤ x) → j < bs.length → ((markL bs xs).getD j false = true ↔ bs.getD j false = true ∨ (j : Int) ∈ xs)
  | [], bs, j, _, _ => by simp [markL]
  | x :: xs, bs, j, hx, hj => by
    show (markL (bs.set x.toNat true) xs).getD j false = true ↔ _
    rw [markL_at xs _ j (fun y hy => hx y (List.mem_cons_of_mem _ hy)) (by rw [List.length_set]; exact hj), set_at hj]
    have h0 := hx x (List.mem_cons_self ..)
    have e : decide (x.toNat = j) = true ↔ (j : Int) = x := by
      rw [decide_eq_true_iff]
      constructor <;> intro h <;> omega
    rw [Bool.or_eq_true, e, List.mem_cons, or_assoc]

def stepM (f : Nat → List Int) (bs : List Bool) (m : Nat) : List Bool := if bs.getD m false = true then markL bs (f m) else bs
theorem stepM_length (f : Nat → List Int) (bs : List Bool) (m : Nat) : (stepM f bs m).length = bs.length := by
  unfold stepM
  split
  · exact markL_length _ _
  · rfl
def dnM (f : Nat → List Int) (init : List Bool) (n : Nat) : Nat → List Bool
  | 0 => init
  | d + 1 => stepM f (dnM f init n d) (n - 1 - d)
/-- what is marked when the nodes from m on are done -/
def sM (f : Nat → List Int) (init : List Bool) (n m : Nat) : List Bool := dnM f init n (n - m)
theorem sM_top (f : Nat → List Int) (init : List Bool) (n : Nat) : sM f init n n = init := by
  unfold sM
  rw [Nat.sub_self]
  rfl
theorem sM_step (f : Nat → List Int) (init : List Bool) {n m : Nat} (h : m < n) : sM f init n m = stepM f (sM f init n (m + 1)) m := by
  unfold sM
  rw [show n - m = (n - (m + 1)) + 1 by omega]
  show stepM f _ (n - 1 - (n - (m + 1))) = _
  rw [show n - 1 - (n - (m + 1)) = m by omega]
theorem dnM_length (f : Nat → List Int) (init : List Bool) (n : Nat) : ∀ d, (dnM f init n d).length = init.length
  | 0 => rfl
  | d + 1 => by rw [dnM, stepM_length, dnM_length f init n d]
theorem sM_length (f : Nat → List Int) (init : List Bool) (n m : Nat) : (sM f init n m).length = init.length := dnM_length _ _ _ _
def rootL (n root : Nat) : List Bool := (List.replicate n false).set root true
theorem rootL_length (n root : Nat) : (rootL n root).length = n := by simp [rootL]
theorem rootL_at {n root j : Nat} (hj : j < n) : (rootL n root).getD j false = decide (root = j) := by
  unfold rootL
  rw [set_at (by simpa using hj)]
  simp [List.getD, hj]
/-- who is reached -/
def fromL (f : Nat → List Int) (n root : Nat) : List Bool := sM f (rootL n root) n 0
theorem fromL_length (f : Nat → List Int) (n root : Nat) : (fromL f n root).length = n := by
  unfold fromL
  rw [sM_length, rootL_length]

theorem down_ind {n : Nat} {p : Nat → Prop} (h0 : p n) (hs : ∀ m, m < n → p (m + 1) → p m) : ∀ m, m ≤ n → p m := by
  intro m hm
  obtain ⟨d, rfl⟩ : ∃ d, m + d = n := ⟨n - m, by omega⟩
  clear hm
  induction d generalizing m with
  | zero => exact h0
  | succ d ih =>
    refine hs m (by omega) (ih (m + 1) ?_ ?_)
    · rw [show m + 1 + d = m + (d + 1) by omega]; exact h0
    · intro k hk hp
      exact hs k (by omega) hp

/-- a node is asked after all that could have marked it -/
theorem sM_stab {f : Nat → List Int} {n root : Nat} (hf : SoundF n f) : ∀ m, m ≤ n → ∀ i, m ≤ i → i < n → (sM f (rootL n root) n m).getD i false = (sM f (rootL n root) n (i + 1)).getD i false := by
  refine down_ind (fun i h1 h2 => absurd h1 (by omega)) fun m hm ih i h1 h2 => ?_
  have key : (sM f (rootL n root) n m).getD i false = (sM f (rootL n root) n (m + 1)).getD i false := by
    rw [sM_step f _ hm]
    unfold stepM
    split
    · rw [Bool.eq_iff_iff, markL_at _ _ i (fun x hx => (hf m hm x hx).1) (by rw [sM_length, rootL_length]; exact h2)]
      constructor
      · rintro (h | h)
        · exact h
        · have := (hf m hm _ h).2
          omega
      · exact .inl
    · rfl
  rw [key]
  by_cases e : i = m
  · subst e; rfl
  · exact ih i (by omega) h2
theorem sM_mem {f : Nat → List Int} {n root : Nat} (hf : SoundF n f) : ∀ m, m ≤ n → ∀ j, j < n → ((sM f (rootL n root) n m).getD j false = true ↔ root = j ∨ ∃ i, m ≤ i ∧ i < n ∧ (sM f (rootL n root) n (i + 1)).getD i false = true ∧ (j : Int) ∈ f i) := by
  refine down_ind (fun j hj => ?_) fun m hm ih j hj => ?_
  · rw [sM_top, rootL_at hj, decide_eq_true_iff]
    constructor
    · exact .inl
    · rintro (h | ⟨i, h1, h2, _⟩)
      · exact h
      · omega
  · rw [sM_step f _ hm]
    unfold stepM
    by_cases hm2 : (sM f (rootL n root) n (m + 1)).getD m false = true
    · rw [if_pos hm2, markL_at _ _ j (fun x hx => (hf m hm x hx).1) (by rw [sM_length, rootL_length]; exact hj), ih j hj]
      constructor
      · rintro ((h | ⟨i, h1, h2, h3⟩) | h)
        · exact .inl h
        · exact .inr ⟨i, by omega, h2, h3⟩
        · exact .inr ⟨m, Nat.le_refl _, hm, hm2, h⟩
      · rintro (h | ⟨i, h1, h2, h3, h4⟩)
        · exact .inl (.inl h)
        · by_cases e : i = m
          · subst e; exact .inr h4
          · exact .inl (.inr ⟨i, by omega, h2, h3, h4⟩)
    · rw [if_neg hm2, ih j hj]
      constructor
      · rintro (h | ⟨i, h1, h2, h3⟩)
        · exact .inl h
        · exact .inr ⟨i, by omega, h2, h3⟩
      · rintro (h | ⟨i, h1, h2, h3, h4⟩)
        · exact .inl h
        · by_cases e : i = m
          · subst e; exact absurd h3 hm2
          · exact .inr ⟨i, by omega, h2, h3, h4⟩
/-- of each node whether it is root, or an input of one that is reached -/
theorem fromL_iff {f : Nat → List Int} {n root : Nat} (hf : SoundF n f) {j : Nat} (hj : j < n) : (fromL f n root).getD j false = true ↔ root = j ∨ ∃ i, i < n ∧ (fromL f n root).getD i false = true ∧ (j : Int) ∈ f i := by
  unfold fromL
  rw [sM_mem hf 0 (Nat.zero_le _) j hj]
  constructor
  · rintro (h | ⟨i, _, h2, h3, h4⟩)
    · exact .inl h
    · exact .inr ⟨i, h2, by rw [sM_stab hf 0 (Nat.zero_le _) i (Nat.zero_le _) h2]; exact h3, h4⟩
  · rintro (h | ⟨i, h2, h3, h4⟩)
    · exact .inl h
    · exact .inr ⟨i, Nat.zero_le _, h2, by rw [← sM_stab hf 0 (Nat.zero_le _) i (Nat.zero_le _) h2]; exact h3, h4⟩
theorem fromL_above {f : Nat → List Int} {n root : Nat} (hf : SoundF n f) : ∀ j, j < n → root < j → (fromL f n root).getD j false = false := by
  have key : ∀ m, m ≤ n → ∀ j, m ≤ j → j < n → root < j → (fromL f n root).getD j false = false := by
    refine down_ind (fun j h1 h2 => absurd h1 (by omega)) fun m hm ih j h1 h2 h3 => ?_
    by_cases e : j = m
    · cases hh : (fromL f n root).getD j false
      · rfl
      · rcases (fromL_iff hf h2).1 hh with h | ⟨i, hi, hr, hx⟩
        · omega
        · have := (hf i hi _ hx).2
          rw [ih i (by omega) hi (by omega)] at hr
          cases hr
    · exact ih j (by omega) h2 h3
  exact fun j hj h => key 0 (Nat.zero_le _) j (Nat.zero_le _) hj h
/-- what another one reaches is reached by whoever reaches that one -/
theorem fromL_trans {f : Nat → List Int} {n root i : Nat} (hf : SoundF n f) (hi : (fromL f n root).getD i false = true) : ∀ k, k < n → (fromL f n i).getD k false = true → (fromL f n root).getD k false = true := by
  have key : ∀ m, m ≤ n → ∀ k, m ≤ k → k < n → (fromL f n i).getD k false = true → (fromL f n root).getD k false = true := by
    refine down_ind (fun j h1 h2 => absurd h1 (by omega)) fun m hm ih k h1 h2 h3 => ?_
    rcases (fromL_iff hf h2).1 h3 with h | ⟨i2, hi2, hr, hx⟩
    · subst h; exact hi
    · have := (hf i2 hi2 _ hx).2
      exact (fromL_iff hf h2).2 (.inr ⟨i2, hi2, ih i2 (by omega) hi2 hr, hx⟩)
  exact fun k hk h => key 0 (Nat.zero_le _) k (Nat.zero_le _) hk h
theorem fromL_root {f : Nat → List Int} {n root : Nat} (hf : SoundF n f) (h : root < n) : (fromL f n root).getD root false = true := (fromL_iff hf h).2 (.inl rfl)
/-- begun at the root it is the same -/
theorem sM_root {f : Nat → List Int} {n root : Nat} (hr : root < n) : ∀ m, m ≤ root + 1 → sM f (rootL n root) n m = sM f (rootL n root) (root + 1) m := by
  have h1 : ∀ m, m ≤ n → root + 1 ≤ m → sM f (rootL n root) n m = rootL n root := by
    refine down_ind (fun _ => sM_top _ _ _) fun m hm ih h => ?_
    rw [sM_step f _ hm, ih (by omega)]
    unfold stepM
    rw [if_neg (by rw [rootL_at hm]; simp; omega)]
  refine down_ind ?_ fun m hm ih => ?_
  · rw [h1 _ (by omega) (Nat.le_refl _), sM_top]
  · rw [sM_step f _ (by omega : m < n), sM_step f _ hm, ih]

/-! ### who uses whom -/
def slotsU (f : Nat → List Int) (j m s : Nat) : List (Nat × Nat) := ((List.range s).filter (fun t => decide ((f m).getD t (-1) = (j : Int)))).map (fun t => (m, t))
theorem slotsU_yes {f : Nat → List Int} {j m s : Nat} (h : (f m).getD s (-1) = (j : Int)) : slotsU f j m (s + 1) = slotsU f j m s ++ [(m, s)] := by
  simp only [slotsU, List.range_succ, List.filter_append, List.map_append, List.filter_cons, decide_eq_true h, if_true, List.filter_nil, List.map_cons, List.map_nil]
theorem slotsU_no {f : Nat → List Int} {j m s : Nat} (h : ¬ (f m).getD s (-1) = (j : Int)) : slotsU f j m (s + 1) = slotsU f j m s := by
  have h' : decide ((f m).getD s (-1) = (j : Int)) = false := decide_eq_false h
  simp only [slotsU, List.range_succ, List.filter_append, List.filter_cons, h', List.filter_nil, List.append_nil, Bool.false_eq_true, if_false]
def uD (f : Nat → List Int) (r : Nat → Bool) (n j : Nat) : Nat → List (Nat × Nat)
  | 0 => []
  | d + 1 => uD f r n j d ++ (if r (n - 1 - d) = true then slotsU f j (n - 1 - d) (f (n - 1 - d)).length else [])
/-- the uses of j by the nodes from m on -/
def uM (f : Nat → List Int) (r : Nat → Bool) (n m j : Nat) : List (Nat × Nat) := uD f r n j (n - m)
theorem uM_top (f : Nat → List Int) (r : Nat → Bool) (n j : Nat) : uM f r n n j = [] := by
  unfold uM
  rw [Nat.sub_self]
  rfl
theorem uM_step (f : Nat → List Int) (r : Nat → Bool) {n m : Nat} (j : Nat) (h : m < n) : uM f r n m j = uM f r n (m + 1) j ++ (if r m = true then slotsU f j m (f m).length else []) := by
  unfold uM
  rw [show n - m = (n - (m + 1)) + 1 by omega]
  show _ ++ (if r (n - 1 - (n - (m + 1))) = true then _ else _) = _
  rw [show n - 1 - (n - (m + 1)) = m by omega]
def usersL (f : Nat → List Int) (n root j : Nat) : List (Nat × Nat) := uM f (fun i => (fromL f n root).getD i false) n 0 j

theorem slotsU_length : ∀ (xs : List Int) (j : Nat), ((List.range xs.length).filter (fun t => decide (xs.getD t (-1) = (j : Int)))).length = xs.count (j : Int) := by
  intro xs j
  have key : ∀ s, s ≤ xs.length → ((List.range s).filter (fun t => decide (xs.getD t (-1) = (j : Int)))).length = (xs.take s).count (j : Int) := by
    intro s
    induction s with
    | zero => intro _; simp
    | succ s ih =>
      intro hs
      have e : xs.getD s (-1) = xs[s] := by simp [show s < xs.length by omega]
      rw [List.range_succ, List.filter_append, List.length_append, ih (by omega), ← List.take_append_getElem (show s < xs.length by omega), List.count_append]
      congr 1
      by_cases h : xs.getD s (-1) = (j : Int)
      · rw [List.filter_cons, if_pos (decide_eq_true h), e.symm.trans h]
        simp
      · have h2 : ¬ xs[s] = (j : Int) := fun hh => h (e.trans hh)
        rw [List.filter_cons, if_neg (by simpa using h)]
        simp [h2]
  have h := key xs.length (Nat.le_refl _)
  rw [List.take_length] at h
  exact h
theorem slotsU_len (f : Nat → List Int) (j m : Nat) : (slotsU f j m (f m).length).length = (f m).count (j : Int) := by
  unfold slotsU
  rw [List.length_map, slotsU_length]
theorem slotsU_le (f : Nat → List Int) (j m s : Nat) : (slotsU f j m s).length ≤ s := by
  unfold slotsU
  rw [List.length_map]
  have := List.length_filter_le (fun t => decide ((f m).getD t (-1) = (j : Int))) (List.range s)
  rw [List.length_range] at this
  exact this
/-- how many inputs the nodes from m on have -/
def totD (f : Nat → List Int) (n : Nat) : Nat → Nat
  | 0 => 0
  | d + 1 => totD f n d + (f (n - 1 - d)).length
def totM (f : Nat → List Int) (n m : Nat) : Nat := totD f n (n - m)
theorem totM_step (f : Nat → List Int) {n m : Nat} (h : m < n) : totM f n m = totM f n (m + 1) + (f m).length := by
  unfold totM
  rw [show n - m = (n - (m + 1)) + 1 by omega]
  show _ + (f (n - 1 - (n - (m + 1)))).length = _
  rw [show n - 1 - (n - (m + 1)) = m by omega]
theorem totM_le (f : Nat → List Int) (n : Nat) : ∀ m, m ≤ n → totM f n m ≤ totM f n 0 := by
  intro m
  induction m with
  | zero => intro _; exact Nat.le_refl _
  | succ m ih =>
    intro h
    have := ih (by omega)
    rw [totM_step f (by omega : m < n)] at this
    omega
theorem uM_le (f : Nat → List Int) (r : Nat → Bool) (n j : Nat) : ∀ m, m ≤ n → (uM f r n m j).length ≤ totM f n m := by
  refine down_ind (by rw [uM_top]; simp) fun m hm ih => ?_
  rw [uM_step f r j hm, totM_step f hm, List.length_append]
  have : (if r m = true then slotsU f j m (f m).length else []).length ≤ (f m).length := by
    split
    · exact slotsU_le _ _ _ _
    · simp
  omega
theorem uM_pos {f : Nat → List Int} {r : Nat → Bool} {n j : Nat} : ∀ m, m ≤ n → (0 < (uM f r n m j).length ↔ ∃ i, m ≤ i ∧ i < n ∧ r i = true ∧ (j : Int) ∈ f i) := by
  refine down_ind ?_ fun m hm ih => ?_
  · rw [uM_top]
    constructor
    · intro h; simp at h
    · rintro ⟨i, h1, h2, _⟩; omega
  · rw [uM_step f r j hm, List.length_append]
    by_cases hr : r m = true
    · rw [if_pos hr, slotsU_len]
      constructor
      · intro h
        by_cases h2 : 0 < (uM f r n (m + 1) j).length
        · obtain ⟨i, h3, h4⟩ := ih.1 h2
          exact ⟨i, by omega, h4⟩
        · exact ⟨m, Nat.le_refl _, hm, hr, List.count_pos_iff.1 (by omega)⟩
      · rintro ⟨i, h1, h2, h3, h4⟩
        by_cases e : i = m
        · subst e
          have := List.count_pos_iff.2 h4
          omega
        · have := ih.2 ⟨i, by omega, h2, h3, h4⟩
          omega
    · rw [if_neg hr, List.length_nil, Nat.add_zero, ih]
      constructor
      · rintro ⟨i, h3, h4⟩; exact ⟨i, by omega, h4⟩
      · rintro ⟨i, h1, h2, h3, h4⟩
        by_cases e : i = m
        · subst e; exact absurd h3 hr
        · exact ⟨i, by omega, h2, h3, h4⟩
theorem usersL_pos {f : Nat → List Int} {n root j : Nat} (hf : SoundF n f) (hj : j < n) : (fromL f n root).getD j false = true ↔ root = j ∨ 0 < (usersL f n root j).length := by
  rw [fromL_iff hf hj]
  unfold usersL
  rw [uM_pos 0 (Nat.zero_le _)]
  constructor
  · rintro (h | ⟨i, h⟩)
    · exact .inl h
    · exact .inr ⟨i, Nat.zero_le _, h⟩
  · rintro (h | ⟨i, _, h⟩)
    · exact .inl h
    · exact .inr ⟨i, h⟩

/-- the order in which users stand -/
def UsB (a b : Nat × Nat) : Prop := b.1 < a.1 ∨ (a.1 = b.1 ∧ a.2 < b.2)
theorem slotsU_sorted (f : Nat → List Int) (j m s : Nat) : (slotsU f j m s).Pairwise UsB ∧ ∀ u ∈ slotsU f j m s, u.1 = m := by
  unfold slotsU
  constructor
  · rw [List.pairwise_map]
    refine List.Pairwise.filter _ ?_
    exact List.Pairwise.imp (fun h => .inr ⟨rfl, h⟩) List.pairwise_lt_range
  · intro u hu
    obtain ⟨t, _, rfl⟩ := List.mem_map.1 hu
    rfl
theorem uM_sorted (f : Nat → List Int) (r : Nat → Bool) (n j : Nat) : ∀ m, m ≤ n → (uM f r n m j).Pairwise UsB ∧ ∀ u ∈ uM f r n m j, m ≤ u.1 := by
  refine down_ind (by rw [uM_top]; exact ⟨List.Pairwise.nil, fun u hu => by cases hu⟩) fun m hm ih => ?_
  rw [uM_step f r j hm]
  have h2 : (if r m = true then slotsU f j m (f m).length else []).Pairwise UsB ∧ ∀ u ∈ (if r m = true then slotsU f j m (f m).length else []), u.1 = m := by
    split
    · exact slotsU_sorted f j m _
    · exact ⟨List.Pairwise.nil, fun u hu => by cases hu⟩
  refine ⟨List.pairwise_append.2 ⟨ih.1, h2.1, fun a ha b hb => .inl ?_⟩, fun u hu => ?_⟩
  · have h3 := ih.2 a ha
    have h4 := h2.2 b hb
    omega
  · rcases List.mem_append.1 hu with h | h
    · have := ih.2 u h; omega
    · have := h2.2 u h; omega
theorem usersL_next {f : Nat → List Int} {n root j k : Nat} (hk : k + 1 < (usersL f n root j).length) : UsB ((usersL f n root j).getD k (0, 0)) ((usersL f n root j).getD (k + 1) (0, 0)) := by
  have h := (uM_sorted f (fun i => (fromL f n root).getD i false) n j 0 (Nat.zero_le _)).1
  have h2 := List.pairwise_iff_getElem.1 h k (k + 1) (by unfold usersL at hk; omega) (by unfold usersL at hk; exact hk) (by omega)
  have e1 : (usersL f n root j).getD k (0, 0) = (usersL f n root j)[k] := by simp [show k < (usersL f n root j).length by omega]
  have e2 : (usersL f n root j).getD (k + 1) (0, 0) = (usersL f n root j)[k + 1] := by simp [hk]
  rw [e1, e2]
  exact h2

/-- sums over the first n -/
def sumR (n : Nat) (g : Nat → Nat) : Nat := ((List.range n).map g).sum
theorem sumR_succ (n : Nat) (g : Nat → Nat) : sumR (n + 1) g = sumR n g + g n := by simp [sumR, List.range_succ]
theorem sumR_add (n : Nat) (g h : Nat → Nat) : sumR n (fun i => g i + h i) = sumR n g + sumR n h := by
  induction n with
  | zero => rfl
  | succ n ih => rw [sumR_succ, sumR_succ, sumR_succ, ih]; omega
theorem sumR_ext {n : Nat} {g h : Nat → Nat} (e : ∀ i, i < n → g i = h i) : sumR n g = sumR n h := by
  induction n with
  | zero => rfl
  | succ n ih => rw [sumR_succ, sumR_succ, ih (fun i hi => e i (by omega)), e n (by omega)]
theorem sumR_zero (n : Nat) : sumR n (fun _ => 0) = 0 := by
  induction n with
  | zero => rfl
  | succ n ih => rw [sumR_succ, ih]
theorem sumR_mono {n : Nat} {g h : Nat → Nat} (e : ∀ i, i < n → g i ≤ h i) : sumR n g ≤ sumR n h := by
  induction n with
  | zero => exact Nat.le_refl _
  | succ n ih => rw [sumR_succ, sumR_succ]; have := ih (fun i hi => e i (by omega)); have := e n (by omega); omega
theorem sumR_le {n k : Nat} (g : Nat → Nat) (h : k ≤ n) : sumR k g ≤ sumR n g := by
  induction n with
  | zero => rw [show k = 0 by omega]; exact Nat.le_refl _
  | succ n ih =>
    by_cases e : k = n + 1
    · rw [e]; exact Nat.le_refl _
    · rw [sumR_succ]; have := ih (by omega); omega
theorem sumR_count {n : Nat} : ∀ (xs : List Int), (∀ x ∈ xs, 0 ≤ x ∧ x < (n : Int)) → sumR n (fun j => xs.count (j : Int)) = xs.length
  | [], _ => by simp [sumR_zero]
  | x :: xs, h => by
    have ih := sumR_count xs (fun y hy => h y (List.mem_cons_of_mem _ hy))
    have h1 := h x (List.mem_cons_self ..)
    have e : sumR n (fun j => (x :: xs).count (j : Int)) = sumR n (fun j => xs.count (j : Int)) + sumR n (fun j => if x = (j : Int) then 1 else 0) := by
      rw [← sumR_add]
      refine sumR_ext fun i _ => ?_
      rw [List.count_cons]
      simp
    have e2 : ∀ n : Nat, sumR n (fun j => if x = (j : Int) then 1 else 0) = if x < (n : Int) then 1 else 0 := by
      intro n
      induction n with
      | zero => show 0 = _; rw [if_neg (by omega)]
      | succ n ih2 =>
        rw [sumR_succ, ih2]
        by_cases h3 : x = (n : Int)
        · rw [if_neg (by omega), if_pos h3, if_pos (by omega)]
        · rw [if_neg h3, Nat.add_zero]
          by_cases h4 : x < (n : Int)
          · rw [if_pos h4, if_pos (by omega)]
          · rw [if_neg h4, if_neg (by omega)]
    rw [e, ih, e2, if_pos h1.2, List.length_cons]
/-- all counts together are the inputs of who is reached -/
theorem uM_sum {f : Nat → List Int} {r : Nat → Bool} {n : Nat} (hf : SoundF n f) : ∀ m, m ≤ n → sumR n (fun j => (uM f r n m j).length) + sumR m (fun i => if r i = true then (f i).length else 0) = sumR n (fun i => if r i = true then (f i).length else 0) := by
  refine down_ind ?_ fun m hm ih => ?_
  · rw [sumR_ext (h := fun _ => 0) (fun i _ => by rw [uM_top]; rfl), sumR_zero, Nat.zero_add]
  · rw [← ih, sumR_succ]
    have e : sumR n (fun j => (uM f r n m j).length) = sumR n (fun j => (uM f r n (m + 1) j).length) + (if r m = true then (f m).length else 0) := by
      rw [sumR_ext (h := fun j => (uM f r n (m + 1) j).length + (if r m = true then (f m).count (j : Int) else 0)) (fun j _ => by
        rw [uM_step f r j hm, List.length_append]
        congr 1
        split
        · exact slotsU_len f j m
        · rfl), sumR_add]
      congr 1
      by_cases hr : r m = true
      · rw [if_pos hr]
        refine Eq.trans (sumR_ext fun j _ => if_pos hr) ?_
        exact sumR_count (f m) (fun x hx => by have := hf m hm x hx; omega)
      · rw [if_neg hr]
        refine Eq.trans (sumR_ext fun j _ => if_neg hr) (sumR_zero n)
    rw [e]
    omega
theorem usersL_sum {f : Nat → List Int} {n root : Nat} (hf : SoundF n f) : sumR n (fun j => (usersL f n root j).length) = sumR n (fun i => if (fromL f n root).getD i false = true then (f i).length else 0) := by
  have := uM_sum (r := fun i => (fromL f n root).getD i false) hf 0 (Nat.zero_le _)
  exact this

end Go.Proofs.Ytefohemihiiceaa
