
/- How the document's Work finds out who is reached, and how much it is: plain mathematics. -/
import Derived.Test.YtliddjpcbhdplaaGrY
import Derived.Test.YtliddjpcbhdplaaGrI
namespace Go.Proofs.Ytliddjpcbhdplaa

theorem lv_next {gs : List (List Nd)} {g : Int} {d i : Nat} {j : Nat} (hi : i < gs.length) (h : 0 < lv gs g d i) (hj : (j : Int) ∈ callsL (gs.getD i [])) : 0 < lv gs g (d + 1) j := by
  have h1 : 0 < cnt gs i j := List.count_pos_iff.2 hj
  exact Nat.lt_of_lt_of_le (Nat.mul_pos h h1) (sumN_le (f := fun i => lv gs g d i * cnt gs i j) hi)
theorem lv_prev {gs : List (List Nd)} {g : Int} {d j : Nat} (h : 0 < lv gs g (d + 1) j) : ∃ i, i < gs.length ∧ 0 < lv gs g d i ∧ (j : Int) ∈ callsL (gs.getD i []) := by
  obtain ⟨i, hi, hp⟩ := sumN_pos (n := gs.length) (f := fun i => lv gs g d i * cnt gs i j) h
  exact ⟨i, hi, Nat.pos_of_mul_pos_right hp, List.count_pos_iff.1 (Nat.pos_of_mul_pos_left hp)⟩
theorem lv_self {gs : List (List Nd)} {g : Nat} : 0 < lv gs (g : Int) 0 g := by
  show 0 < (if (g : Int) = (g : Int) then 1 else 0)
  simp
theorem lv_zero_eq {gs : List (List Nd)} {g j : Nat} : 0 < lv gs (g : Int) 0 j ↔ j = g := by
  show 0 < (if (j : Int) = (g : Int) then 1 else 0) ↔ _
  by_cases e : j = g
  · subst e; simp
  · have e2 : ¬ (j : Int) = (g : Int) := by omega
    rw [if_neg e2]
    omega
/-- the least depth at which j is met -/
def Least (gs : List (List Nd)) (g : Int) (d j : Nat) : Prop := 0 < lv gs g d j ∧ ∀ d', d' < d → ¬ 0 < lv gs g d' j
theorem least_of {gs : List (List Nd)} {g : Int} : ∀ {d j : Nat}, 0 < lv gs g d j → ∃ d', d' ≤ d ∧ Least gs g d' j := by
  intro d
  induction d using Nat.strongRecOn with
  | ind d ih =>
    intro j h
    by_cases e : ∃ d', d' < d ∧ 0 < lv gs g d' j
    · obtain ⟨d', h1, h2⟩ := e
      obtain ⟨d2, h3, h4⟩ := ih d' h1 h2
      exact ⟨d2, by omega, h4⟩
    · exact ⟨d, Nat.le_refl _, h, fun d' h1 h2 => e ⟨d', h1, h2⟩⟩
theorem least_row {gs : List (List Nd)} {g : Nat} (hg : g < gs.length) : ∀ {d j : Nat}, j < gs.length → Least gs (g : Int) d j → ∃ S : List Int, S.length = d + 1 ∧ S.Nodup ∧ ∀ x ∈ S, 0 ≤ x ∧ x < (gs.length : Int) ∧ ∃ d', d' ≤ d ∧ Least gs (g : Int) d' x.toNat
  | 0, j, hj, h => ⟨[(j : Int)], rfl, by simp, fun x hx => by
      have e : x = (j : Int) := by simpa using hx
      subst e
      exact ⟨by omega, by omega, 0, Nat.le_refl _, by simpa using h⟩⟩
  | d + 1, j, hj, h => by
    obtain ⟨i, hi, h1, h2⟩ := lv_prev h.1
    have hl : Least gs (g : Int) d i := ⟨h1, fun d' hd' hp => h.2 (d' + 1) (by omega) (lv_next hi hp h2)⟩
    obtain ⟨S, hS, hn, hx⟩ := least_row hg hi hl
    refine ⟨(j : Int) :: S, by rw [List.length_cons, hS], List.nodup_cons.2 ⟨fun hm => ?_, hn⟩, fun x hm => ?_⟩
    · obtain ⟨_, _, d', hd', hl'⟩ := hx _ hm
      have e : (j : Int).toNat = j := by omega
      rw [e] at hl'
      exact h.2 d' (by omega) hl'.1
    · rcases List.mem_cons.1 hm with rfl | hm
      · exact ⟨by omega, by omega, d + 1, Nat.le_refl _, by simpa using h⟩
      · obtain ⟨h3, h4, d', hd', hl'⟩ := hx _ hm
        exact ⟨h3, h4, d', by omega, hl'⟩
theorem least_lt {gs : List (List Nd)} {g d j : Nat} (hg : g < gs.length) (hj : j < gs.length) (h : Least gs (g : Int) d j) : d < gs.length := by
  obtain ⟨S, hS, hn, hx⟩ := least_row hg hj h
  have := pigeon gs.length S hn (fun x hm => ⟨(hx x hm).1, (hx x hm).2.1⟩)
  omega
/-- who is met at some depth is met at one below the number of graphs -/
theorem soon {gs : List (List Nd)} {g d j : Nat} (hg : g < gs.length) (hj : j < gs.length) (h : 0 < lv gs (g : Int) d j) : ∃ d', d' < gs.length ∧ 0 < lv gs (g : Int) d' j := by
  obtain ⟨d', _, hl⟩ := least_of h
  exact ⟨d', least_lt hg hj hl, hl.1⟩

/-- all that is Called at depths below D is there -/
def Clean (gs : List (List Nd)) (g : Int) (D : Nat) : Prop := ∀ d, d < D → ∀ i, i < gs.length → 0 < lv gs g d i → ∀ t ∈ callsL (gs.getD i []), inRg gs t
theorem clean_whole {gs : List (List Nd)} {g : Nat} (hg : g < gs.length) (h : Clean gs (g : Int) gs.length) : WholeP gs (g : Int) := by
  have key : ∀ y, Rch gs (g : Int) y → inRg gs y ∧ ∃ d, 0 < lv gs (g : Int) d y.toNat := by
    intro y hy
    induction hy with
    | base => exact ⟨⟨by omega, by omega⟩, 0, by simpa using lv_self⟩
    | @step x y _ hr ht ih =>
      obtain ⟨_, d, hd⟩ := ih
      obtain ⟨d', hd', hp⟩ := soon hg (show x.toNat < gs.length by have := hr.1; have := hr.2; omega) hd
      have hin := h d' hd' x.toNat (by have := hr.1; have := hr.2; omega) hp y ht
      refine ⟨hin, d' + 1, lv_next (i := x.toNat) (by have := hr.1; have := hr.2; omega) hp ?_⟩
      have e : ((y.toNat : Nat) : Int) = y := by have := hin.1; omega
      rw [e]
      exact ht
  exact fun y hy => (key y hy).1
theorem not_whole_at {gs : List (List Nd)} {g : Nat} {d i : Nat} {t : Int} (hi : i < gs.length) (h : 0 < lv gs (g : Int) d i) (ht : t ∈ callsL (gs.getD i [])) (hn : ¬ inRg gs t) : ¬ WholeP gs (g : Int) := fun hw => by
  refine hn (hw t (.step (lv_rch d i hi h) ⟨by omega, by omega⟩ ?_))
  unfold tg
  simpa using ht
/-- somebody is Called at a depth of eight or more, below D -/
def Deeper (gs : List (List Nd)) (g : Int) (D : Nat) : Prop := ∃ d, d < D ∧ 8 ≤ d ∧ ∃ j, j < gs.length ∧ 0 < lv gs g (d + 1) j
theorem deeper_back {gs : List (List Nd)} {g : Int} : ∀ r j, 0 < lv gs g (9 + r) j → j < gs.length → DeepP gs g
  | 0, j, h, hj => ⟨j, hj, h⟩
  | r + 1, j, h, _ => by
    obtain ⟨i, hi, h1, _⟩ := lv_prev (d := 9 + r) h
    exact deeper_back r i h1 hi
theorem deeper_iff {gs : List (List Nd)} {g : Int} {D : Nat} (hD : 8 < D) : Deeper gs g D ↔ DeepP gs g := by
  constructor
  · rintro ⟨d, _, h8, j, hj, h⟩
    have e : d + 1 = 9 + (d - 8) := by omega
    rw [e] at h
    exact deeper_back _ j h hj
  · rintro ⟨j, hj, h⟩
    exact ⟨8, hD, Nat.le_refl _, j, hj, h⟩

/-- what the graphs of a list of Calls come to, so deep -/
def sumD (gs : List (List Nd)) (d : Nat) : List Int → Nat
  | [] => 0
  | t :: l => wk gs t d + sumD gs d l
theorem sumD_append (gs : List (List Nd)) (d : Nat) (l : List Int) (t : Int) : sumD gs d (l ++ [t]) = sumD gs d l + wk gs t d := by
  induction l with
  | nil => show wk gs t d + 0 = 0 + wk gs t d; omega
  | cons x l ih => show wk gs x d + sumD gs d (l ++ [t]) = wk gs x d + sumD gs d l + wk gs t d; omega
theorem sumD_count (gs : List (List Nd)) (d : Nat) : ∀ l : List Int, (∀ t ∈ l, inRg gs t) → sumN gs.length (fun j => l.count (j : Int) * wk gs (j : Int) d) = sumD gs d l
  | [], _ => sumN_zero _ fun _ _ => by rw [List.count_nil, Nat.zero_mul]
  | t :: l, h => by
    obtain ⟨h1, h2⟩ := h t (List.mem_cons_self ..)
    have ih := sumD_count gs d l (fun x hx => h x (List.mem_cons_of_mem _ hx))
    obtain ⟨n, rfl⟩ : ∃ n : Nat, t = n := ⟨t.toNat, by omega⟩
    have h3 : sumN gs.length (fun j => ((n : Int) :: l).count (j : Int) * wk gs (j : Int) d) = sumN gs.length (fun j => l.count (j : Int) * wk gs (j : Int) d + (if j = n then 1 else 0) * wk gs (j : Int) d) :=
      sumN_ext fun j _ => by
        rw [List.count_cons, Nat.add_mul]
        by_cases e : j = n
        · subst e; simp
        · have e2 : ¬ (n : Int) = (j : Int) := by omega
          simp [e, e2]
    rw [h3, sumN_add, ih, sumN_only (x := n) (by omega) (fun j _ hne => by rw [if_neg hne, Nat.zero_mul]), if_pos rfl, Nat.one_mul]
    show _ = wk gs (n : Int) d + sumD gs d l
    omega
theorem wk_sum {gs : List (List Nd)} {i : Nat} (hi : i < gs.length) (h : ∀ t ∈ callsL (gs.getD i []), inRg gs t) (d : Nat) : wk gs (i : Int) (d + 1) = (gs.getD i []).length + sumD gs d (callsL (gs.getD i [])) := by
  rw [wk_front gs i hi d, ← sumD_count gs d _ h]
  rfl

/-- the answer, out of what was counted -/
theorem work_end {gs : List (List Nd)} {g x : Nat} (hw : WholeP gs (g : Int)) (hd : ¬ DeepP gs (g : Int)) (hx : sat x = sat (wk gs (g : Int) 10)) : (4096 < x → WorkR gs (g : Int) 0 10) ∧ (¬ 4096 < x → WorkR gs (g : Int) (x : Int) 0) := by
  have e : wk gs (g : Int) 10 = wk gs (g : Int) 9 := by
    show wk gs (g : Int) 9 + sumN gs.length (fun k => lv gs (g : Int) 9 k * lenG gs k) = _
    rw [sumN_zero _ (fun k hk => by
      have : lv gs (g : Int) 9 k = 0 := Classical.byContradiction fun h => hd ⟨k, hk, by omega⟩
      rw [this, Nat.zero_mul])]
    rfl
  rw [e] at hx
  unfold sat at hx
  refine ⟨fun h => .inr (.inr (.inl ⟨hw, hd, by omega, rfl, rfl⟩)), fun h => .inr (.inr (.inr ⟨hw, hd, by omega, by omega, rfl⟩))⟩
theorem sat_one {x y : Nat} (h : sat x = sat y) (k : Nat) : sat (x + k) = sat (y + k) := by unfold sat at *; omega
theorem sat_capped {x y X Y : Nat} (h : sat x = sat X) (h' : sat y = sat Y) : sat (min (x + y) 1048576) = sat (X + Y) := by unfold sat at *; omega

end Go.Proofs.Ytliddjpcbhdplaa
