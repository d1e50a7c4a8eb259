
/- Runs one behind the other, and of two schedulers that differ in their steps' values alone: plain mathematics. -/
import Derived.Test.YtenbmfhhmbfgoaaSchO
namespace Go.Proofs.Ytenbmfhhmbfgoaa

/-- alike but for the values of the steps -/
structure EqS (A B : SS) : Prop where
  ab : A.ab = B.ab
  wt : A.wt = B.wt
  k : A.k = B.k
  st : A.st = B.st
  now : A.now = B.now
  ts : A.ts.map Prod.snd = B.ts.map Prod.snd
theorem EqS.refl (A : SS) : EqS A A := ⟨rfl, rfl, rfl, rfl, rfl, rfl⟩
theorem EqS.flag {A B : SS} (h : EqS A B) (i : Nat) : (A.ts.getD i tk0).2 = (B.ts.getD i tk0).2 := by
  have z : ∀ l : List (Value × Bool), (l.getD i tk0).2 = (l.map Prod.snd).getD i false := fun l => by
    by_cases hi : i < l.length
    · simp [List.getD, hi]
    · rw [List.getD_eq_getElem?_getD, List.getD_eq_getElem?_getD, List.getElem?_eq_none (by omega), List.getElem?_eq_none (by simp; omega)]
      rfl
  rw [z, z, h.ts]
theorem woken_snd (ts : List (Value × Bool)) (id : Int) (b : Bool) : (wokenT ts id b).map Prod.snd = (ts.map Prod.snd).set id.toNat b := by
  unfold wokenT
  rw [List.map_set]
theorem EqS.wake {A B : SS} (h : EqS A B) (id : Int) : (wakeS A id).1 = (wakeS B id).1 ∧ EqS (wakeS A id).2 (wakeS B id).2 := by
  unfold wakeS
  rw [h.wt, h.ab]
  split
  · exact ⟨rfl, rfl, rfl, h.k, h.st, h.now, h.ts⟩
  · split
    · refine ⟨rfl, rfl, rfl, h.k, h.st, h.now, ?_⟩
      show (wokenT A.ts id true).map Prod.snd = (wokenT B.ts id true).map Prod.snd
      rw [woken_snd, woken_snd, h.ts]
    · exact ⟨rfl, h⟩
theorem EqS.wakes : ∀ (l : List Int) {A B : SS}, EqS A B → EqS (wakesS A l) (wakesS B l)
  | [], _, _, h => h
  | u :: r, _, _, h => EqS.wakes r (h.wake u).2
theorem EqS.settle {A B : SS} (h : EqS A B) (i : Nat) (r : Int) : EqS (settleS A i r) (settleS B i r) := by
  unfold settleS
  rw [h.flag i, h.ab, h.wt]
  split
  · refine ⟨rfl, rfl, h.k, h.st, h.now, ?_⟩
    show (A.ts.set i tk0).map Prod.snd = (B.ts.set i tk0).map Prod.snd
    rw [List.map_set, List.map_set, h.ts]
  · split
    · split
      · refine ⟨rfl, rfl, h.k, h.st, h.now, ?_⟩
        show (wokenT A.ts i false).map Prod.snd = (wokenT B.ts i false).map Prod.snd
        rw [woken_snd, woken_snd, h.ts]
      · exact ⟨rfl, rfl, h.k, h.st, h.now, h.ts⟩
    · exact h
theorem EqS.pick {A B : SS} (h : EqS A B) (ps : List Int) : pickS ps A = pickS ps B := by
  unfold pickS
  rw [h.ab, h.k]
theorem EqS.one {A B : SS} (h : EqS A B) (ps : List Int) (ds : List (Value × List (Value × List Int × Int))) (c : DC) : (oneF ps (stepD ds) (c, A)).1 = (oneF ps (stepD ds) (c, B)).1 ∧ EqS (oneF ps (stepD ds) (c, A)).2 (oneF ps (stepD ds) (c, B)).2 := by
  have hp := h.pick ps
  unfold oneF stepD
  simp only [hp]
  refine ⟨trivial, ?_⟩
  generalize (pickS ps B).toNat = i
  have h1 : EqS { A with st := true, now := (i : Int) } { B with st := true, now := (i : Int) } := ⟨h.ab, h.wt, h.k, rfl, rfl, h.ts⟩
  have h2 := EqS.wakes ((ds.getD i dz).2.getD (c.at_.getD i 0) d0).2.1 h1
  unfold afterS
  refine EqS.settle ?_ i _
  exact ⟨h2.ab, h2.wt, by show _ + 1 = _ + 1; rw [h2.k], rfl, h2.now, h2.ts⟩
/-- they run alike -/
theorem run_eq (ps : List Int) (ds : List (Value × List (Value × List Int × Int))) : ∀ (m : Nat) (c : DC) (A B : SS), EqS A B → (runF ps (stepD ds) m (c, A)).1 = (runF ps (stepD ds) m (c, B)).1 ∧ (runF ps (stepD ds) m (c, A)).2.1 = (runF ps (stepD ds) m (c, B)).2.1 ∧ (runF ps (stepD ds) m (c, A)).2.2.1 = (runF ps (stepD ds) m (c, B)).2.2.1 ∧ EqS (runF ps (stepD ds) m (c, A)).2.2.2 (runF ps (stepD ds) m (c, B)).2.2.2
  | 0, c, A, B, h => by
    unfold runF endE
    simp only [h.ab, h.wt]
    exact ⟨trivial, trivial, trivial, h⟩
  | m + 1, c, A, B, h => by
    by_cases h0 : A.ab.length = 0
    · rw [runF_none h0, runF_none (show (c, B).2.ab.length = 0 by rw [← h.ab]; exact h0)]
      unfold endE
      simp only [h.wt]
      exact ⟨trivial, trivial, trivial, h⟩
    · obtain ⟨h1, h2⟩ := h.one ps ds c
      have e := run_eq ps ds m (oneF ps (stepD ds) (c, A)).1 _ _ h2
      have eB : oneF ps (stepD ds) (c, B) = ((oneF ps (stepD ds) (c, A)).1, (oneF ps (stepD ds) (c, B)).2) := by rw [h1]
      have eA : oneF ps (stepD ds) (c, A) = ((oneF ps (stepD ds) (c, A)).1, (oneF ps (stepD ds) (c, A)).2) := rfl
      unfold runF
      rw [if_neg h0, if_neg (by rw [← h.ab]; exact h0), eA, eB]
      exact ⟨by rw [e.1], e.2.1, e.2.2.1, e.2.2.2⟩
section
variable {γ : Type}
/-- a Run and then another one are one Run -/
theorem run_add (ps : List Int) (stepF : γ → SS → Nat → Int × γ × SS) (b : Nat) : ∀ (a : Nat) (x : γ × SS), runF ps stepF (a + b) x = ((runF ps stepF a x).1 + (runF ps stepF b (runF ps stepF a x).2.2).1, (runF ps stepF b (runF ps stepF a x).2.2).2)
  | 0, x => by
    have e : runF ps stepF 0 x = (0, if x.2.ab.length = 0 then endE x.2 else 13, x) := rfl
    rw [e, Nat.zero_add, Nat.zero_add]
  | a + 1, x => by
    by_cases h0 : x.2.ab.length = 0
    · rw [runF_none h0, runF_none h0]
      rw [runF_none h0]
      simp
    · have e1 : ∀ m, runF ps stepF (m + 1) x = ((runF ps stepF m (oneF ps stepF x)).1 + 1, (runF ps stepF m (oneF ps stepF x)).2) := fun m => by
        conv => lhs; unfold runF
        rw [if_neg h0]
      rw [show a + 1 + b = (a + b) + 1 by omega, e1, e1, run_add ps stepF b a (oneF ps stepF x)]
      simp only [Prod.mk.injEq, and_true]
      omega
/-- where fewer were made than might be, nobody can run -/
theorem run_short (ps : List Int) (stepF : γ → SS → Nat → Int × γ × SS) : ∀ (a : Nat) (x : γ × SS), (runF ps stepF a x).1 < a → (runF ps stepF a x).2.2.2.ab.length = 0
  | 0, x, h => absurd h (Nat.not_lt_zero _)
  | a + 1, x, h => by
    by_cases h0 : x.2.ab.length = 0
    · rw [runF_none h0]
      exact h0
    · have e1 : runF ps stepF (a + 1) x = ((runF ps stepF a (oneF ps stepF x)).1 + 1, (runF ps stepF a (oneF ps stepF x)).2) := by
        conv => lhs; unfold runF
        rw [if_neg h0]
      rw [e1] at h ⊢
      exact run_short ps stepF a (oneF ps stepF x) (by simp only at h; omega)
/-- the steps that were made are counted -/
theorem run_cuts (ps : List Int) (stepF : γ → SS → Nat → Int × γ × SS) (a b : Nat) (x : γ × SS) (h : (runF ps stepF a x).1 < a) : (runF ps stepF a x).1 = (runF ps stepF b x).1 + (runF ps stepF a (runF ps stepF b x).2.2).1 ∧ (runF ps stepF a x).2 = (runF ps stepF a (runF ps stepF b x).2.2).2 := by
  have h1 := run_add ps stepF b a x
  have h2 := run_add ps stepF a b x
  have h3 := runF_none (ps := ps) (stepF := stepF) (m := b) (run_short ps stepF a x h)
  have h4 : (runF ps stepF a x).2.1 = endE (runF ps stepF a x).2.2.2 := by
    have : ∀ (a : Nat) (x : γ × SS), (runF ps stepF a x).2.2.2.ab.length = 0 → (runF ps stepF a x).2.1 = endE (runF ps stepF a x).2.2.2 := by
      intro a
      induction a with
      | zero =>
        intro x h
        have h' : x.2.ab.length = 0 := h
        show (if x.2.ab.length = 0 then endE x.2 else 13) = endE x.2
        rw [if_pos h']
      | succ a ih =>
        intro x h
        by_cases h0 : x.2.ab.length = 0
        · rw [runF_none h0]
        · have e1 : runF ps stepF (a + 1) x = ((runF ps stepF a (oneF ps stepF x)).1 + 1, (runF ps stepF a (oneF ps stepF x)).2) := by
            conv => lhs; unfold runF
            rw [if_neg h0]
          rw [e1] at h ⊢
          exact ih _ h
    exact this a x (run_short ps stepF a x h)
  rw [h3] at h1
  rw [Nat.add_comm a b, h2] at h1
  obtain ⟨q1, q2⟩ := Prod.mk.inj h1
  refine ⟨by omega, ?_⟩
  rw [q2, ← h4]
end

end Go.Proofs.Ytenbmfhhmbfgoaa
