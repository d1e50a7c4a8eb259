
/- SchedAll: the closure that looks who ought to be picked. -/
import Derived.Test.YtenbmfhhmbfgoaaSchU
namespace Go.Proofs.Ytenbmfhhmbfgoaa
open Go.RowKit

/-- how many are less than q, one by one -/
theorem posL_succ {xs : List Int} (hs : Rise xs) (q : Nat) : posL xs ((q : Int) + 1) = if (q : Int) ∈ xs then posL xs q + 1 else posL xs q := by
  have hle := posL_le xs (q : Int)
  by_cases h : (q : Int) ∈ xs
  · rw [if_pos h]
    have hh := (hasL_iff hs).2 h
    unfold hasL at hh
    simp only [Bool.and_eq_true, decide_eq_true_eq, beq_iff_eq] at hh
    refine posL_of (by omega) (fun j hj => ?_) (fun hlt => ?_)
    · by_cases e : j = posL xs q
      · rw [e, hh.2]; omega
      · have := posL_lt (xs := xs) (t := (q : Int)) (j := j) (by omega)
        omega
    · have := hs.get (i := posL xs q) (j := posL xs q + 1) (by omega) hlt
      omega
  · rw [if_neg h]
    refine posL_of hle (fun j hj => ?_) (fun hlt => ?_)
    · have := posL_lt hj
      omega
    · have h1 := posL_at hlt
      have : xs.getD (posL xs q) 0 ≠ (q : Int) := by
        intro e
        apply h
        rw [← e]
        have : xs.getD (posL xs q) 0 = xs[posL xs q] := by simp [hlt]
        rw [this]
        exact List.getElem_mem _
      omega
theorem posL_zero {xs : List Int} (hb : ∀ x ∈ xs, 0 ≤ x) : posL xs 0 = 0 := by
  cases xs with
  | nil => rfl
  | cons x r =>
    unfold posL
    rw [if_neg (by have := hb x (by simp); omega)]
theorem posL_all {xs : List Int} {n : Nat} (hb : ∀ x ∈ xs, x < (n : Int)) : posL xs n = xs.length := by
  refine posL_of (Nat.le_refl _) (fun j hj => ?_) (fun h => by omega)
  have : xs.getD j 0 = xs[j] := by simp [hj]
  rw [this]
  exact hb _ (List.getElem_mem _)
theorem posL_hit {xs : List Int} (hs : Rise xs) {q : Int} (h : q ∈ xs) : xs.getD (posL xs q) 0 = q := by
  have hh := (hasL_iff hs).2 h
  unfold hasL at hh
  simp only [Bool.and_eq_true, decide_eq_true_eq, beq_iff_eq] at hh
  exact hh.2
theorem posL_mono {xs : List Int} {s t : Int} (h : s ≤ t) : posL xs s ≤ posL xs t := by
  induction xs with
  | nil => exact Nat.le_refl _
  | cons x r ih =>
    unfold posL
    by_cases h1 : x < s
    · rw [if_pos h1, if_pos (by omega)]; omega
    · rw [if_neg h1]; exact Nat.zero_le _

section
variable (Lf Lr Pk At Ok : Nat)
def fA (I : Nat) : Value := .func (.func 25) #[] #[.pointer (some ⟨Lf, 0, none⟩), .pointer (some ⟨Pk, 0, none⟩), .pointer (some ⟨At, 0, none⟩), .pointer (some ⟨Ok, 0, none⟩), .pointer (some ⟨I, 0, none⟩)]
structure AC where
  left : List Nat
  at_ : Nat
def XA (Is : List Nat) : Nat → Prop := fun k => k = Lf ∨ k = Lr ∨ k = Pk ∨ k = At ∨ k = Ok ∨ k ∈ Is
structure MA (n : Nat) (pv : Value) (Is : List Nat) (c : AC) (w : World) : Prop where
  lf : Boxed w Lf 31 (.slice (some ⟨Lr, 0, none⟩) n n)
  lr : Blk w 3 Lr (c.left.map fun (x : Nat) => (x : Int))
  pk : Boxed w Pk 23 pv
  at_ : Boxed w At 3 (.int .i64 (c.at_ : Int))
  ok : Boxed w Ok 4 (.bool true)
  ids : ∀ i, i < Is.length → Boxed w (Is.getD i 0) 3 (.int .i64 (i : Int))
  n1 : At ≠ Lr
  n2 : ∀ i, i < Is.length → Is.getD i 0 ≠ At ∧ Is.getD i 0 ≠ Lr
  ll : c.left.length = n
end
theorem blk_of {w w' : World} {e : TypeId} {B : Nat} {ys : List Int} (h : Blk w e B ys) (q : w'.heap[B]? = w.heap[B]?) : Blk w' e B ys := by
  unfold Blk at h ⊢
  rw [q]
  exact h
theorem blk_ne {w : World} {e t : TypeId} {B C : Nat} {ys : List Int} {v : Value} (h : Blk w e B ys) (k : Boxed w C t v) (hne : e ≠ t) : B ≠ C := by
  rintro rfl
  have := (show w.heap[B]? = _ from h).symm.trans k
  simp at this
  exact hne this.2
theorem MA.of {Lf Lr Pk At Ok n : Nat} {pv : Value} {Is : List Nat} {c : AC} {w w' : World} (h : MA Lf Lr Pk At Ok n pv Is c w) (hb : ∀ k, XA Lf Lr Pk At Ok Is k → w'.heap[k]? = w.heap[k]?) : MA Lf Lr Pk At Ok n pv Is c w' :=
  ⟨boxed_of h.lf (hb _ (.inl rfl)), blk_of h.lr (hb _ (.inr (.inl rfl))), boxed_of h.pk (hb _ (.inr (.inr (.inl rfl)))), boxed_of h.at_ (hb _ (.inr (.inr (.inr (.inl rfl))))), boxed_of h.ok (hb _ (.inr (.inr (.inr (.inr (.inl rfl)))))), fun i hi => boxed_of (h.ids i hi) (hb _ (.inr (.inr (.inr (.inr (.inr (getD_mem hi))))))), h.n1, h.n2, h.ll⟩
theorem MA.setAt {Lf Lr Pk At Ok n : Nat} {pv : Value} {Is : List Nat} {c : AC} {w : World} (h : MA Lf Lr Pk At Ok n pv Is c w) (q : Nat) : MA Lf Lr Pk At Ok n pv Is { c with at_ := q } (w.setCell ⟨At, 0, none⟩ (.int .i64 (q : Int))) := by
  have k := grown_cell w At 0 (.int .i64 (q : Int))
  have z : ∀ {B : Nat} {t : TypeId} {v : Value}, Boxed w B t v → B ≠ At → Boxed (w.setCell ⟨At, 0, none⟩ (.int .i64 (q : Int))) B t v := fun hB hne => boxed_of hB (k.block _ hB.lt (by intro e; cases e; exact hne rfl))
  exact ⟨z h.lf (boxed_ne h.lf h.at_ (by decide)), blk_of h.lr (k.block _ h.lr.lt (by intro e; cases e; exact h.n1 rfl)), z h.pk (boxed_ne h.pk h.at_ (by decide)), h.at_.set _, z h.ok (boxed_ne h.ok h.at_ (by decide)), fun i hi => z (h.ids i hi) (h.n2 i hi).1, h.n1, h.n2, h.ll⟩
theorem MA.setOk {Lf Lr Pk At Ok n : Nat} {pv : Value} {Is : List Nat} {c : AC} {w : World} (h : MA Lf Lr Pk At Ok n pv Is c w) : MA Lf Lr Pk At Ok n pv Is c (w.setCell ⟨Ok, 0, none⟩ (.bool true)) := by
  have k := grown_cell w Ok 0 (.bool true)
  have z : ∀ {B : Nat} {t : TypeId} {v : Value}, Boxed w B t v → B ≠ Ok → Boxed (w.setCell ⟨Ok, 0, none⟩ (.bool true)) B t v := fun hB hne => boxed_of hB (k.block _ hB.lt (by intro e; cases e; exact hne rfl))
  exact ⟨z h.lf (boxed_ne h.lf h.ok (by decide)), blk_of h.lr (k.block _ h.lr.lt (by intro e; cases e; exact blk_ne h.lr h.ok (by decide) rfl)), z h.pk (boxed_ne h.pk h.ok (by decide)), z h.at_ (boxed_ne h.at_ h.ok (by decide)), h.ok.set _, fun i hi => z (h.ids i hi) (boxed_ne (h.ids i hi) h.ok (by decide)), h.n1, h.n2, h.ll⟩
theorem MA.setL {Lf Lr Pk At Ok n : Nat} {pv : Value} {Is : List Nat} {c : AC} {w : World} (h : MA Lf Lr Pk At Ok n pv Is c w) (i x : Nat) : MA Lf Lr Pk At Ok n pv Is { c with left := c.left.set i x } (w.setCell ⟨Lr, i, none⟩ (.int .i64 (x : Int))) := by
  have k := grown_cell w Lr i (.int .i64 (x : Int))
  have z : ∀ {B : Nat} {t : TypeId} {v : Value}, Boxed w B t v → B ≠ Lr → Boxed (w.setCell ⟨Lr, i, none⟩ (.int .i64 (x : Int))) B t v := fun hB hne => boxed_of hB (k.block _ hB.lt (by intro e; cases e; exact hne rfl))
  refine ⟨z h.lf (blk_ne h.lr h.lf (by decide)).symm, ?_, z h.pk (blk_ne h.lr h.pk (by decide)).symm, z h.at_ h.n1, z h.ok (blk_ne h.lr h.ok (by decide)).symm, fun j hj => z (h.ids j hj) (h.n2 j hj).2, h.n1, h.n2, by show (c.left.set i x).length = n; rw [List.length_set]; exact h.ll⟩
  have := h.lr.set i (x : Int)
  show Blk _ _ _ ((c.left.set i x).map fun (x : Nat) => (x : Int))
  rw [List.map_set]
  exact this
theorem MA.cell {Lf Lr Pk At Ok n : Nat} {pv : Value} {Is : List Nat} {c : AC} {w : World} (h : MA Lf Lr Pk At Ok n pv Is c w) {i : Nat} (hi : i < n) : w.cell? ⟨Lr, i, none⟩ = some (.int .i64 ((c.left.getD i 0 : Nat) : Int)) := by
  have h1 := h.lr.cell (i := i) (by rw [List.length_map, h.ll]; exact hi)
  rw [h1]
  have hi2 : i < c.left.length := by rw [h.ll]; exact hi
  simp [List.getD, hi2]

def ansA (x : Nat) : Int := if x = 1 then 3 else 1
def stepA (c : AC) (A : SS) (i : Nat) : Int × AC × SS := (ansA (c.left.getD i 0), ⟨c.left.set i (c.left.getD i 0 - 1), c.at_ + 1⟩, A)
def IA (Lf Lr Pk At Ok n : Nat) (pv : Value) (Is : List Nat) (c : AC) (A : SS) (w : World) : Prop :=
  MA Lf Lr Pk At Ok n pv Is c w ∧ A.wt = [] ∧ (∀ i : Nat, (i : Int) ∈ A.ab → (A.ts.getD i tk0).1 = wrapF (fA Lf Pk At Ok (Is.getD i 0))) ∧ (∀ i : Nat, (i : Int) ∈ A.ab ↔ i < n ∧ 0 < c.left.getD i 0) ∧ A.k = c.at_ ∧ Is.length = n ∧ c.at_ + c.left.sum ≤ 1000
theorem keepsA (W0 : World) (Lf Lr Pk At Ok n : Nat) (pv : Value) (Is : List Nat) : Keeps W0 (XA Lf Lr Pk At Ok Is) (IA Lf Lr Pk At Ok n pv Is) := ⟨fun _ _ _ _ h _ _ hb => ⟨h.1.of hb, h.2⟩⟩

theorem sum_dec : ∀ (l : List Nat) (i : Nat), 0 < l.getD i 0 → (l.set i (l.getD i 0 - 1)).sum + 1 = l.sum
  | [], i, h => by simp at h
  | x :: r, 0, h => by simp at h ⊢; omega
  | x :: r, i + 1, h => by
    have := sum_dec r i (by simpa using h)
    simp only [List.set_cons_succ, List.sum_cons, List.getD_cons_succ] at this ⊢
    omega
theorem getD_setA {l : List Nat} {i j x : Nat} (hi : i < l.length) : (l.set i x).getD j 0 = if j = i then x else l.getD j 0 := by
  by_cases e : j = i
  · subst e; simp [hi]
  · rw [if_neg e]
    simp [List.getD, Ne.symm e]
/-- what a step leaves of who may run -/
theorem ia_after {A : SS} {ps : List Int} (ok : SOk ps A) {n i : Nat} {l : List Nat} (hin : (i : Int) ∈ A.ab) (hw : A.wt = []) (hl : l.length = n) (h : ∀ j : Nat, (j : Int) ∈ A.ab ↔ j < n ∧ 0 < l.getD j 0) (now : Int) :
    (afterS { A with st := true, now := now } i (ansA (l.getD i 0))).wt = [] ∧ (∀ j : Nat, (j : Int) ∈ (afterS { A with st := true, now := now } i (ansA (l.getD i 0))).ab ↔ j < n ∧ 0 < (l.set i (l.getD i 0 - 1)).getD j 0) ∧ (afterS { A with st := true, now := now } i (ansA (l.getD i 0))).k = A.k + 1 ∧
    (∀ j : Nat, (j : Int) ∈ (afterS { A with st := true, now := now } i (ansA (l.getD i 0))).ab → (j : Int) ∈ A.ab ∧ ((afterS { A with st := true, now := now } i (ansA (l.getD i 0))).ts.getD j tk0).1 = (A.ts.getD j tk0).1) ∧ SOk ps (afterS { A with st := true, now := now } i (ansA (l.getD i 0))) := by
  have hh := (hasL_iff ok.abr).2 hin
  obtain ⟨hi1, hi2⟩ := (h i).1 hin
  by_cases e : l.getD i 0 = 1
  · rw [show ansA (l.getD i 0) = 3 from if_pos e, afterS_done']
    refine ⟨hw, fun j => ?_, rfl, fun j hj => ?_, (ok.done hin).numbers _ _ _⟩
    · show (j : Int) ∈ delL (i : Int) A.ab ↔ _
      rw [delL_mem ok.abr hh, h j, getD_setA (by omega)]
      by_cases e2 : j = i
      · rw [if_pos e2, e]
        constructor
        · rintro ⟨_, q⟩; exact absurd (by rw [e2]) q
        · rintro ⟨_, q⟩; omega
      · rw [if_neg e2]
        exact ⟨fun q => q.1, fun q => ⟨q, by omega⟩⟩
    · obtain ⟨j1, j2⟩ := (delL_mem ok.abr hh).1 hj
      refine ⟨j1, ?_⟩
      have hne : i ≠ j := by intro e; subst e; exact j2 rfl
      show ((A.ts.set i tk0).getD j tk0).1 = _
      rw [show (A.ts.set i tk0).getD j tk0 = A.ts.getD j tk0 by simp [List.getD, hne]]
  · have e1 : afterS { A with st := true, now := now } i 1 = { A with st := false, now := now, k := A.k + 1 } := by
      unfold afterS settleS
      rw [if_neg (by decide), if_neg (by decide)]
    rw [show ansA (l.getD i 0) = 1 from if_neg e, e1]
    refine ⟨hw, fun j => ?_, rfl, fun j hj => ⟨hj, rfl⟩, ok.numbers _ _ _⟩
    rw [h j, getD_setA (by omega)]
    by_cases e2 : j = i
    · rw [if_pos e2, e2]
      exact ⟨fun q => ⟨q.1, by omega⟩, fun q => ⟨q.1, hi2⟩⟩
    · rw [if_neg e2]

theorem sum_zero : ∀ (l : List Nat), (∀ i, i < l.length → ¬ 0 < l.getD i 0) → l.sum = 0
  | [], _ => rfl
  | x :: r, h => by
    have h0 := h 0 (by simp)
    have h1 := sum_zero r (fun i hi => by simpa using h (i + 1) (by simpa using hi))
    simp at h0 ⊢
    exact ⟨h0, h1⟩
theorem run_all (ps : List Int) (n : Nat) : ∀ (m : Nat) (c : AC) (A : SS), SOk ps A → A.wt = [] → c.left.length = n → (∀ j : Nat, (j : Int) ∈ A.ab ↔ j < n ∧ 0 < c.left.getD j 0) → c.left.sum ≤ m → ∃ c' X, runF ps stepA m (c, A) = (c.left.sum, 0, (c', X)) ∧ X.ab.length = 0 ∧ X.wt = [] := by
  intro m
  induction m with
  | zero =>
    intro c A ok hw hl hab hm
    have h1 : A.ab.length = 0 := by
      cases hA : A.ab with
      | nil => rfl
      | cons x r =>
        have hx : x ∈ A.ab := by rw [hA]; simp
        have hb := ok.abb x hx
        have := (hab x.toNat).1 (by rw [show ((x.toNat : Nat) : Int) = x by omega]; exact hx)
        have h3 := le_sum c.left x.toNat
        omega
    refine ⟨c, A, ?_, h1, hw⟩
    rw [runF_none h1]
    have : c.left.sum = 0 := by omega
    simp [endE, hw, this]
  | succ m ih =>
    intro c A ok hw hl hab hm
    by_cases h1 : A.ab.length = 0
    · refine ⟨c, A, ?_, h1, hw⟩
      rw [runF_none h1]
      have : c.left.sum = 0 := sum_zero _ (fun i hi hpos => by
        have := (hab i).2 ⟨by omega, hpos⟩
        rw [List.eq_nil_of_length_eq_zero h1] at this
        simp at this)
      simp [endE, hw, this]
    · have hpk := pick_in (ps := ps) (A := A) (by omega)
      have hpb := ok.abb _ hpk
      obtain ⟨i, hi⟩ : ∃ i, (pickS ps A).toNat = i := ⟨_, rfl⟩
      have hiI : (i : Int) = pickS ps A := by omega
      have hin : (i : Int) ∈ A.ab := by rw [hiI]; exact hpk
      obtain ⟨hi1, hi2⟩ := (hab i).1 hin
      have hone : oneF ps stepA (c, A) = (⟨c.left.set i (c.left.getD i 0 - 1), c.at_ + 1⟩, afterS { A with st := true, now := (i : Int) } i (ansA (c.left.getD i 0))) := by
        unfold oneF stepA
        simp only [hi]
      obtain ⟨q1, q2, q3, -, q5⟩ := ia_after ok hin hw hl hab (i : Int)
      have hsd := sum_dec c.left i hi2
      obtain ⟨c', X, e, e1, e2⟩ := ih ⟨c.left.set i (c.left.getD i 0 - 1), c.at_ + 1⟩ _ q5 q1 (by show (c.left.set i _).length = n; rw [List.length_set]; exact hl) q2 (by show (c.left.set i _).sum ≤ m; omega)
      refine ⟨c', X, ?_, e1, e2⟩
      unfold runF
      rw [if_neg h1, hone, e]
      show ((c.left.set i (c.left.getD i 0 - 1)).sum + 1, _) = _
      rw [hsd]

end Go.Proofs.Ytenbmfhhmbfgoaa
