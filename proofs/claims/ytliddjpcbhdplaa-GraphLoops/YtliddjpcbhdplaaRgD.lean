
/- The document's own Work. -/
import Derived.Test.YtliddjpcbhdplaaRgC
import Derived.Test.YtliddjpcbhdplaaBoolB
import Derived.Test.YtliddjpcbhdplaaGrH
namespace Go.Proofs.Ytliddjpcbhdplaa
open Go.RowKit

theorem BlkB.other {w : World} {A B i : Nat} {bs : List Bool} {v : Value} (h : BlkB w A bs) (hne : A ≠ B) : BlkB (w.setCell ⟨B, i, none⟩ v) A bs := by
  unfold BlkB at *
  rw [Below.heap_setCell w ⟨B, i, none⟩ v A hne]
  exact h
theorem Blk.other {w : World} {e : TypeId} {A B i : Nat} {ys : List Int} {v : Value} (h : Blk w e A ys) (hne : A ≠ B) : Blk (w.setCell ⟨B, i, none⟩ v) e A ys := by
  unfold Blk at *
  rw [Below.heap_setCell w ⟨B, i, none⟩ v A hne]
  exact h
/-- a row of bools says who is such -/
def Says (bs : List Bool) (n : Nat) (p : Nat → Prop) : Prop := bs.length = n ∧ ∀ j, j < n → (bs.getD j false = true ↔ p j)
theorem Says.made (n : Nat) {p : Nat → Prop} (h : ∀ j, j < n → ¬ p j) : Says (List.replicate n false) n p := ⟨by simp, fun j hj => by
  have e : (List.replicate n false).getD j false = false := by simp [List.getD, hj]
  rw [e]
  exact ⟨fun h2 => (by cases h2), fun h2 => absurd h2 (h j hj)⟩⟩
theorem Says.set {bs : List Bool} {n i : Nat} {p q : Nat → Prop} {x : Bool} (h : Says bs n p) (hx : i < n → (x = true ↔ q i)) (hq : ∀ j, j < n → j ≠ i → (p j ↔ q j)) : Says (bs.set i x) n q := ⟨by rw [List.length_set]; exact h.1, fun j hj => by
  by_cases e : j = i
  · subst e
    have : (bs.set j x).getD j false = x := by simp [List.getD, h.1, hj]
    rw [this]
    exact hx hj
  · have : (bs.set i x).getD j false = bs.getD j false := by simp [List.getD, Ne.symm e]
    rw [this]
    exact (h.2 j hj).trans (hq j hj e)⟩
theorem Says.cong {bs : List Bool} {n : Nat} {p q : Nat → Prop} (h : Says bs n p) (hq : ∀ j, j < n → (p j ↔ q j)) : Says bs n q := ⟨h.1, fun j hj => (h.2 j hj).trans (hq j hj)⟩

/-- who is Called by the first i graphs at that depth -/
def Nx (gs : List (List Nd)) (g : Int) (d i : Nat) (j : Nat) : Prop := ∃ i', i' < i ∧ i' < gs.length ∧ 0 < lv gs g d i' ∧ (j : Int) ∈ callsL (gs.getD i' [])
theorem nx_all {gs : List (List Nd)} {g : Int} {d j : Nat} : Nx gs g d gs.length j ↔ 0 < lv gs g (d + 1) j := by
  constructor
  · rintro ⟨i, h1, _, h2, h3⟩
    exact lv_next h1 h2 h3
  · intro h
    obtain ⟨i, h1, h2, h3⟩ := lv_prev h
    exact ⟨i, h1, h1, h2, h3⟩
theorem nx_no {gs : List (List Nd)} {g : Int} {d i j : Nat} (h : ¬ 0 < lv gs g d i) : Nx gs g d (i + 1) j ↔ Nx gs g d i j := by
  constructor
  · rintro ⟨i', h1, h2, h3, h4⟩
    by_cases e : i' = i
    · subst e; exact absurd h3 h
    · exact ⟨i', by omega, h2, h3, h4⟩
  · rintro ⟨i', h1, h2, h3, h4⟩
    exact ⟨i', by omega, h2, h3, h4⟩
theorem nx_yes {gs : List (List Nd)} {g : Int} {d i j : Nat} (hi : i < gs.length) (h : 0 < lv gs g d i) : Nx gs g d (i + 1) j ↔ (Nx gs g d i j ∨ (j : Int) ∈ callsL (gs.getD i [])) := by
  constructor
  · rintro ⟨i', h1, h2, h3, h4⟩
    by_cases e : i' = i
    · subst e; exact .inr h4
    · exact .inl ⟨i', by omega, h2, h3, h4⟩
  · rintro (⟨i', h1, h2, h3, h4⟩ | h4)
    · exact ⟨i', by omega, h2, h3, h4⟩
    · exact ⟨i, by omega, hi, h, h4⟩
/-- what lies where while the depths are gone through -/
structure Dps (gs : List (List Nd)) (g : Int) (w wr : World) (A C : Nat) (d : Nat) (b : Bool) : Prop where
  kp : Kp w wr
  lo : w.heap.size ≤ A ∧ w.heap.size ≤ C ∧ A ≠ C
  at_ : ∃ av, BlkB wr A av ∧ Says av gs.length (fun j => 0 < lv gs g d j)
  all : ∃ cs, BlkB wr C cs ∧ Says cs gs.length (fun j => ∃ d', d' < d ∧ 0 < lv gs g d' j)
  deep : b = true ↔ Deeper gs g d
  clean : Clean gs g d
/-- .. and while the graphs of one depth are gone through: i graphs, and of graph i the Calls l -/
structure Row (gs : List (List Nd)) (g : Int) (w wr : World) (A C B : Nat) (d i : Nat) (i2 : Nat) (l : List Int) (s : Bool) : Prop where
  kp : Kp w wr
  lo : w.heap.size ≤ A ∧ w.heap.size ≤ C ∧ w.heap.size ≤ B ∧ A ≠ C ∧ A ≠ B ∧ C ≠ B
  at_ : ∃ av, BlkB wr A av ∧ Says av gs.length (fun j => 0 < lv gs g d j)
  all : ∃ cs, BlkB wr C cs ∧ Says cs gs.length (fun j => (∃ d', d' < d ∧ 0 < lv gs g d' j) ∨ (j < i2 ∧ 0 < lv gs g d j))
  next : ∃ ys, BlkB wr B ys ∧ Says ys gs.length (fun j => Nx gs g d i j ∨ (j : Int) ∈ l)
  some_ : s = true ↔ ∃ j, j < gs.length ∧ (Nx gs g d i j ∨ (j : Int) ∈ l)
  clean : (∀ i', i' < i → i' < gs.length → 0 < lv gs g d i' → ∀ t ∈ callsL (gs.getD i' []), inRg gs t) ∧ ∀ t ∈ l, inRg gs t
theorem Row.grow {gs : List (List Nd)} {g : Int} {w wr wr' : World} {A C B d i i2 : Nat} {l : List Int} {s : Bool} (h : Row gs g w wr A C B d i i2 l s) (k : Kp wr wr') : Row gs g w wr' A C B d i i2 l s := by
  obtain ⟨av, a1, a2⟩ := h.at_
  obtain ⟨cs, c1, c2⟩ := h.all
  obtain ⟨ys, y1, y2⟩ := h.next
  exact ⟨h.kp.trans k, h.lo, ⟨av, a1.keep k, a2⟩, ⟨cs, c1.keep k, c2⟩, ⟨ys, y1.keep k, y2⟩, h.some_, h.clean⟩
/-- all[i] = all[i] || at[i] -/
theorem Row.setAll {gs : List (List Nd)} {g : Int} {w wr : World} {A C B d i : Nat} {l : List Int} {s x : Bool} (h : Row gs g w wr A C B d i i l s) (hx : x = true ↔ ((∃ d', d' < d ∧ 0 < lv gs g d' i) ∨ 0 < lv gs g d i)) :
    Row gs g w (wr.setCell ⟨C, i, none⟩ (.bool x)) A C B d i (i + 1) l s := by
  obtain ⟨av, a1, a2⟩ := h.at_
  obtain ⟨cs, c1, c2⟩ := h.all
  obtain ⟨ys, y1, y2⟩ := h.next
  obtain ⟨l1, l2, l3, l4, l5, l6⟩ := h.lo
  refine ⟨h.kp.set l2 _, h.lo, ⟨av, a1.other l4, a2⟩, ⟨_, c1.set i x, c2.set (fun _ => ?_) (fun j hj hne => ?_)⟩, ⟨ys, y1.other (Ne.symm l6), y2⟩, h.some_, h.clean⟩
  · rw [hx]
    constructor
    · rintro (h | h)
      · exact .inl h
      · exact .inr ⟨by omega, h⟩
    · rintro (h | ⟨_, h⟩)
      · exact .inl h
      · exact .inr h
  · constructor
    · rintro (h | ⟨h1, h⟩)
      · exact .inl h
      · exact .inr ⟨by omega, h⟩
    · rintro (h | ⟨h1, h⟩)
      · exact .inl h
      · exact .inr ⟨by omega, h⟩
/-- next[t] = true, some = true -/
theorem Row.setNext {gs : List (List Nd)} {g : Int} {w wr : World} {A C B d i i2 : Nat} {l : List Int} {s : Bool} (h : Row gs g w wr A C B d i i2 l s) {t : Nat} (ht : t < gs.length) :
    Row gs g w (wr.setCell ⟨B, t, none⟩ (.bool true)) A C B d i i2 (l ++ [(t : Int)]) true := by
  obtain ⟨av, a1, a2⟩ := h.at_
  obtain ⟨cs, c1, c2⟩ := h.all
  obtain ⟨ys, y1, y2⟩ := h.next
  obtain ⟨l1, l2, l3, l4, l5, l6⟩ := h.lo
  refine ⟨h.kp.set l3 _, h.lo, ⟨av, a1.other l5, a2⟩, ⟨cs, c1.other l6, c2⟩, ⟨_, y1.set t true, y2.set (fun _ => ?_) (fun j hj hne => ?_)⟩, ?_, h.clean.1, fun x hx => ?_⟩
  · simp
  · simp only [List.mem_append, List.mem_cons, List.not_mem_nil, or_false]
    constructor
    · rintro (h | h)
      · exact .inl h
      · exact .inr (.inl h)
    · rintro (h | h | h)
      · exact .inl h
      · exact .inr h
      · exact absurd h (by omega)
  · exact ⟨fun _ => ⟨t, ht, .inr (by simp)⟩, fun _ => rfl⟩
  · simp only [List.mem_append, List.mem_cons, List.not_mem_nil, or_false] at hx
    rcases hx with hx | rfl
    · exact h.clean.2 x hx
    · exact ⟨by omega, by omega⟩
/-- a graph more: it was met, and all its Calls are gone through -/
theorem Row.done {gs : List (List Nd)} {g : Int} {w wr : World} {A C B d i : Nat} {s : Bool} (hi : i < gs.length) (hp : 0 < lv gs g d i) (h : Row gs g w wr A C B d i (i + 1) (callsL (gs.getD i [])) s) : Row gs g w wr A C B d (i + 1) (i + 1) [] s := by
  obtain ⟨ys, y1, y2⟩ := h.next
  refine ⟨h.kp, h.lo, h.at_, h.all, ⟨ys, y1, y2.cong (fun j hj => ?_)⟩, h.some_.trans ?_, fun i' h1 h2 h3 => ?_, fun t ht => by cases ht⟩
  · rw [nx_yes hi hp]; simp
  · constructor
    · rintro ⟨j, hj, h⟩
      exact ⟨j, hj, .inl ((nx_yes hi hp).2 h)⟩
    · rintro ⟨j, hj, h | h⟩
      · exact ⟨j, hj, (nx_yes hi hp).1 h⟩
      · cases h
  · by_cases e : i' = i
    · subst e; exact h.clean.2
    · exact h.clean.1 i' (by omega) h2 h3
/-- .. or it was not met -/
theorem Row.skip {gs : List (List Nd)} {g : Int} {w wr : World} {A C B d i : Nat} {s : Bool} (hp : ¬ 0 < lv gs g d i) (h : Row gs g w wr A C B d i (i + 1) [] s) : Row gs g w wr A C B d (i + 1) (i + 1) [] s := by
  obtain ⟨ys, y1, y2⟩ := h.next
  refine ⟨h.kp, h.lo, h.at_, h.all, ⟨ys, y1, y2.cong (fun j hj => ?_)⟩, h.some_.trans ?_, fun i' h1 h2 h3 => ?_, fun t ht => by cases ht⟩
  · rw [nx_no hp]
  · constructor
    · rintro ⟨j, hj, h⟩
      exact ⟨j, hj, by rw [nx_no hp]; exact h⟩
    · rintro ⟨j, hj, h⟩
      exact ⟨j, hj, by rw [nx_no hp] at h; exact h⟩
  · by_cases e : i' = i
    · subst e; exact absurd h3 hp
    · exact h.clean.1 i' (by omega) h2 h3
/-- a depth begins -/
theorem Dps.row {gs : List (List Nd)} {g : Int} {w wr : World} {A C d : Nat} {b : Bool} (h : Dps gs g w wr A C d b) : Row gs g w (wr.alloc (.cells (madeCells #[.bool false] gs.length) 4)) A C wr.heap.size d 0 0 [] false := by
  obtain ⟨av, a1, a2⟩ := h.at_
  obtain ⟨cs, c1, c2⟩ := h.all
  obtain ⟨l1, l2, l3⟩ := h.lo
  have k := Kp.alloc wr (.cells (madeCells #[.bool false] gs.length) 4)
  have nx0 : ∀ j, ¬ (Nx gs g d 0 j ∨ (j : Int) ∈ ([] : List Int)) := fun j => by
    rintro (⟨i', h1, _⟩ | h)
    · omega
    · cases h
  refine ⟨h.kp.trans k, ⟨l1, l2, h.kp.size, l3, ?_, ?_⟩, ⟨av, a1.keep k, a2⟩, ⟨cs, c1.keep k, c2.cong (fun j hj => ⟨fun h => .inl h, fun h => ?_⟩)⟩, ⟨_, BlkB.made wr gs.length, Says.made _ (fun j hj => nx0 j)⟩, ⟨fun h => (by cases h), fun ⟨j, _, h⟩ => absurd h (nx0 j)⟩, fun i' h1 => absurd h1 (Nat.not_lt_zero _), fun t ht => by cases ht⟩
  · have := a1.lt; omega
  · have := c1.lt; omega
  · rcases h with h | ⟨h, _⟩
    · exact h
    · omega
/-- a depth ends -/
theorem Row.dps {gs : List (List Nd)} {g : Int} {w wr : World} {A C B d : Nat} {b s b' : Bool} (h : Row gs g w wr A C B d gs.length gs.length [] s) (hb : b = true ↔ Deeper gs g d) (hc : Clean gs g d) (hb' : b' = (b || (s && decide (8 ≤ d)))) : Dps gs g w wr B C (d + 1) b' := by
  obtain ⟨cs, c1, c2⟩ := h.all
  obtain ⟨ys, y1, y2⟩ := h.next
  obtain ⟨l1, l2, l3, l4, l5, l6⟩ := h.lo
  have hs : s = true ↔ ∃ j, j < gs.length ∧ 0 < lv gs g (d + 1) j := h.some_.trans ⟨fun ⟨j, hj, hh⟩ => ⟨j, hj, nx_all.1 (by rcases hh with hh | hh; exact hh; cases hh)⟩, fun ⟨j, hj, hh⟩ => ⟨j, hj, .inl (nx_all.2 hh)⟩⟩
  refine ⟨h.kp, ⟨l3, l2, Ne.symm l6⟩, ⟨ys, y1, y2.cong (fun j hj => ⟨fun hh => nx_all.1 (by rcases hh with hh | hh; exact hh; cases hh), fun hh => .inl (nx_all.2 hh)⟩)⟩, ⟨cs, c1, c2.cong (fun j hj => ?_)⟩, ?_, ?_⟩
  · constructor
    · rintro (⟨d', h1, h2⟩ | ⟨_, h2⟩)
      · exact ⟨d', by omega, h2⟩
      · exact ⟨d, by omega, h2⟩
    · rintro ⟨d', h1, h2⟩
      by_cases e : d' = d
      · subst e; exact .inr ⟨hj, h2⟩
      · exact .inl ⟨d', by omega, h2⟩
  · rw [hb']
    simp only [Bool.or_eq_true, Bool.and_eq_true, decide_eq_true_eq]
    rw [hb, hs]
    constructor
    · rintro (⟨d', h1, h2⟩ | ⟨h1, h2⟩)
      · exact ⟨d', by omega, h2⟩
      · exact ⟨d, by omega, h2, h1⟩
    · rintro ⟨d', h1, h2, h3⟩
      by_cases e : d' = d
      · subst e; exact .inr ⟨h3, h2⟩
      · exact .inl ⟨d', by omega, h2, h3⟩
  · intro d' h1 i hi hp
    by_cases e : d' = d
    · subst e; exact h.clean.1 i hi hi hp
    · exact hc d' (by omega) i hi hp

/-- who is reached -/
def Rchd (gs : List (List Nd)) (g : Int) (j : Nat) : Prop := ∃ d', d' < gs.length + 10 ∧ 0 < lv gs g d' j
theorem rchd_next {gs : List (List Nd)} {g i t : Nat} (hg : g < gs.length) (hi : i < gs.length) (h : Rchd gs (g : Int) i) (ht : (t : Int) ∈ callsL (gs.getD i [])) : Rchd gs (g : Int) t := by
  obtain ⟨d', _, hp⟩ := h
  obtain ⟨d2, h2, hp2⟩ := soon hg hi hp
  exact ⟨d2 + 1, by omega, lv_next hi hp2 ht⟩
/-- what a count may be -/
def Cn (gs : List (List Nd)) (g : Int) (d j : Nat) (y : Int) : Prop := ∃ x : Nat, y = (x : Int) ∧ x ≤ 2100000 ∧ (Rchd gs g j → sat x = sat (wk gs (j : Int) d))
structure Cnt (gs : List (List Nd)) (g : Int) (w wr : World) (C M : Nat) (d : Nat) : Prop where
  kp : Kp w wr
  lo : w.heap.size ≤ C ∧ w.heap.size ≤ M ∧ C ≠ M
  all : ∃ cs, BlkB wr C cs ∧ Says cs gs.length (fun j => Rchd gs g j)
  many : ∃ ms, Blk wr 3 M ms ∧ ms.length = gs.length ∧ ∀ j, j < gs.length → Cn gs g d j (ms.getD j 0)
structure CRow (gs : List (List Nd)) (g : Int) (w wr : World) (C M N : Nat) (d i X : Nat) : Prop where
  kp : Kp w wr
  lo : w.heap.size ≤ C ∧ w.heap.size ≤ M ∧ w.heap.size ≤ N ∧ C ≠ M ∧ C ≠ N ∧ M ≠ N
  all : ∃ cs, BlkB wr C cs ∧ Says cs gs.length (fun j => Rchd gs g j)
  many : ∃ ms, Blk wr 3 M ms ∧ ms.length = gs.length ∧ ∀ j, j < gs.length → Cn gs g d j (ms.getD j 0)
  next : ∃ ys, Blk wr 3 N ys ∧ ys.length = gs.length ∧ (∀ j, j < i → j < gs.length → Cn gs g (d + 1) j (ys.getD j 0)) ∧ (∀ j, i < j → j < gs.length → ys.getD j 0 = 0) ∧ (i < gs.length → ys.getD i 0 = (X : Int))
theorem CRow.grow {gs : List (List Nd)} {g : Int} {w wr wr' : World} {C M N d i X : Nat} (h : CRow gs g w wr C M N d i X) (k : Kp wr wr') : CRow gs g w wr' C M N d i X := by
  obtain ⟨cs, c1, c2⟩ := h.all
  obtain ⟨ms, m1, m2⟩ := h.many
  obtain ⟨ys, y1, y2⟩ := h.next
  exact ⟨h.kp.trans k, h.lo, ⟨cs, c1.keep k, c2⟩, ⟨ms, m1.keep k, m2⟩, ⟨ys, y1.keep k, y2⟩⟩
theorem CRow.set {gs : List (List Nd)} {g : Int} {w wr : World} {C M N d i X : Nat} (h : CRow gs g w wr C M N d i X) (hi : i < gs.length) (x : Nat) : CRow gs g w (wr.setCell ⟨N, i, none⟩ (.int .i64 (x : Int))) C M N d i x := by
  obtain ⟨cs, c1, c2⟩ := h.all
  obtain ⟨ms, m1, m2⟩ := h.many
  obtain ⟨ys, y1, y2, y3, y4, y5⟩ := h.next
  obtain ⟨l1, l2, l3, l4, l5, l6⟩ := h.lo
  refine ⟨h.kp.set l3 _, h.lo, ⟨cs, c1.other l5, c2⟩, ⟨ms, m1.other l6, m2⟩, ⟨_, y1.set i (x : Int), by rw [List.length_set]; exact y2, fun j h1 h2 => ?_, fun j h1 h2 => ?_, fun _ => ?_⟩⟩
  · have e : (ys.set i (x : Int)).getD j 0 = ys.getD j 0 := by simp [List.getD, show i ≠ j by omega]
    rw [e]
    exact y3 j h1 h2
  · have e : (ys.set i (x : Int)).getD j 0 = ys.getD j 0 := by simp [List.getD, show i ≠ j by omega]
    rw [e]
    exact y4 j h1 h2
  · simp [List.getD, y2, hi]
theorem CRow.done {gs : List (List Nd)} {g : Int} {w wr : World} {C M N d i X : Nat} (h : CRow gs g w wr C M N d i X) (hi : i < gs.length) (hX : X ≤ 2100000) (hs : Rchd gs g i → sat X = sat (wk gs (i : Int) (d + 1))) : CRow gs g w wr C M N d (i + 1) 0 := by
  obtain ⟨ys, y1, y2, y3, y4, y5⟩ := h.next
  refine ⟨h.kp, h.lo, h.all, h.many, ⟨ys, y1, y2, fun j h1 h2 => ?_, fun j h1 h2 => y4 j (by omega) h2, fun h1 => y4 (i + 1) (by omega) h1⟩⟩
  by_cases e : j = i
  · subst e
    exact ⟨X, y5 hi, hX, hs⟩
  · exact y3 j (by omega) h2
theorem Cnt.row {gs : List (List Nd)} {g : Int} {w wr : World} {C M d : Nat} (h : Cnt gs g w wr C M d) : CRow gs g w (wr.alloc (.cells (madeCells #[.int .i64 0] gs.length) 3)) C M wr.heap.size d 0 0 := by
  obtain ⟨cs, c1, c2⟩ := h.all
  obtain ⟨ms, m1, m2⟩ := h.many
  obtain ⟨l1, l2, l3⟩ := h.lo
  have k := Kp.alloc wr (.cells (madeCells #[.int .i64 0] gs.length) 3)
  have z : ∀ j, j < gs.length → (List.replicate gs.length (0 : Int)).getD j 0 = 0 := fun j hj => by simp [List.getD, hj]
  refine ⟨h.kp.trans k, ⟨l1, l2, h.kp.size, l3, ?_, ?_⟩, ⟨cs, c1.keep k, c2⟩, ⟨ms, m1.keep k, m2⟩, ⟨_, Blk.made wr 3 gs.length, by simp, fun j h1 => absurd h1 (Nat.not_lt_zero _), fun j _ h2 => z j h2, fun h1 => z 0 h1⟩⟩
  · have := c1.lt; omega
  · have := m1.lt; omega
theorem CRow.cnt {gs : List (List Nd)} {g : Int} {w wr : World} {C M N d X : Nat} (h : CRow gs g w wr C M N d gs.length X) : Cnt gs g w wr C N (d + 1) := by
  obtain ⟨ys, y1, y2, y3, _, _⟩ := h.next
  obtain ⟨l1, l2, l3, l4, l5, l6⟩ := h.lo
  exact ⟨h.kp, ⟨l1, l3, l5⟩, h.all, ⟨ys, y1, y2, fun j hj => y3 j hj hj⟩⟩
theorem Dps.cnt {gs : List (List Nd)} {g : Int} {w wr : World} {A C : Nat} {b : Bool} (h : Dps gs g w wr A C (gs.length + 10) b) : Cnt gs g w (wr.alloc (.cells (madeCells #[.int .i64 0] gs.length) 3)) C wr.heap.size 0 := by
  obtain ⟨cs, c1, c2⟩ := h.all
  obtain ⟨l1, l2, l3⟩ := h.lo
  have k := Kp.alloc wr (.cells (madeCells #[.int .i64 0] gs.length) 3)
  refine ⟨h.kp.trans k, ⟨l2, h.kp.size, ?_⟩, ⟨cs, c1.keep k, c2⟩, ⟨_, Blk.made wr 3 gs.length, by simp, fun j hj => ⟨0, by simp [List.getD, hj], by omega, fun _ => rfl⟩⟩⟩
  have := c1.lt
  omega

end Go.Proofs.Ytliddjpcbhdplaa
