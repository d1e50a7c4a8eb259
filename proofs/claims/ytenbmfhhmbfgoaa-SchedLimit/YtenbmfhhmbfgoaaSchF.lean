
/- A scheduler in memory: what turns when one of its rows, or one of its numbers, is written. -/
import Derived.Test.YtenbmfhhmbfgoaaSchE
namespace Go.Proofs.Ytenbmfhhmbfgoaa
open Go.RowKit

theorem TakeR.put {w w' : World} {s c : Nat} {v : Value} {xs : List Int} (h : TakeR w w' s c v xs) : PutR w w' s c v xs := by
  obtain ⟨g, cap, w1, h1, h2, h3, h4⟩ := h
  exact ⟨g, cap, w1, h1, h2, .inl h3, h4⟩

/-- the scheduler's values laid open -/
structure Sv (w : World) (s : Nat) (F : Nat → Prop) (ps : List Int) (A : SS) (pv tv av wv : Value) : Prop where
  sb : SB w s pv tv av wv A.k A.st A.now
  pu : OwnU w pv ps
  tt : OwnT w tv A.ts
  ao : Own w 3 0 av A.ab
  wo : Own w 3 0 wv A.wt
  ne : ∀ k, av.ownBlock = some k → wv.ownBlock ≠ some k
  fs : F s
  fp : ∀ k, pv.ownBlock = some k → F k
  ft : ∀ k, tv.ownBlock = some k → F k
  fa : ∀ k, av.ownBlock = some k → F k
  fw : ∀ k, wv.ownBlock = some k → F k
  fb : ∀ k, F k → k < w.heap.size
theorem Sc.opn {w : World} {s : Nat} {F : Nat → Prop} {ps : List Int} {A : SS} (h : Sc w s F ps A) : ∃ pv tv av wv, Sv w s F ps A pv tv av wv := by
  obtain ⟨pv, tv, av, wv, h1, h2, h3, h4, h5, h6, h7, h8, h9, h10, h11, h12⟩ := h.val
  exact ⟨pv, tv, av, wv, h1, h2, h3, h4, h5, h6, h7, h8, h9, h10, h11, h12⟩
theorem Sv.sc {w : World} {s : Nat} {F : Nat → Prop} {ps : List Int} {A : SS} {pv tv av wv : Value} (h : Sv w s F ps A pv tv av wv) (ok : SOk ps A) : Sc w s F ps A :=
  ⟨⟨pv, tv, av, wv, h.sb, h.pu, h.tt, h.ao, h.wo, h.ne, h.fs, h.fp, h.ft, h.fa, h.fw, h.fb⟩, ok⟩

theorem SB.keep {w w' : World} {s : Nat} {pv tv av wv : Value} {k : Nat} {st : Bool} {now : Int} (h : SB w s pv tv av wv k st now) {g : Option Nat} (k0 : w.grownBy w' g) (hne : g ≠ some s) : SB w' s pv tv av wv k st now := by
  unfold SB
  rw [k0.block s h.lt (fun e => hne e.symm)]
  exact h
theorem grown_cell (w : World) (s c : Nat) (u : Value) : w.grownBy (w.setCell ⟨s, c, none⟩ u) (some s) := ⟨rfl, rfl, rfl, Nat.le_of_eq (by simp), fun k _ hk => Below.heap_setCell _ _ _ k (fun e => hk (by rw [e]))⟩
theorem own_cell {w : World} {b : Nat} {e : TypeId} {z n : Nat} {v : Value} {xs : List Value} (h : w.ownsRow b e z v n xs) {s c : Nat} (u : Value) (hne : v.ownBlock ≠ some s) : (w.setCell ⟨s, c, none⟩ u).ownsRow b e z v n xs :=
  World.ownsRow.kept h (grown_cell w s c u) (.inr hne)
theorem own_wide {w w' : World} {b : Nat} {e : TypeId} {z n : Nat} {v : Value} {xs : List Value} (h : w.ownsRow b e z v n xs) {g : Option Nat} (k : w.grownBy w' g) (hne : ∀ q, g = some q → v.ownBlock ≠ some q) : w'.ownsRow b e z v n xs := by
  cases hv : v.ownBlock with
  | none => 
    obtain ⟨h0, ⟨rfl, h1⟩ | ⟨g', cap, cur, rfl, _⟩⟩ := h
    · exact ⟨h0, .inl ⟨rfl, h1⟩⟩
    · cases hv
  | some q => exact World.ownsRow.kept h k (.inr (fun e => hne q (e.symm.trans hv) hv))

/-- the set of blocks grows by one -/
def Fo (F : Nat → Prop) (g : Nat) : Nat → Prop := fun k => F k ∨ k = g
theorem fo_lt {F : Nat → Prop} {w w1 : World} {s c g : Nat} {o : Option Nat} {u : Value} (h : ∀ k, F k → k < w.heap.size) (k : w.grownBy w1 o) (hg : g < w1.heap.size) : ∀ q, Fo F g q → q < (w1.setCell ⟨s, c, none⟩ u).heap.size := by
  have e : (w1.setCell ⟨s, c, none⟩ u).heap.size = w1.heap.size := by simp
  rw [e]
  rintro q (hq | rfl)
  · exact Nat.lt_of_lt_of_le (h q hq) k.size
  · exact hg
theorem wd_two {F : Nat → Prop} {w w1 : World} {s c g : Nat} {o : Option Nat} {u : Value} (k : w.grownBy w1 o) (ho : ∀ q, o = some q → F q) (hs : F s) (hg : o = some g ∨ w.heap.size ≤ g) : Wd F (Fo F g) w (w1.setCell ⟨s, c, none⟩ u) := by
  refine ⟨k.os, k.tape, k.output, by simpa using k.size, fun i hi n => ?_, fun i hi => ?_⟩
  · have h1 := k.block i hi (fun e => n (ho i e.symm))
    have h2 : (w1.setCell ⟨s, c, none⟩ u).heap[i]? = w1.heap[i]? := Below.heap_setCell w1 ⟨s, c, none⟩ u i (fun e => n (by rw [e]; exact hs))
    exact h2.trans h1
  · rcases hi with h | rfl
    · exact .inl h
    · rcases hg with e | e
      · exact .inl (ho _ e)
      · exact .inr e

theorem Sv.put_ab {w w' : World} {s : Nat} {F : Nat → Prop} {ps : List Int} {A : SS} {pv tv av wv : Value} (h : Sv w s F ps A pv tv av wv) {xs : List Int} (hp : PutR w w' s 2 av xs) : ∃ F' av', Sv w' s F' ps { A with ab := xs } pv tv av' wv ∧ Wd F F' w w' := by
  obtain ⟨g, cap, w1, ho, k, hg, rfl⟩ := hp
  have gT : ∀ q, av.ownBlock = some q → tv.ownBlock ≠ some q := fun q e => own_apart h.ao h.tt (by decide) e
  have gP : ∀ q, av.ownBlock = some q → pv.ownBlock ≠ some q := fun q e => own_apart h.ao h.pu (by decide) e
  have hs := own_ne_s h.sb h.ao (by decide)
  have s1 := h.sb.keep k (fun e => hs e)
  have hw1 : Own w1 3 0 wv A.wt := own_wide h.wo k h.ne
  refine ⟨Fo F g, .slice (some ⟨g, 0, none⟩) xs.length cap, ⟨?_, ?_, ?_, ?_, ?_, ?_, .inl h.fs, fun q e => .inl (h.fp q e), fun q e => .inl (h.ft q e), fun q e => .inr (by cases e; rfl), fun q e => .inl (h.fw q e), fo_lt h.fb k (World.ownsRow.lt ho g rfl).2⟩, wd_two k h.fa h.fs hg⟩
  · unfold SB at s1 ⊢
    simp [World.setCell, Array.getElem?_modify, s1]
  · exact own_cell (own_wide h.pu k gP) _ (own_ne_s h.sb h.pu (by decide))
  · exact own_cell (own_wide h.tt k gT) _ (own_ne_s h.sb h.tt (by decide))
  · exact own_cell ho _ (own_ne_s s1 ho (by decide))
  · exact own_cell hw1 _ (own_ne_s h.sb h.wo (by decide))
  · intro q e
    cases e
    rcases hg with e | e
    · exact h.ne _ e
    · intro e2
      have h3 : g < w.heap.size := (World.ownsRow.lt h.wo _ e2).2
      omega
theorem Sv.put_wt {w w' : World} {s : Nat} {F : Nat → Prop} {ps : List Int} {A : SS} {pv tv av wv : Value} (h : Sv w s F ps A pv tv av wv) {xs : List Int} (hp : PutR w w' s 3 wv xs) : ∃ F' wv', Sv w' s F' ps { A with wt := xs } pv tv av wv' ∧ Wd F F' w w' := by
  obtain ⟨g, cap, w1, ho, k, hg, rfl⟩ := hp
  have gT : ∀ q, wv.ownBlock = some q → tv.ownBlock ≠ some q := fun q e => own_apart h.wo h.tt (by decide) e
  have gP : ∀ q, wv.ownBlock = some q → pv.ownBlock ≠ some q := fun q e => own_apart h.wo h.pu (by decide) e
  have hs := own_ne_s h.sb h.wo (by decide)
  have s1 := h.sb.keep k (fun e => hs e)
  have hw1 : Own w1 3 0 av A.ab := own_wide h.ao k (fun q e e2 => h.ne q e2 e)
  refine ⟨Fo F g, .slice (some ⟨g, 0, none⟩) xs.length cap, ⟨?_, ?_, ?_, ?_, ?_, ?_, .inl h.fs, fun q e => .inl (h.fp q e), fun q e => .inl (h.ft q e), fun q e => .inl (h.fa q e), fun q e => .inr (by cases e; rfl), fo_lt h.fb k (World.ownsRow.lt ho g rfl).2⟩, wd_two k h.fw h.fs hg⟩
  · unfold SB at s1 ⊢
    simp [World.setCell, Array.getElem?_modify, s1]
  · exact own_cell (own_wide h.pu k gP) _ (own_ne_s h.sb h.pu (by decide))
  · exact own_cell (own_wide h.tt k gT) _ (own_ne_s h.sb h.tt (by decide))
  · exact own_cell hw1 _ (own_ne_s h.sb h.ao (by decide))
  · exact own_cell ho _ (own_ne_s s1 ho (by decide))
  · intro q e e2
    cases e2
    rcases hg with e3 | e3
    · exact h.ne _ e e3
    · have h3 : g < w.heap.size := (World.ownsRow.lt h.ao _ e).2
      omega
/-- the tasks' row may lie elsewhere -/
theorem Sv.put_ts {w w1 : World} {s : Nat} {F : Nat → Prop} {ps : List Int} {A : SS} {pv tv av wv : Value} (h : Sv w s F ps A pv tv av wv) {g n cap : Nat} {ms : List (Value × Bool)} (ho : OwnT w1 (.slice (some ⟨g, 0, none⟩) n cap) ms) (k : w.grownBy w1 tv.ownBlock) (hg : tv.ownBlock = some g ∨ w.heap.size ≤ g) :
    ∃ F', Sv (w1.setCell ⟨s, 1, none⟩ (.slice (some ⟨g, 0, none⟩) n cap)) s F' ps { A with ts := ms } pv (.slice (some ⟨g, 0, none⟩) n cap) av wv ∧ Wd F F' w (w1.setCell ⟨s, 1, none⟩ (.slice (some ⟨g, 0, none⟩) n cap)) := by
  have gA : ∀ q, tv.ownBlock = some q → av.ownBlock ≠ some q := fun q e => own_apart h.tt h.ao (by decide) e
  have gW : ∀ q, tv.ownBlock = some q → wv.ownBlock ≠ some q := fun q e => own_apart h.tt h.wo (by decide) e
  have gP : ∀ q, tv.ownBlock = some q → pv.ownBlock ≠ some q := fun q e => own_apart h.tt h.pu (by decide) e
  have hs := own_ne_s h.sb h.tt (by decide)
  have s1 := h.sb.keep k (fun e => hs e)
  refine ⟨Fo F g, ⟨?_, ?_, ?_, ?_, ?_, h.ne, .inl h.fs, fun q e => .inl (h.fp q e), fun q e => .inr (by cases e; rfl), fun q e => .inl (h.fa q e), fun q e => .inl (h.fw q e), fo_lt h.fb k (World.ownsRow.lt ho g rfl).2⟩, wd_two k h.ft h.fs hg⟩
  · unfold SB at s1 ⊢
    simp [World.setCell, Array.getElem?_modify, s1]
  · exact own_cell (own_wide h.pu k gP) _ (own_ne_s h.sb h.pu (by decide))
  · exact own_cell ho _ (own_ne_s s1 ho (by decide))
  · exact own_cell (own_wide h.ao k gA) _ (own_ne_s h.sb h.ao (by decide))
  · exact own_cell (own_wide h.wo k gW) _ (own_ne_s h.sb h.wo (by decide))
/-- a number of the scheduler's is written -/
theorem Sv.num {w : World} {s : Nat} {F : Nat → Prop} {ps : List Int} {A A' : SS} {pv tv av wv : Value} (h : Sv w s F ps A pv tv av wv) {c : Nat} {u : Value} (hb : SB (w.setCell ⟨s, c, none⟩ u) s pv tv av wv A'.k A'.st A'.now) (e1 : A'.ts = A.ts) (e2 : A'.ab = A.ab) (e3 : A'.wt = A.wt) : Sv (w.setCell ⟨s, c, none⟩ u) s F ps A' pv tv av wv ∧ Wd F F w (w.setCell ⟨s, c, none⟩ u) := by
  have k := grown_cell w s c u
  refine ⟨⟨hb, own_cell h.pu _ (own_ne_s h.sb h.pu (by decide)), ?_, ?_, ?_, h.ne, h.fs, h.fp, h.ft, h.fa, h.fw, fun q e => Nat.lt_of_lt_of_le (h.fb q e) k.size⟩, k.os, k.tape, k.output, k.size, fun i hi n => k.block i hi (fun e => n (by cases e; exact h.fs)), fun _ h => .inl h⟩
  · rw [e1]; exact own_cell h.tt _ (own_ne_s h.sb h.tt (by decide))
  · rw [e2]; exact own_cell h.ao _ (own_ne_s h.sb h.ao (by decide))
  · rw [e3]; exact own_cell h.wo _ (own_ne_s h.sb h.wo (by decide))
theorem SB.setk {w : World} {s : Nat} {pv tv av wv : Value} {k : Nat} {st : Bool} {now : Int} (h : SB w s pv tv av wv k st now) (k' : Nat) : SB (w.setCell ⟨s, 4, none⟩ (.int .i64 (k' : Int))) s pv tv av wv k' st now := by
  unfold SB at h ⊢
  simp [World.setCell, Array.getElem?_modify, h]
theorem SB.setst {w : World} {s : Nat} {pv tv av wv : Value} {k : Nat} {st : Bool} {now : Int} (h : SB w s pv tv av wv k st now) (b : Bool) : SB (w.setCell ⟨s, 5, none⟩ (.bool b)) s pv tv av wv k b now := by
  unfold SB at h ⊢
  simp [World.setCell, Array.getElem?_modify, h]
theorem SB.setnow {w : World} {s : Nat} {pv tv av wv : Value} {k : Nat} {st : Bool} {now : Int} (h : SB w s pv tv av wv k st now) (i : Int) : SB (w.setCell ⟨s, 6, none⟩ (.int .i64 i)) s pv tv av wv k st i := by
  unfold SB at h ⊢
  simp [World.setCell, Array.getElem?_modify, h]
/-- within the tasks' row something is written -/
theorem Sv.task {w w1 : World} {s : Nat} {F : Nat → Prop} {ps : List Int} {A : SS} {pv av wv : Value} {g n cap : Nat} (h : Sv w s F ps A pv (.slice (some ⟨g, 0, none⟩) n cap) av wv) {ms : List (Value × Bool)} (ho : OwnT w1 (.slice (some ⟨g, 0, none⟩) n cap) ms) (k : w.grownBy w1 (some g)) : Sv w1 s F ps { A with ts := ms } pv (.slice (some ⟨g, 0, none⟩) n cap) av wv ∧ Wd F F w w1 := by
  have hs := own_ne_s h.sb h.tt (by decide)
  have gA : ∀ q, some g = some q → av.ownBlock ≠ some q := fun q e => own_apart h.tt h.ao (by decide) e
  have gW : ∀ q, some g = some q → wv.ownBlock ≠ some q := fun q e => own_apart h.tt h.wo (by decide) e
  have gP : ∀ q, some g = some q → pv.ownBlock ≠ some q := fun q e => own_apart h.tt h.pu (by decide) e
  exact ⟨⟨h.sb.keep k (fun e => hs e), own_wide h.pu k gP, ho, own_wide h.ao k gA, own_wide h.wo k gW, h.ne, h.fs, h.fp, h.ft, h.fa, h.fw, fun q e => Nat.lt_of_lt_of_le (h.fb q e) k.size⟩, k.os, k.tape, k.output, k.size, fun i hi nn => k.block i hi (fun e => nn (by cases e; exact h.ft g rfl)), fun _ h => .inl h⟩
/-- what nothing of the scheduler's is turned by -/
theorem Sv.wide {w w1 : World} {s : Nat} {F : Nat → Prop} {ps : List Int} {A : SS} {pv tv av wv : Value} (h : Sv w s F ps A pv tv av wv) {g : Option Nat} (k : w.grownBy w1 g) (hg : ∀ q, g = some q → ¬ F q) : Sv w1 s F ps A pv tv av wv :=
  ⟨h.sb.keep k (fun e => hg s e h.fs), own_wide h.pu k (fun q e e2 => hg q e (h.fp q e2)), own_wide h.tt k (fun q e e2 => hg q e (h.ft q e2)), own_wide h.ao k (fun q e e2 => hg q e (h.fa q e2)), own_wide h.wo k (fun q e e2 => hg q e (h.fw q e2)), h.ne, h.fs, h.fp, h.ft, h.fa, h.fw, fun q e => Nat.lt_of_lt_of_le (h.fb q e) k.size⟩
theorem Sc.wide {w w1 : World} {s : Nat} {F : Nat → Prop} {ps : List Int} {A : SS} (h : Sc w s F ps A) {g : Option Nat} (k : w.grownBy w1 g) (hg : ∀ q, g = some q → ¬ F q) : Sc w1 s F ps A := by
  obtain ⟨pv, tv, av, wv, v⟩ := h.opn
  exact (v.wide k hg).sc h.ok
theorem Sc.keep {w w1 : World} {s : Nat} {F : Nat → Prop} {ps : List Int} {A : SS} (h : Sc w s F ps A) (k : Kp w w1) : Sc w1 s F ps A :=
  h.wide (g := none) ⟨k.os, k.tape, k.output, k.size, fun i hi _ => k.block i hi⟩ (by intro q e; cases e)

theorem Sc.fb {w : World} {s : Nat} {F : Nat → Prop} {ps : List Int} {A : SS} (h : Sc w s F ps A) : ∀ k, F k → k < w.heap.size := by
  obtain ⟨pv, tv, av, wv, v⟩ := h.opn
  exact v.fb

end Go.Proofs.Ytenbmfhhmbfgoaa
