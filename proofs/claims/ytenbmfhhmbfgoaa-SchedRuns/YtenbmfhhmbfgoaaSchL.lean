
/- The law's own task: what its step reads and writes, in a scheduler's memory and beside it. -/
import Derived.Test.YtenbmfhhmbfgoaaSchK
import Derived.RangeFuncBox
import Derived.Deep.RegionHeldLaw
namespace Go.Proofs.Ytenbmfhhmbfgoaa
open Go.RowKit

/-- wakes one behind the other -/
def wakesS (A : SS) (l : List Int) : SS := l.foldl (fun A u => (wakeS A u).2) A
theorem wakesS_snoc (A : SS) (l : List Int) (u : Int) : wakesS A (l ++ [u]) = (wakeS (wakesS A l) u).2 := by unfold wakesS; rw [List.foldl_append]; rfl
/-- a row of bytes that is read -/
def BysN (w : World) (v : Value) (ps : List Int) : Prop := (∀ x ∈ ps, 0 ≤ x ∧ x < 256) ∧ ps.length ≤ 4611686018427387904 ∧ ∃ a cap, v = .slice a ps.length cap ∧ (0 < ps.length → ∃ b off, a = some ⟨b, off, none⟩ ∧ b < w.heap.size ∧ ∀ i, i < ps.length → w.cell? ⟨b, off + i, none⟩ = some (.int .u8 (ps.getD i 0)))
/-- a deed: the slice of whom it wakes, what it reads as, the answer -/
def d0 : Value × List Int × Int := (.slice none 0 0, [], 3)
/-- a slice of deeds that is read -/
def DeedsAt (w : World) (v : Value) (l : List (Value × List Int × Int)) : Prop := l.length ≤ 4611686018427387904 ∧ ∃ a cap, v = .slice a l.length cap ∧ (0 < l.length → ∃ b off, a = some ⟨b, off, none⟩ ∧ b < w.heap.size ∧ ∀ j, j < l.length → w.cell? ⟨b, off + j * 2, none⟩ = some (l.getD j d0).1 ∧ w.cell? ⟨b, off + j * 2 + 1, none⟩ = some (.int .u8 (l.getD j d0).2.2) ∧ BysN w (l.getD j d0).1 (l.getD j d0).2.1 ∧ 0 ≤ (l.getD j d0).2.2 ∧ (l.getD j d0).2.2 < 256)
theorem BysN.keep {w w' : World} {v : Value} {ps : List Int} (h : BysN w v ps) (k : Kp w w') : BysN w' v ps := by
  obtain ⟨h1, h2, a, cap, rfl, h3⟩ := h
  refine ⟨h1, h2, a, cap, rfl, fun hp => ?_⟩
  obtain ⟨b, off, rfl, hb, hc⟩ := h3 hp
  exact ⟨b, off, rfl, by have := k.size; omega, fun i hi => (Below.cell k (p := ⟨b, off + i, none⟩) hb).trans (hc i hi)⟩
theorem DeedsAt.keep {w w' : World} {v : Value} {l : List (Value × List Int × Int)} (h : DeedsAt w v l) (k : Kp w w') : DeedsAt w' v l := by
  obtain ⟨h1, a, cap, rfl, h3⟩ := h
  refine ⟨h1, a, cap, rfl, fun hp => ?_⟩
  obtain ⟨b, off, rfl, hb, hc⟩ := h3 hp
  refine ⟨b, off, rfl, by have := k.size; omega, fun j hj => ?_⟩
  obtain ⟨c1, c2, c3, c4⟩ := hc j hj
  exact ⟨(Below.cell k (p := ⟨b, off + j * 2, none⟩) hb).trans c1, (Below.cell k (p := ⟨b, off + j * 2 + 1, none⟩) hb).trans c2, c3.keep k, c4⟩
theorem BysN.nil (w : World) : BysN w (.slice none 0 0) [] := ⟨by simp, by simp, none, 0, rfl, by simp⟩
theorem DeedsAt.bys {w : World} {v : Value} {l : List (Value × List Int × Int)} (h : DeedsAt w v l) (n : Nat) : BysN w (l.getD n d0).1 (l.getD n d0).2.1 ∧ 0 ≤ (l.getD n d0).2.2 ∧ (l.getD n d0).2.2 < 256 := by
  by_cases hn : n < l.length
  · obtain ⟨_, a, cap, rfl, h3⟩ := h
    obtain ⟨b, off, rfl, hb, hc⟩ := h3 (by omega)
    exact (hc n hn).2.2
  · have e : l.getD n d0 = d0 := by rw [List.getD_eq_getElem?_getD, List.getElem?_eq_none (by omega)]; rfl
    rw [e]
    exact ⟨BysN.nil w, by decide, by decide⟩

/-- the task's own box -/
def TB (w : World) (b s T : Nat) (Lv : Value) (n : Nat) : Prop := w.heap[b]? = some (.cells #[.pointer (some ⟨s, 0, none⟩), Lv, .int .i64 (n : Int), .pointer (some ⟨T, 0, none⟩)] 38 (0, 0))
theorem TB.lt {w : World} {b s T n : Nat} {Lv : Value} (h : TB w b s T Lv n) : b < w.heap.size := (Array.getElem?_eq_some_iff.1 h).1
theorem TB.cells {w : World} {b s T n : Nat} {Lv : Value} (h : TB w b s T Lv n) : w.cell? ⟨b, 0, none⟩ = some (.pointer (some ⟨s, 0, none⟩)) ∧ w.cell? ⟨b, 1, none⟩ = some Lv ∧ w.cell? ⟨b, 2, none⟩ = some (.int .i64 (n : Int)) ∧ w.cell? ⟨b, 3, none⟩ = some (.pointer (some ⟨T, 0, none⟩)) := by
  unfold TB at h
  simp [World.cell?, h]
theorem TB.frozen {w : World} {b s T n : Nat} {Lv : Value} (h : TB w b s T Lv n) (i : Nat) : w.frozen? ⟨b, i, none⟩ = false := by
  unfold TB at h
  simp [World.frozen?, h]
theorem TB.set {w : World} {b s T n : Nat} {Lv : Value} (h : TB w b s T Lv n) (m : Nat) : TB (w.setCell ⟨b, 2, none⟩ (.int .i64 (m : Int))) b s T Lv m := by
  unfold TB at h ⊢
  simp [World.setCell, Array.getElem?_modify, h]
theorem TB.of {w w' : World} {b s T n : Nat} {Lv : Value} (h : TB w b s T Lv n) (e : w'.heap[b]? = w.heap[b]?) : TB w' b s T Lv n := by unfold TB; rw [e]; exact h
theorem boxed_of {w w' : World} {B : Nat} {t : TypeId} {v : Value} (h : Boxed w B t v) (e : w'.heap[B]? = w.heap[B]?) : Boxed w' B t v := by unfold Boxed; rw [e]; exact h

/-- all blocks of a scheduler and of what one task writes -/
def Gt (F : Nat → Prop) (b T : Nat) (tv : Value) : Nat → Prop := fun k => F k ∨ k = b ∨ k = T ∨ tv.ownBlock = some k
/-- a task's step on its way -/
structure TS (w0 : World) (F0 : Nat → Prop) (tv0 : Value) (w : World) (s b T : Nat) (F : Nat → Prop) (ps : List Int) (A : SS) (Lv : Value) (n : Nat) (tv : Value) (told : List Int) : Prop where
  sc : Sc w s F ps A
  tb : TB w b s T Lv n
  bx : Boxed w T 31 tv
  ow : Own w 3 0 tv told
  nb : ¬ F b
  nT : ¬ F T
  nv : ∀ k, tv.ownBlock = some k → ¬ F k
  new : ∀ k, tv.ownBlock = some k → tv0.ownBlock = some k ∨ w0.heap.size ≤ k
  fF : ∀ k, F k → F0 k ∨ w0.heap.size ≤ k
  fr : Wd (Gt F0 b T tv0) (Gt F b T tv) w0 w
theorem TS.start {w : World} {s b T : Nat} {F : Nat → Prop} {ps : List Int} {A : SS} {Lv : Value} {n : Nat} {tv : Value} {told : List Int} (sc : Sc w s F ps A) (tb : TB w b s T Lv n) (bx : Boxed w T 31 tv) (ow : Own w 3 0 tv told) (nb : ¬ F b) (nT : ¬ F T) (nv : ∀ k, tv.ownBlock = some k → ¬ F k) : TS w F tv w s b T F ps A Lv n tv told :=
  ⟨sc, tb, bx, ow, nb, nT, nv, fun _ h => .inl h, fun _ h => .inl h, Wd.refl _ _⟩
theorem own_ne_T {w : World} {T : Nat} {t : TypeId} {u : Value} (h : Boxed w T t u) {b : Nat} {e : TypeId} {z n : Nat} {v : Value} {xs : List Value} (ho : w.ownsRow b e z v n xs) (hne : e ≠ t) : v.ownBlock ≠ some T := by
  intro hk
  obtain ⟨c1, q1⟩ := own_typed ho hk
  rw [show w.heap[T]? = _ from h] at q1
  simp at q1
  exact hne q1.2.symm
theorem own_ne_b {w : World} {b s T n : Nat} {Lv : Value} (h : TB w b s T Lv n) {b2 : Nat} {e : TypeId} {z m : Nat} {v : Value} {xs : List Value} (ho : w.ownsRow b2 e z v m xs) (hne : e ≠ 38) : v.ownBlock ≠ some b := by
  intro hk
  obtain ⟨c1, q1⟩ := own_typed ho hk
  rw [show w.heap[b]? = _ from h] at q1
  simp at q1
  exact hne q1.2.symm
theorem b_ne_T {w : World} {b s T n : Nat} {Lv u : Value} {t : TypeId} (h : TB w b s T Lv n) (hb : Boxed w T t u) : b ≠ T := by
  rintro rfl
  have := (show w.heap[b]? = _ from h).symm.trans hb
  simp at this
  
theorem TS.keep {w0 : World} {F0 : Nat → Prop} {tv0 : Value} {w w' : World} {s b T : Nat} {F : Nat → Prop} {ps : List Int} {A : SS} {Lv : Value} {n : Nat} {tv : Value} {told : List Int} (h : TS w0 F0 tv0 w s b T F ps A Lv n tv told) (k : Kp w w') : TS w0 F0 tv0 w' s b T F ps A Lv n tv told :=
  ⟨h.sc.keep k, h.tb.of (k.block b h.tb.lt), boxed_of h.bx (k.block T h.bx.lt), h.ow.keep k, h.nb, h.nT, h.nv, h.new, h.fF, h.fr.trans (Wd.of_kp k)⟩
/-- a block of the step's own is written -/
theorem TS.other {w0 : World} {F0 : Nat → Prop} {tv0 : Value} {w w' : World} {s b T : Nat} {F : Nat → Prop} {ps : List Int} {A : SS} {Lv : Value} {n : Nat} {tv : Value} {told : List Int} (h : TS w0 F0 tv0 w s b T F ps A Lv n tv told) {D : Nat} (k : w.grownBy w' (some D)) (hD : w0.heap.size ≤ D) (nF : ¬ F D) (nb : D ≠ b) (nT : D ≠ T) (nv : tv.ownBlock ≠ some D) : TS w0 F0 tv0 w' s b T F ps A Lv n tv told := by
  refine ⟨h.sc.wide k (by intro q e; cases e; exact nF), h.tb.of (k.block b h.tb.lt (by intro e; cases e; exact nb rfl)), boxed_of h.bx (k.block T h.bx.lt (by intro e; cases e; exact nT rfl)), own_wide h.ow k (by intro q e; cases e; exact nv), h.nb, h.nT, h.nv, h.new, h.fF, ?_⟩
  exact ⟨k.os.trans h.fr.os, k.tape.trans h.fr.tape, k.output.trans h.fr.output, Nat.le_trans h.fr.size k.size, fun i hi nn => (k.block i (Nat.lt_of_lt_of_le hi h.fr.size) (by intro e; cases e; omega)).trans (h.fr.block i hi nn), h.fr.new⟩
/-- one more is told -/
theorem TS.told {w0 : World} {F0 : Nat → Prop} {tv0 : Value} {w w' : World} {s b T : Nat} {F : Nat → Prop} {ps : List Int} {A : SS} {Lv : Value} {n : Nat} {tv : Value} {told : List Int} (h : TS w0 F0 tv0 w s b T F ps A Lv n tv told) {g m cap : Nat} {ts : List Int} (ho : Own w' 3 0 (.slice (some ⟨g, 0, none⟩) m cap) ts) (k : w.grownBy w' tv.ownBlock) (hg : tv.ownBlock = some g ∨ w.heap.size ≤ g):
    TS w0 F0 tv0 (w'.setCell ⟨T, 0, none⟩ (.slice (some ⟨g, 0, none⟩) m cap)) s b T F ps A Lv n (.slice (some ⟨g, 0, none⟩) m cap) ts := by
  have hT := own_ne_T h.bx h.ow (by decide)
  have hb := own_ne_b h.tb h.ow (by decide)
  have hbT := b_ne_T h.tb h.bx
  have k2 := grown_cell w' T 0 (.slice (some ⟨g, 0, none⟩) m cap)
  have s1 : Sc w' s F ps A := h.sc.wide k h.nv
  have t1 := h.tb.of (k.block b h.tb.lt (fun e => hb e.symm))
  have x1 := boxed_of h.bx (k.block T h.bx.lt (fun e => hT e.symm))
  refine ⟨s1.wide k2 (by intro q e; cases e; exact h.nT), t1.of (k2.block b t1.lt (by intro e; cases e; exact hbT rfl)), x1.set _, own_cell ho _ (own_ne_T x1 ho (by decide)), h.nb, h.nT, ?_, ?_, h.fF, ?_⟩
  · intro q e
    cases e
    rcases hg with e | e
    · exact h.nv _ e
    · intro hF
      have : g < w.heap.size := h.sc.fb _ hF
      omega
  · intro q e
    cases e
    rcases hg with e | e
    · exact h.new _ e
    · exact .inr (Nat.le_trans h.fr.size e)
  · refine h.fr.trans ⟨k2.os.trans k.os, k2.tape.trans k.tape, k2.output.trans k.output, Nat.le_trans k.size k2.size, fun i hi nn => ?_, ?_⟩
    · exact (k2.block i (Nat.lt_of_lt_of_le hi k.size) (by intro e; cases e; exact nn (.inr (.inr (.inl rfl))))).trans (k.block i hi (fun e => nn (.inr (.inr (.inr e.symm)))))
    · rintro q (e | e | e | e)
      · exact .inl (.inl e)
      · exact .inl (.inr (.inl e))
      · exact .inl (.inr (.inr (.inl e)))
      · cases e
        rcases hg with e | e
        · exact .inl (.inr (.inr (.inr e)))
        · exact .inr e
theorem TS.step {w0 : World} {F0 : Nat → Prop} {tv0 : Value} {w : World} {s b T : Nat} {F : Nat → Prop} {ps : List Int} {A : SS} {Lv : Value} {n : Nat} {tv : Value} {told : List Int} (h : TS w0 F0 tv0 w s b T F ps A Lv n tv told) (m : Nat) : TS w0 F0 tv0 (w.setCell ⟨b, 2, none⟩ (.int .i64 (m : Int))) s b T F ps A Lv m tv told := by
  have k := grown_cell w b 2 (.int .i64 (m : Int))
  have hbT := b_ne_T h.tb h.bx
  refine ⟨h.sc.wide k (by intro q e; cases e; exact h.nb), h.tb.set m, boxed_of h.bx (k.block T h.bx.lt (by intro e; cases e; exact hbT rfl)), own_wide h.ow k (by intro q e; cases e; exact own_ne_b h.tb h.ow (by decide)), h.nb, h.nT, h.nv, h.new, h.fF, ?_⟩
  exact h.fr.trans ⟨k.os, k.tape, k.output, k.size, fun i hi nn => k.block i hi (by intro e; cases e; exact nn (.inr (.inl rfl))), fun _ e => .inl e⟩
/-- the scheduler has turned -/
theorem TS.sched {w0 : World} {F0 : Nat → Prop} {tv0 : Value} {w w' : World} {s b T : Nat} {F F' : Nat → Prop} {ps : List Int} {A A' : SS} {Lv : Value} {n : Nat} {tv : Value} {told : List Int} (h : TS w0 F0 tv0 w s b T F ps A Lv n tv told) (hs : Sc w' s F' ps A') (d : Wd F F' w w') : TS w0 F0 tv0 w' s b T F' ps A' Lv n tv told := by
  have hlt : ∀ k, tv.ownBlock = some k → k < w.heap.size := fun k e => (World.ownsRow.lt h.ow k e).2
  refine ⟨hs, h.tb.of (d.block b h.tb.lt h.nb), boxed_of h.bx (d.block T h.bx.lt h.nT), ?_, ?_, ?_, ?_, h.new, ?_, ?_⟩
  · obtain ⟨h0, h1 | ⟨g, cap, cur, e, hg, hh, r⟩⟩ := h.ow
    · exact ⟨h0, .inl h1⟩
    · have hv : tv.ownBlock = some g := by rw [e]; rfl
      exact ⟨h0, .inr ⟨g, cap, cur, e, hg, (d.block g (hlt g hv) (h.nv g hv)).trans hh, r⟩⟩
  · intro e
    rcases d.new _ e with e | e
    · exact h.nb e
    · have := h.tb.lt; omega
  · intro e
    rcases d.new _ e with e | e
    · exact h.nT e
    · have := h.bx.lt; omega
  · intro k hk e
    rcases d.new _ e with e | e
    · exact h.nv k hk e
    · have := hlt k hk; omega
  · intro k hk
    rcases d.new _ hk with e | e
    · exact h.fF k e
    · exact .inr (Nat.le_trans h.fr.size e)
  · refine h.fr.trans ⟨d.os, d.tape, d.output, d.size, fun i hi nn => d.block i hi (fun e => nn (.inl e)), ?_⟩
    rintro q (e | e | e | e)
    · rcases d.new _ e with e | e
      · exact .inl (.inl e)
      · exact .inr e
    · exact .inl (.inr (.inl e))
    · exact .inl (.inr (.inr (.inl e)))
    · exact .inl (.inr (.inr (.inr e)))

/-- 'append' of one number to an own row, in a drawn region -/
theorem step_push1 {ops : Array Oper} {o : Oper} {a : Act} {w : World} {K : Act → World → Prop} {Q : Exit → Act → World → Prop} {E : Prop}
    (hg : o.guard = none) (s x : Operand) (hop : o.op = Op.call { callee := Callee.builtin Builtin.append, args := #[s, x], argTypes := #[31, 31] })
    (v : Value) (n : Nat) (xs : List Int) (y : Int) (B c : Nat) (hn : xs.length = n) (hs : a.eval s = v) (hx : a.eval x = .slice (some ⟨B, 0, none⟩) 1 c) (hv : Own w 3 0 v xs) (hr : n + 1 ≤ 1000000000) (h0 : w.cell? ⟨B, 0, none⟩ = some (.int .i64 y))
    (h : ∀ g cap w', Hid (Own w' 3 0 (.slice (some ⟨g, 0, none⟩) (n + 1) cap) (xs ++ [y]) ∧ w.grownBy w' v.ownBlock ∧ (v.ownBlock = some g ∨ w.heap.size ≤ g)) → K (a.put o.dst (.slice (some ⟨g, 0, none⟩) (n + 1) cap)) w') :
    if Region.wanted o (yielded ops a.tmps) = true then Oper.wp Try.prog o a w K Q else E := by
  subst hn
  have hw : Region.wanted o (yielded ops a.tmps) = true := by simp [Region.wanted, hg]
  rw [if_pos hw]
  obtain ⟨g, cap, w', hrun, r1, r2, r3⟩ := run_push1 w 31 Try.underlying31 v xs y B c hv hr h0
  unfold Oper.wp execOp
  simp only [hop, resolve, invoke, builtin, Sem.run_bind, Sem.run_pure, Result.andThen_ok, List.map_toArray, List.map_cons, List.map_nil, hs, hx, hrun o.type]
  exact h g cap w' ⟨r1, r2, r3⟩

end Go.Proofs.Ytenbmfhhmbfgoaa
