
/- Steps of regions that draw their order: appends to an empty literal. -/
import Derived.Test.YtlfjclnocbohbaaTenJ
import Derived.Deep.RegionHeldLaw
namespace Go.Proofs.Ytlfjclnocbohbaa
open Go.RowKit

/-- a row that was made of these numbers, or an empty one -/
def Rw (w : World) (e : TypeId) (v : Value) (ys : List Int) : Prop := Own w e 0 v ys ∨ (ys = [] ∧ ∃ E, v = .slice (some E) 0 0)
theorem Rw.keep {w w' : World} {e : TypeId} {v : Value} {ys : List Int} (h : Rw w e v ys) (k : Kp w w') : Rw w' e v ys := h.elim (fun o => .inl (o.keep k)) .inr
theorem Rw.setBx {w : World} {e : TypeId} {B : Nat} {v x y : Value} {ys : List Int} (h : Rw w e v ys) (hb : Bx w B x y) (he : e ≠ 31) (u u' : Value) : Rw ((w.setCell ⟨B, 0, none⟩ u).setCell ⟨B, 1, none⟩ u') e v ys :=
  h.elim (fun o => .inl (o.setBx hb he u u')) .inr
theorem Rw.ints {w : World} {e : TypeId} {v : Value} {ys : List Int} (h : Rw w e v ys) (hw : ∀ x ∈ ys, I64 x) (hr : ys.length * 8 ≤ 140737488351232) : Ints w v ys := by
  rcases h with o | ⟨rfl, E, rfl⟩
  · exact o.ints hw hr
  · exact ⟨by simp, by simp, (by intro n c h; cases h), some E, 0, rfl, by simp⟩
theorem OwnF.setBx {w : World} {e : TypeId} {base B : Nat} {v x y : Value} {xs : List Nat} (h : OwnF w e base v xs) (hb : Bx w B x y) (he : e ≠ 31) (u u' : Value) : OwnF ((w.setCell ⟨B, 0, none⟩ u).setCell ⟨B, 1, none⟩ u') e base v xs := by
  obtain ⟨h0, h | ⟨g, cap, cur, rfl, hg, hh, r⟩⟩ := h
  · exact ⟨h0, .inl h⟩
  · have hne : g ≠ B := by
      intro e1
      subst e1
      unfold Bx at hb
      rw [hh] at hb
      injection hb with e2
      injection e2 with _ e3
      exact he e3
    exact ⟨h0, .inr ⟨g, cap, cur, rfl, hg, ((Below.heap_setCell _ ⟨B, 1, none⟩ u' g hne).trans (Below.heap_setCell w ⟨B, 0, none⟩ u g hne)).trans hh, r⟩⟩

theorem kp_grown {w w' : World} (h : w.grownBy w' none) : Kp w w' := (Kp.refl w).of_grown h (fun k hk => by cases hk)

theorem app_lit_ints {P : Program} (w : World) (t ty e : TypeId) (hin : (P.info? e).map (fun i => (i.zero, i.size, i.bytes)) = some (some (.int .i64 0), 1, 8)) (ht : P.underlying t = some (.slice e))
    (E : Addr) (u : Value) (ys : List Int) (hu : Ints w u ys) (hr : ys.length ≤ 1000000) :
    ∃ b n c w', (Builtin.append_ #[t, t] ty #[.slice (some E) 0 0, u]).run P w = .ok (.slice b n c) w' ∧ Rw w' e (.slice b n c) ys ∧ Kp w w' := by
  obtain ⟨i0, hi, hz0, hz1, hz2⟩ := info_parts hin
  obtain ⟨ao, cap, hval, hcells⟩ := hu.val
  subst hval
  by_cases h0 : ys.length = 0
  · have : ys = [] := List.eq_nil_of_length_eq_zero h0
    subst this
    refine ⟨some E, 0, 0, w, ?_, .inr ⟨rfl, E, rfl⟩, Kp.refl _⟩
    cases ao with
    | none =>
      obtain ⟨_, rfl⟩ := hu.nonil _ _ rfl
      simp [Builtin.append_, run_underlying ht, sizeOf, typeInfo, hi, Builtin.lenOf, Builtin.firstCells, storeCells]
    | some ad => simp [Builtin.append_, run_underlying ht, sizeOf, typeInfo, hi, Builtin.lenOf, Builtin.firstCells, storeCells, loadCells, loadCellsFrom]
  · obtain ⟨b, off, rfl, hb, hc⟩ := hcells (by omega)
    obtain ⟨v', w', hrun, r1, r2⟩ := run_append_arg_grows (P := P) w t ty e i0 (.int .i64 0) 1 8 ht hi hz0 hz1 hz2 rfl (by decide) E 0 0 [] (by simp) (by intro j u hj; simp at hj) ⟨b, off, none⟩ ys.length cap (ys.map (Value.int .i64)) (by simp)
      (by
        intro j u hj
        have hjl : j < ys.length := by
          have := (List.getElem?_eq_some_iff.1 hj).1
          simpa using this
        have := hc j hjl
        rw [List.getElem?_map] at hj
        have e2 : ys[j]? = some (ys.getD j 0) := by simp [hjl]
        rw [e2] at hj
        cases hj
        by_cases h0 : j = 0
        · subst h0; simpa [Addr.add] using this
        · simpa [Addr.add, h0] using this) (by omega) (by unfold maxLen; omega) (by omega)
    have ow : Own w' e w.heap.size v' ys := by
      unfold Own
      simpa using r1
    obtain ⟨b', n', c', rfl⟩ := ow.sl
    exact ⟨b', n', c', w', hrun, .inl (ow.weak (Nat.zero_le _)), kp_grown r2⟩

theorem app_lit_flts {P : Program} (w : World) (t ty e : TypeId) (hin : (P.info? e).map (fun i => (i.zero, i.size, i.bytes)) = some (some (.float .f64 0), 1, 8)) (ht : P.underlying t = some (.slice e))
    (E : Addr) (u : Value) (ys : List Nat) (hu : Flts w u ys) (hr : ys.length ≤ 1000000) (h0 : 0 < ys.length) :
    ∃ b n c w', (Builtin.append_ #[t, t] ty #[.slice (some E) 0 0, u]).run P w = .ok (.slice b n c) w' ∧ OwnF w' e 0 (.slice b n c) ys ∧ Kp w w' := by
  obtain ⟨i0, hi, hz0, hz1, hz2⟩ := info_parts hin
  obtain ⟨ao, cap, hval, hcells⟩ := hu.val
  subst hval
  obtain ⟨b, off, rfl, hb, hc⟩ := hcells h0
  obtain ⟨v', w', hrun, r1, r2⟩ := run_append_arg_grows (P := P) w t ty e i0 (.float .f64 0) 1 8 ht hi hz0 hz1 hz2 rfl (by decide) E 0 0 [] (by simp) (by intro j u hj; simp at hj) ⟨b, off, none⟩ ys.length cap (ys.map (Value.float .f64)) (by simp)
    (by
      intro j u hj
      have hjl : j < ys.length := by
        have := (List.getElem?_eq_some_iff.1 hj).1
        simpa using this
      have := hc j hjl
      rw [List.getElem?_map] at hj
      have e2 : ys[j]? = some (ys.getD j 0) := by simp [hjl]
      rw [e2] at hj
      cases hj
      by_cases h0 : j = 0
      · subst h0; simpa [Addr.add] using this
      · simpa [Addr.add, h0] using this) (by omega) (by unfold maxLen; omega) (by omega)
  have ow : OwnF w' e w.heap.size v' ys := by
    unfold OwnF
    simpa using r1
  obtain ⟨b', n', c', rfl⟩ := ow.sl
  exact ⟨b', n', c', w', hrun, ow.weak (Nat.zero_le _), kp_grown r2⟩

/-- what a step leaves of memory, as the walk reads it -/
structure Left (w0 w w' : World) : Prop where
  kp : Kp w w'
  kp0 : Kp w0 w'

theorem step_lit_ints {P : Program} {ops : Array Oper} {o : Oper} {a : Act} {w : World} {K : Act → World → Prop} {Q : Exit → Act → World → Prop} {X : Prop}
    (hg : o.guard = none) (s x : Operand) (t : TypeId) (hop : o.op = Op.call { callee := Callee.builtin Builtin.append, args := #[s, x], argTypes := #[t, t] })
    (e : TypeId) (hin : (P.info? e).map (fun i => (i.zero, i.size, i.bytes)) = some (some (.int .i64 0), 1, 8)) (ht : P.underlying t = some (.slice e))
    (E : Addr) (u : Value) (ys : List Int) (hs : a.eval s = .slice (some E) 0 0) (hx : a.eval x = u) (w0 : World) (kp : Kp w0 w) (hu : Ints w0 u ys) (hr : ys.length ≤ 1000000)
    (h : ∀ b n c w', Hid (Rw w' e (.slice b n c) ys) → Hid (Left w0 w w') → (∀ q : Nat, q < w.heap.size → q < w'.heap.size) → (∀ q : Nat, q < w.heap.size → ¬ q = w'.heap.size) → (∀ p : Addr, p.block < w.heap.size → w'.cell? p = w.cell? p) → (∀ p : Addr, p.block < w.heap.size → w'.frozen? p = w.frozen? p) →
      (∀ p : Addr, p.block < w0.heap.size → w'.cell? p = w0.cell? p) → (∀ q i : Nat, q < w.heap.size → q < w'.heap.size + i) → (∀ q i : Nat, q < w.heap.size → ¬ q = w'.heap.size + i) → K (a.put o.dst (.slice b n c)) w') :
    if Region.wanted o (yielded ops a.tmps) = true then Oper.wp P o a w K Q else X := by
  have hw : Region.wanted o (yielded ops a.tmps) = true := by simp [Region.wanted, hg]
  rw [if_pos hw]
  obtain ⟨b, n, c, w', hrun, h1, k2⟩ := app_lit_ints (P := P) w t o.type e hin ht E u ys (hu.keep kp) hr
  unfold Oper.wp
  simp [execOp, hop, resolve, invoke, builtin, hs, hx, hrun, Result.andThen]
  exact h b n c w' h1 ⟨k2, kp.trans k2⟩ (fun q hq => Nat.lt_of_lt_of_le hq k2.size) (fun q hq => by have := k2.size; omega) (fun p hp => Below.cell k2 hp) (fun p hp => by unfold World.frozen?; rw [k2.block p.block hp]) (fun p hp => Below.cell (kp.trans k2) hp) (fun q i hq => by have := k2.size; omega) (fun q i hq => by have := k2.size; omega)

theorem step_lit_flts {P : Program} {ops : Array Oper} {o : Oper} {a : Act} {w : World} {K : Act → World → Prop} {Q : Exit → Act → World → Prop} {X : Prop}
    (hg : o.guard = none) (s x : Operand) (t : TypeId) (hop : o.op = Op.call { callee := Callee.builtin Builtin.append, args := #[s, x], argTypes := #[t, t] })
    (e : TypeId) (hin : (P.info? e).map (fun i => (i.zero, i.size, i.bytes)) = some (some (.float .f64 0), 1, 8)) (ht : P.underlying t = some (.slice e))
    (E : Addr) (u : Value) (ys : List Nat) (hs : a.eval s = .slice (some E) 0 0) (hx : a.eval x = u) (w0 : World) (kp : Kp w0 w) (hu : Flts w0 u ys) (hr : ys.length ≤ 1000000) (h0 : 0 < ys.length)
    (h : ∀ b n c w', Hid (OwnF w' e 0 (.slice b n c) ys) → Hid (Left w0 w w') → (∀ q : Nat, q < w.heap.size → q < w'.heap.size) → (∀ q : Nat, q < w.heap.size → ¬ q = w'.heap.size) → (∀ p : Addr, p.block < w.heap.size → w'.cell? p = w.cell? p) → (∀ p : Addr, p.block < w.heap.size → w'.frozen? p = w.frozen? p) →
      (∀ p : Addr, p.block < w0.heap.size → w'.cell? p = w0.cell? p) → (∀ q i : Nat, q < w.heap.size → q < w'.heap.size + i) → (∀ q i : Nat, q < w.heap.size → ¬ q = w'.heap.size + i) → K (a.put o.dst (.slice b n c)) w') :
    if Region.wanted o (yielded ops a.tmps) = true then Oper.wp P o a w K Q else X := by
  have hw : Region.wanted o (yielded ops a.tmps) = true := by simp [Region.wanted, hg]
  rw [if_pos hw]
  obtain ⟨b, n, c, w', hrun, h1, k2⟩ := app_lit_flts (P := P) w t o.type e hin ht E u ys (hu.keep kp) hr h0
  unfold Oper.wp
  simp [execOp, hop, resolve, invoke, builtin, hs, hx, hrun, Result.andThen]
  exact h b n c w' h1 ⟨k2, kp.trans k2⟩ (fun q hq => Nat.lt_of_lt_of_le hq k2.size) (fun q hq => by have := k2.size; omega) (fun p hp => Below.cell k2 hp) (fun p hp => by unfold World.frozen?; rw [k2.block p.block hp]) (fun p hp => Below.cell (kp.trans k2) hp) (fun q i hq => by have := k2.size; omega) (fun q i hq => by have := k2.size; omega)

end Go.Proofs.Ytlfjclnocbohbaa
