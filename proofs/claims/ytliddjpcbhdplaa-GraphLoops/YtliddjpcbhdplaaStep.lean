
/- Steps of regions that draw their order: an append to nothing, a new row of numbers; no program in it. -/
import Derived.Test.YtliddjpcbhdplaaTenF
import Derived.Deep.RegionLaw
namespace Go.Proofs.Ytliddjpcbhdplaa
open Go.RowKit

theorem run_append_ints {P : Program} (w : World) (base : Nat) (t ty e : TypeId) (hin : (P.info? e).map (fun i => (i.zero, i.size, i.bytes)) = some (some (.int .i64 0), 1, 8)) (ht : P.underlying t = some (.slice e))
    (v u : Value) (xs ys : List Int) (hv : Own w e base v xs) (hu : Ints w u ys) (hroom : (xs.length + ys.length) * 8 ≤ 140737488351232) (hbase : base ≤ w.heap.size) :
    ∃ v' w', (Builtin.append_ #[t, t] ty #[v, u]).run P w = .ok v' w' ∧ Own w' e base v' (xs ++ ys) ∧ w.grownBy w' v.ownBlock := by
  obtain ⟨i0, hi, hz0, hz1, hz2⟩ := info_parts hin
  obtain ⟨ao, cap, hval, hcells⟩ := hu.val
  subst hval
  match ao, hcells, hu with
  | none, _, hu =>
    obtain ⟨h1, h2⟩ := hu.nonil _ _ rfl
    have : ys = [] := List.eq_nil_of_length_eq_zero h1
    subst this
    subst h2
    have hrun := run_append_owned_none (P := P) w base t ty e i0 1 ht hi v xs.length (xs.map (Value.int .i64)) hv
    exact ⟨v, w, hrun, by rw [List.append_nil]; exact hv, World.grownBy.refl _ _⟩
  | some ad, hcells, hu =>
    have hc : ∀ j u, (ys.map (Value.int .i64))[j]? = some u → w.cell? (ad.add j) = some u := by
      intro j u hj
      have hjl : j < ys.length := by
        have := (List.getElem?_eq_some_iff.1 hj).1
        simpa using this
      obtain ⟨b, off, e1, _, hc⟩ := hcells (by omega)
      cases e1
      have := hc j hjl
      rw [List.getElem?_map] at hj
      have e2 : ys[j]? = some (ys.getD j 0) := by simp [hjl]
      rw [e2] at hj
      cases hj
      by_cases h0 : j = 0
      · subst h0; simpa [Addr.add] using this
      · simpa [Addr.add, h0] using this
    obtain ⟨v', w', hrun, ho, hg, _⟩ := run_append_own (P := P) w base t ty e i0 (.int .i64 0) 1 8 ht hi hz0 hz1 hz2 rfl (by decide) v xs.length (xs.map (Value.int .i64)) hv ad ys.length cap (ys.map (Value.int .i64)) (by simp) hc (ints_oneCell _ _) (by unfold maxLen; omega) (by omega) hbase
    refine ⟨v', w', hrun, ?_, hg⟩
    unfold Own
    rw [List.length_append, List.map_append]
    exact ho

/-- 'append(nil, s...)' as one step of a region that draws -/
theorem step_append_nil {P : Program} {ops : Array Oper} {o : Oper} {a : Act} {w : World} {K : Act → World → Prop} {Q : Exit → Act → World → Prop} {E : Prop}
    (hg : o.guard = none) (s x : Operand) (t : TypeId) (hop : o.op = Op.call { callee := Callee.builtin Builtin.append, args := #[s, x], argTypes := #[t, t] })
    (e : TypeId) (hin : (P.info? e).map (fun i => (i.zero, i.size, i.bytes)) = some (some (.int .i64 0), 1, 8)) (ht : P.underlying t = some (.slice e))
    (u : Value) (ys : List Int) (hs : a.eval s = .slice none 0 0) (hx : a.eval x = u) (w0 : World) (kp : Kp w0 w) (hu : Ints w0 u ys) (hroom : ys.length ≤ 1000000)
    (h : ∀ b n c w', Hid (Own w' e w0.heap.size (.slice b n c) ys) → Hid (Kp w w') → Hid (Kp w0 w') → (∀ q : Nat, q < w.heap.size → q < w'.heap.size) → (∀ q : Nat, q < w.heap.size → ¬ q = w'.heap.size) → (∀ p : Addr, p.block < w.heap.size → w'.cell? p = w.cell? p) → (∀ p : Addr, p.block < w.heap.size → w'.frozen? p = w.frozen? p) → K (a.put o.dst (.slice b n c)) w') :
    if Region.wanted o (yielded ops a.tmps) = true then Oper.wp P o a w K Q else E := by
  have hw : Region.wanted o (yielded ops a.tmps) = true := by simp [Region.wanted, hg]
  rw [if_pos hw]
  obtain ⟨v', w', hrun, h1, h2⟩ := run_append_ints (P := P) w w.heap.size t o.type e hin ht (.slice none 0 0) u [] ys (Own.nil _ _ _) (hu.keep kp) (by simp; omega) (Nat.le_refl _)
  have k2 : Kp w w' := (Kp.refl w).of_grown h2 (fun k hk => (Own.nil w e w.heap.size).block k hk)
  rw [List.nil_append] at h1
  obtain ⟨b, n, c, rfl⟩ := h1.sl
  unfold Oper.wp
  simp [execOp, hop, resolve, invoke, builtin, hs, hx, hrun, Result.andThen]
  exact h b n c w' (h1.weak kp.size) k2 (kp.trans k2) (fun q hq => Nat.lt_of_lt_of_le hq k2.size) (fun q hq => by have := k2.size; omega) (fun p hp => Below.cell k2 hp) (fun p hp => by unfold World.frozen?; rw [k2.block p.block hp])

end Go.Proofs.Ytliddjpcbhdplaa
