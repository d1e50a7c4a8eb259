
/- Contracts of the document's Hook where it refuses; what its loops keep. -/
import Derived.Test.YtliddjpcbhdplaaHokB
import Derived.Test.YtliddjpcbhdplaaHokF
namespace Go.Proofs.Ytliddjpcbhdplaa
open Go.RowKit

theorem info_flt9 : (Try.prog.info? 89).map (fun i => (i.zero, i.size, i.bytes)) = some (some (.float .f64 0), 1, 8) := by kernel_rfl
/-- 'append(nil, s...)' as one step of a region that draws; S: what abides -/
theorem step_nilF9 {ops : Array Oper} {o : Oper} {a : Act} {w : World} {K : Act → World → Prop} {Q : Exit → Act → World → Prop} {E : Prop} (S : World → Prop)
    (hg : o.guard = none) (s x : Operand) (hop : o.op = Op.call { callee := Callee.builtin Builtin.append, args := #[s, x], argTypes := #[36, 36] })
    (u : Value) (ys : List Nat) (hs : a.eval s = .slice none 0 0) (hx : a.eval x = u) (w0 : World) (kp : Kp w0 w) (hu : Flts w0 u ys) (hroom : ys.length ≤ 1000000) (hS : ∀ w1, Kp w0 w1 → S w1)
    (h : ∀ b n c w', Hid (OwnF w' 89 w0.heap.size (.slice b n c) ys) → Hid (Kp w w') → Hid (Kp w0 w') → S w' → K (a.put o.dst (.slice b n c)) w') :
    if Region.wanted o (yielded ops a.tmps) = true then Oper.wp Try.prog o a w K Q else E := by
  have hw : Region.wanted o (yielded ops a.tmps) = true := by simp [Region.wanted, hg]
  rw [if_pos hw]
  obtain ⟨v', w', hrun, h1, h2⟩ := run_append_flts (P := Try.prog) w w.heap.size 36 o.type 89 info_flt9 Try.underlying36 (.slice none 0 0) u [] ys (OwnF.nil _ _ _) (hu.keep kp) (by simp; omega) (Nat.le_refl _)
  have k2 : Kp w w' := (Kp.refl w).of_grown h2 (fun k hk => (OwnF.nil w 89 w.heap.size).block k hk)
  rw [List.nil_append] at h1
  obtain ⟨b, n, c, rfl⟩ := h1.sl
  unfold Oper.wp
  simp [execOp, hop, resolve, invoke, builtin, hs, hx, hrun, Result.andThen]
  exact h b n c w' (h1.weak kp.size) k2 (kp.trans k2) (hS _ (kp.trans k2))

/-- one number of a row changed, the next one in turn -/
theorem rnd {w5 wi w' : World} {G n c k r : Nat} {ms ds : List Nat} {y : Hk} (OG : OwnG wi 89 G n c (ms ++ ds.drop k)) (hm : ms.length = k) (hk : k < n) (hd : ds.length = n) (HM : ∀ x ∈ ms, W64 x) (HR : ∀ j, j < k → cn (ms.getD j 0) = hkC y (ds.getD j 0))
    (KR : Kx G w5 wi) (kp : Kp wi w') (hr : cn r = hkC y (ds.getD k 0)) (hw : W64 r) :
    (ms ++ [r]).length = k + 1 ∧ OwnG (w'.setCell ⟨G, k, none⟩ (.float .f64 r)) 89 G n c ((ms ++ [r]) ++ ds.drop (k + 1)) ∧ (∀ x ∈ ms ++ [r], W64 x) ∧ (∀ j, j < k + 1 → cn ((ms ++ [r]).getD j 0) = hkC y (ds.getD j 0)) ∧ Kx G w5 (w'.setCell ⟨G, k, none⟩ (.float .f64 r)) := by
  refine ⟨by simp [hm], ?_, ?_, ?_, (KR.kp kp).set k _⟩
  · have h := (OG.keep kp).set k r
    have e : (ms ++ ds.drop k).set k r = (ms ++ [r]) ++ ds.drop (k + 1) := by
      rw [List.set_append_right _ _ (by omega), hm, Nat.sub_self, List.drop_eq_getElem_cons (show k < ds.length by omega)]
      simp only [List.set_cons_zero, List.append_assoc, List.singleton_append]
    rw [e] at h
    exact h
  · intro x hx
    rcases List.mem_append.1 hx with h | h
    · exact HM x h
    · rw [List.mem_singleton.1 h]
      exact hw
  · intro j hj
    by_cases e : j = k
    · subst e
      have : (ms ++ [r]).getD j 0 = r := by
        rw [List.getD_eq_getElem?_getD, List.getElem?_append_right (by omega), hm, Nat.sub_self]; rfl
      rw [this]
      exact hr
    · have : (ms ++ [r]).getD j 0 = ms.getD j 0 := by
        rw [List.getD_eq_getElem?_getD, List.getElem?_append_left (by omega), ← List.getD_eq_getElem?_getD]
      rw [this]
      exact HR j (by omega)
theorem cell_k {wi : World} {G n c k : Nat} {ms ds : List Nat} (OG : OwnG wi 89 G n c (ms ++ ds.drop k)) (hm : ms.length = k) (hk : k < n) : wi.cell? ⟨G, k, none⟩ = some (.float .f64 (ds.getD k 0)) := by
  have h := OG.cell hk
  have hx : (ms ++ ds.drop k).getD k 0 = ds.getD k 0 := by
    rw [List.getD_eq_getElem?_getD, List.getElem?_append_right (by omega), hm, Nat.sub_self, List.getElem?_drop, Nat.add_zero, ← List.getD_eq_getElem?_getD]
  rw [hx] at h
  exact h

end Go.Proofs.Ytliddjpcbhdplaa
