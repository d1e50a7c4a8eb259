
/- Rows of uses, each the call's own, in a block of slices. -/
import Derived.Test.YtefohemihiiceaaRchC
namespace Go.Proofs.Ytefohemihiiceaa
open Go.RowKit

def useV (u : Nat × Nat) : List Value := [.int .i64 (u.1 : Int), .int .i64 (u.2 : Int)]
def flatU : List (Nat × Nat) → List Value
  | [] => []
  | u :: us => .int .i64 (u.1 : Int) :: .int .i64 (u.2 : Int) :: flatU us
theorem flatU_length : ∀ us, (flatU us).length = us.length * 2
  | [] => rfl
  | u :: us => by simp only [flatU, List.length_cons, flatU_length us]; omega
theorem flatU_append : ∀ us vs, flatU (us ++ vs) = flatU us ++ flatU vs
  | [], _ => rfl
  | u :: us, vs => by simp only [flatU, List.cons_append, flatU_append us vs]
theorem flatU_one : ∀ us, ∀ v ∈ flatU us, v.oneCell' = true
  | [], v, h => by cases h
  | u :: us, v, h => by
    simp only [flatU, List.mem_cons] at h
    rcases h with rfl | rfl | h
    · rfl
    · rfl
    · exact flatU_one us v h
theorem flatU_at : ∀ us k, k < us.length → (flatU us)[k * 2]? = some (.int .i64 ((us.getD k (0, 0)).1 : Int)) ∧ (flatU us)[k * 2 + 1]? = some (.int .i64 ((us.getD k (0, 0)).2 : Int))
  | [], k, h => absurd h (by simp)
  | u :: us, 0, _ => ⟨rfl, rfl⟩
  | u :: us, k + 1, h => by
    have := flatU_at us k (by simpa using h)
    rw [show (k + 1) * 2 = k * 2 + 1 + 1 by omega]
    simpa [flatU] using this

/-- the call's own slice of uses -/
def OwnU (w : World) (e : TypeId) (base : Nat) (v : Value) (us : List (Nat × Nat)) : Prop := w.ownsRow base e 2 v us.length (flatU us)
theorem OwnU.nil (w : World) (e : TypeId) (base : Nat) : OwnU w e base (.slice none 0 0) [] := World.ownsRow_nil _ _ _ _
theorem OwnU.sl {w : World} {e : TypeId} {base : Nat} {v : Value} {us : List (Nat × Nat)} (h : OwnU w e base v us) : ∃ b n k, v = .slice b n k := by
  obtain ⟨_, ⟨rfl, _⟩ | ⟨g, cap, cur, rfl, _⟩⟩ := h
  · exact ⟨_, _, _, rfl⟩
  · exact ⟨_, _, _, rfl⟩
theorem OwnU.len {w : World} {e : TypeId} {base : Nat} {a : Option Addr} {n c : Nat} {us : List (Nat × Nat)} (h : OwnU w e base (.slice a n c) us) : n = us.length := by
  obtain ⟨_, ⟨h1, h2⟩ | ⟨g, cap, cur, h1, _⟩⟩ := h
  · cases h1; exact h2.symm
  · cases h1; rfl
theorem OwnU.block {w : World} {e : TypeId} {base : Nat} {v : Value} {us : List (Nat × Nat)} (h : OwnU w e base v us) (k : Nat) (hk : v.ownBlock = some k) : base ≤ k ∧ k < w.heap.size := by
  obtain ⟨_, ⟨rfl, _⟩ | ⟨g, cap, cur, rfl, hg, hh, _⟩⟩ := h
  · cases hk
  · cases hk; exact ⟨hg, (Array.getElem?_eq_some_iff.1 hh).1⟩
theorem OwnU.keep {w w' : World} {e : TypeId} {base : Nat} {v : Value} {us : List (Nat × Nat)} (h : OwnU w e base v us) (k : Kp w w') : OwnU w' e base v us := by
  obtain ⟨h0, h | ⟨g, cap, cur, rfl, hg, hh, r⟩⟩ := h
  · exact ⟨h0, .inl h⟩
  · exact ⟨h0, .inr ⟨g, cap, cur, rfl, hg, by rw [k.block g (Array.getElem?_eq_some_iff.1 hh).1]; exact hh, r⟩⟩
theorem OwnU.grown {w w' : World} {row : Option Nat} {e : TypeId} {base : Nat} {v : Value} {us : List (Nat × Nat)} (h : OwnU w e base v us) (g : w.grownBy w' row) (hne : v.ownBlock = none ∨ v.ownBlock ≠ row) : OwnU w' e base v us := World.ownsRow.kept h g hne
theorem OwnU.at {w : World} {e : TypeId} {base : Nat} {v : Value} {us : List (Nat × Nat)} (h : OwnU w e base v us) (hp : 0 < us.length) : ∃ g cap, v = .slice (some ⟨g, 0, none⟩) us.length cap ∧ ∀ k, k < us.length → w.cell? ⟨g, k * 2, none⟩ = some (.int .i64 ((us.getD k (0, 0)).1 : Int)) ∧ w.cell? ⟨g, k * 2 + 1, none⟩ = some (.int .i64 ((us.getD k (0, 0)).2 : Int)) := by
  obtain ⟨_, ⟨_, h2⟩ | ⟨g, cap, cur, rfl, hg, hh, h1, h2, h3, h4⟩⟩ := h
  · omega
  · refine ⟨g, cap, rfl, fun k hk => ?_⟩
    have hf := flatU_at us k hk
    have key : ∀ i, i < us.length * 2 → w.cell? ⟨g, i, none⟩ = (flatU us)[i]? := fun i hi => by
      have : w.cell? ⟨g, i, none⟩ = cur[i]? := by rw [World.cell?, hh]; rfl
      rw [this, ← h4, List.getElem?_take, if_pos hi, Array.getElem?_toList]
    rw [key _ (by omega), key _ (by omega)]
    exact hf

/-- 'append(row, x)': the row is as it lay, or lies anew -/
theorem run_append_use {P : Program} (w : World) (base : Nat) (t ty e : TypeId) (hin : (P.info? e).map (fun i => (i.zero, i.size, i.bytes)) = some (some (.agg #[.int .i64 0, .int .i64 0]), 2, 16)) (ht : P.underlying t = some (.slice e))
    (v : Value) (us : List (Nat × Nat)) (u : Nat × Nat) (ad : Addr) (hv : OwnU w e base v us) (hc0 : w.cell? ad = some (.int .i64 (u.1 : Int))) (hc1 : w.cell? (ad.add 1) = some (.int .i64 (u.2 : Int))) (hroom : us.length + 1 ≤ 100000000) (hbase : base ≤ w.heap.size) :
    ∃ b n k w', (Builtin.append_ #[t, t] ty #[v, .slice (some ad) 1 1]).run P w = .ok (.slice b n k) w' ∧ OwnU w' e base (.slice b n k) (us ++ [u]) ∧ w.grownBy w' v.ownBlock ∧ ((Value.slice b n k).ownBlock = v.ownBlock ∨ ∀ q, (Value.slice b n k).ownBlock = some q → w.heap.size ≤ q) := by
  obtain ⟨i0, hi, hz0, hz1, hz2⟩ := info_parts hin
  have hnews : ∀ j x, (useV u)[j]? = some x → w.cell? (ad.add j) = some x := by
    intro j x hj
    match j, hj with
    | 0, hj => cases hj; simpa [Addr.add] using hc0
    | 1, hj => cases hj; exact hc1
    | j + 2, hj => simp [useV] at hj
  have hone : ∀ x ∈ useV u, x.oneCell' = true := by
    intro x hx
    simp only [useV, List.mem_cons, List.not_mem_nil, or_false] at hx
    rcases hx with rfl | rfl <;> rfl
  obtain ⟨v', w', hrun, ho, hg, _⟩ := run_append_own (P := P) w base t ty e i0 (.agg #[.int .i64 0, .int .i64 0]) 2 16 ht hi hz0 hz1 hz2 rfl (by decide) v us.length (flatU us) hv ad 1 1 (useV u) rfl hnews hone (by unfold maxLen; omega) (by omega) hbase
  have ho2 : OwnU w' e base v' (us ++ [u]) := by
    unfold OwnU
    rw [flatU_append, List.length_append]
    exact ho
  obtain ⟨b, n, k, rfl⟩ := ho2.sl
  refine ⟨b, n, k, w', hrun, ho2, hg, ?_⟩
  obtain ⟨hl0, ⟨rfl, hx0⟩ | ⟨g, cap, cur, rfl, hgb, hh, h1, h2, h3, h4⟩⟩ := hv
  · right
    have hx : us = [] := List.eq_nil_of_length_eq_zero hx0
    subst hx
    obtain ⟨v2, w2, hrun2, ho3, _, _⟩ := run_append_own (P := P) w w.heap.size t ty e i0 (.agg #[.int .i64 0, .int .i64 0]) 2 16 ht hi hz0 hz1 hz2 rfl (by decide) (.slice none 0 0) 0 [] (World.ownsRow_nil _ _ _ _) ad 1 1 (useV u) rfl hnews hone (by decide) (by omega) (Nat.le_refl _)
    rw [hrun] at hrun2
    cases hrun2
    exact fun q hq => (World.ownsRow.lt ho3 q hq).1
  · by_cases hfit : us.length + 1 ≤ cap
    · left
      have hroom2 := run_append_room (P := P) w t ty e i0 ht hi g us.length cap cur hh ad 1 1 (useV u) (by rw [hz1]; rfl) hnews hone hfit (by rw [hz1]; simp [useV]; omega)
      rw [hrun] at hroom2
      cases hroom2
      rfl
    · right
      obtain ⟨v2, w2, hrun2, r1, _⟩ := run_append_arg_grows (P := P) w t ty e i0 (.agg #[.int .i64 0, .int .i64 0]) 2 16 ht hi hz0 hz1 hz2 rfl (by decide) ⟨g, 0, none⟩ us.length cap (flatU us) (flatU_length us)
        (by
          intro j x hj
          have hjl : j < us.length * 2 := by
            have := (List.getElem?_eq_some_iff.1 hj).1
            rw [flatU_length] at this
            exact this
          have hc : cur[j]? = some x := by
            have h5 := congrArg (fun l => l[j]?) h4
            simp only [List.getElem?_take, hjl, if_true, Array.getElem?_toList] at h5
            rw [h5]
            exact hj
          have : w.cell? ⟨g, j, none⟩ = some x := by simp [World.cell?, hh, hc]
          by_cases h0 : j = 0
          · subst h0; simpa [Addr.add] using this
          · simpa [Addr.add, h0] using this) ad 1 1 (useV u) rfl hnews (by omega) (by unfold maxLen; omega) (by omega)
      rw [hrun] at hrun2
      cases hrun2
      exact fun q hq => (World.ownsRow.lt r1 q hq).1

/-- block R holds these slices -/
def BlkT (w : World) (t : TypeId) (R : Nat) (vs : List Value) : Prop := w.heap[R]? = some (.cells vs.toArray t)
theorem BlkT.lt {w : World} {t : TypeId} {R : Nat} {vs : List Value} (h : BlkT w t R vs) : R < w.heap.size := (Array.getElem?_eq_some_iff.1 h).1
theorem BlkT.cell {w : World} {t : TypeId} {R : Nat} {vs : List Value} (h : BlkT w t R vs) {i : Nat} (hi : i < vs.length) : w.cell? ⟨R, i, none⟩ = some (vs.getD i (.slice none 0 0)) := by
  unfold BlkT at h
  simp [World.cell?, h, hi]
theorem BlkT.frozen {w : World} {t : TypeId} {R : Nat} {vs : List Value} (h : BlkT w t R vs) (i : Nat) : w.frozen? ⟨R, i, none⟩ = false := by
  unfold BlkT at h
  simp [World.frozen?, h]
theorem BlkT.set {w : World} {t : TypeId} {R : Nat} {vs : List Value} (h : BlkT w t R vs) (i : Nat) (x : Value) : BlkT (w.setCell ⟨R, i, none⟩ x) t R (vs.set i x) := by
  unfold BlkT at h ⊢
  simp [World.setCell, Array.getElem?_modify, h]
theorem BlkT.keep {w w' : World} {t : TypeId} {R : Nat} {vs : List Value} (h : BlkT w t R vs) (k : Kp w w') : BlkT w' t R vs := by
  unfold BlkT
  rw [k.block R h.lt]
  exact h
theorem BlkT.grown {w w' : World} {t : TypeId} {row : Option Nat} {R : Nat} {vs : List Value} (h : BlkT w t R vs) (g : w.grownBy w' row) (hne : some R ≠ row) : BlkT w' t R vs := by
  unfold BlkT
  rw [g.block R h.lt hne]
  exact h
theorem BlkT.made (w : World) (t : TypeId) (n : Nat) : BlkT (w.alloc (.cells (madeCells #[.slice none 0 0] n) t)) t w.heap.size (List.replicate n (.slice none 0 0)) := by
  unfold BlkT
  simp only [World.alloc, Array.getElem?_push_size]
  congr 2
  apply Array.ext
  · simp [madeCells]
  · intro i h1 h2
    simp [madeCells, Nat.mod_one]
theorem OwnU.ne {w : World} {e t : TypeId} {base R : Nat} {v : Value} {us : List (Nat × Nat)} {vs : List Value} (he : e ≠ t) (h : OwnU w e base v us) (hb : BlkT w t R vs) : some R ≠ v.ownBlock := by
  obtain ⟨_, h | ⟨g, cap, cur, rfl, _, hh, _⟩⟩ := h
  · obtain ⟨rfl, _⟩ := h
    simp [Value.ownBlock]
  · intro e1
    obtain rfl : R = g := by simpa [Value.ownBlock] using e1
    unfold BlkT at hb
    rw [hh] at hb
    injection hb with e2
    injection e2 with _ e3
    exact he e3
theorem OwnU.setT {w : World} {e t : TypeId} {base R : Nat} {v : Value} {us : List (Nat × Nat)} {vs : List Value} (he : e ≠ t) (h : OwnU w e base v us) (hb : BlkT w t R vs) (i : Nat) (x : Value) : OwnU (w.setCell ⟨R, i, none⟩ x) e base v us := by
  have hn := h.ne he hb
  obtain ⟨h0, h | ⟨g, cap, cur, rfl, hg, hh, r⟩⟩ := h
  · exact ⟨h0, .inl h⟩
  · have hne : g ≠ R := fun e => hn (by rw [e]; rfl)
    exact ⟨h0, .inr ⟨g, cap, cur, rfl, hg, (Below.heap_setCell w ⟨R, i, none⟩ x g hne).trans hh, r⟩⟩

/-- the rows, each the call's own, none in another's place -/
structure RowsU (w : World) (e t : TypeId) (base R n : Nat) (vs : List Value) (P : Nat → List (Nat × Nat)) : Prop where
  len : vs.length = n
  blk : BlkT w t R vs
  own : ∀ k, k < n → OwnU w e base (vs.getD k (.slice none 0 0)) (P k)
  apart : ∀ k l, k < n → l < n → k ≠ l → ∀ b, (vs.getD k (.slice none 0 0)).ownBlock = some b → (vs.getD l (.slice none 0 0)).ownBlock ≠ some b
theorem RowsU.start (w : World) (e t : TypeId) (base n : Nat) : RowsU (w.alloc (.cells (madeCells #[.slice none 0 0] n) t)) e t base w.heap.size n (List.replicate n (.slice none 0 0)) (fun _ => []) := by
  have e1 : ∀ k, k < n → (List.replicate n (Value.slice none 0 0)).getD k (.slice none 0 0) = .slice none 0 0 := fun k _ => by
    rw [List.getD_eq_getElem?_getD, List.getElem?_replicate]
    split <;> rfl
  refine ⟨by simp, BlkT.made w t n, fun k hk => ?_, fun k l hk _ _ b hb => ?_⟩
  · rw [e1 k hk]; exact OwnU.nil _ _ _
  · rw [e1 k hk] at hb; cases hb
theorem RowsU.as {w : World} {e t : TypeId} {base R n : Nat} {vs : List Value} {P P' : Nat → List (Nat × Nat)} (h : RowsU w e t base R n vs P) (hp : ∀ k, k < n → P k = P' k) : RowsU w e t base R n vs P' :=
  ⟨h.len, h.blk, fun k hk => by rw [← hp k hk]; exact h.own k hk, h.apart⟩
theorem getDU_ne {vs : List Value} {k l : Nat} {v d : Value} (h : k ≠ l) : (vs.set k v).getD l d = vs.getD l d := by
  simp [List.getD_eq_getElem?_getD, h]
theorem getDU_eq {vs : List Value} {k : Nat} {v d : Value} (h : k < vs.length) : (vs.set k v).getD k d = v := by simp [h]
theorem RowsU.keep {w w' : World} {e t : TypeId} {base R n : Nat} {vs : List Value} {P : Nat → List (Nat × Nat)} (h : RowsU w e t base R n vs P) (k : Kp w w') : RowsU w' e t base R n vs P :=
  ⟨h.len, h.blk.keep k, fun i hi => (h.own i hi).keep k, h.apart⟩
theorem RowsU.turn {w w' : World} {e t : TypeId} {base R n : Nat} {vs : List Value} {P : Nat → List (Nat × Nat)} (h : RowsU w e t base R n vs P) {row : Option Nat} (g : w.grownBy w' row) (hr : ∀ q, row = some q → ∃ o : Obj, w.heap[q]? = some o ∧ o.isCells = false) : RowsU w' e t base R n vs P := by
  refine ⟨h.len, h.blk.grown g (fun e => ?_), fun i hi => (h.own i hi).grown g ?_, h.apart⟩
  · obtain ⟨o, ho, hc⟩ := hr R e.symm
    have hb := h.blk
    unfold BlkT at hb
    rw [hb] at ho
    cases ho
    cases hc
  · cases hb : (vs.getD i (.slice none 0 0)).ownBlock with
    | none => exact .inl rfl
    | some q =>
      right
      intro e
      obtain ⟨o, ho, hc⟩ := hr q e.symm
      obtain ⟨_, ⟨h1, _⟩ | ⟨g', cap, cur, h1, _, hh, _⟩⟩ := h.own i hi
      · rw [h1] at hb; cases hb
      · rw [h1] at hb
        cases hb
        rw [hh] at ho
        cases ho
        cases hc
theorem RowsU.step {w w1 w' : World} {e t : TypeId} (he : e ≠ t) {base R n : Nat} {vs : List Value} {P : Nat → List (Nat × Nat)} (h : RowsU w e t base R n vs P) (kp : Kp w w1) {k : Nat} (hk : k < n) {b : Option Addr} {m c : Nat} {us : List (Nat × Nat)}
    (ho : OwnU w' e base (.slice b m c) us) (g : w1.grownBy w' (vs.getD k (.slice none 0 0)).ownBlock) (hf : (Value.slice b m c).ownBlock = (vs.getD k (.slice none 0 0)).ownBlock ∨ ∀ q, (Value.slice b m c).ownBlock = some q → w1.heap.size ≤ q) :
    RowsU (w'.setCell ⟨R, k, none⟩ (.slice b m c)) e t base R n (vs.set k (.slice b m c)) (fun l => if l = k then us else P l) := by
  have h1 := h.keep kp
  have hR := h1.blk.grown g ((h1.own k hk).ne he h1.blk)
  have hkl : k < vs.length := by rw [h.len]; exact hk
  refine ⟨by rw [List.length_set]; exact h.len, hR.set k _, fun l hl => ?_, fun i l hi hl hne q hq => ?_⟩
  · by_cases e : l = k
    · subst e
      rw [getDU_eq hkl, if_pos rfl]
      exact ho.setT he hR _ _
    · rw [getDU_ne (fun e' => e e'.symm), if_neg e]
      refine OwnU.setT he ((h1.own l hl).grown g ?_) hR _ _
      cases hb : (vs.getD l (.slice none 0 0)).ownBlock with
      | none => exact .inl rfl
      | some q => exact .inr (fun e2 => h.apart l k hl hk e q hb e2.symm)
  · have lt : ∀ l, l < n → ∀ q, (vs.getD l (.slice none 0 0)).ownBlock = some q → q < w1.heap.size := fun l hl q hq => ((h1.own l hl).block q hq).2
    by_cases e1 : i = k
    · subst e1
      rw [getDU_eq hkl] at hq
      rw [getDU_ne (fun e => hne e)]
      intro h2
      rcases hf with hf | hf
      · exact h.apart i l hi hl hne q (by rw [← hf]; exact hq) h2
      · have := hf q hq
        have := lt l hl q h2
        omega
    · rw [getDU_ne (fun e => e1 e.symm)] at hq
      by_cases e2 : l = k
      · subst e2
        rw [getDU_eq hkl]
        intro h2
        rcases hf with hf | hf
        · exact h.apart i l hi hl hne q hq (by rw [← hf]; exact h2)
        · have := hf q h2
          have := lt i hi q hq
          omega
      · rw [getDU_ne (fun e => e2 e.symm)]
        exact h.apart i l hi hl hne q hq

end Go.Proofs.Ytefohemihiiceaa
