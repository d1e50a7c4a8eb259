
/- The document's scheduler: what an answer does; a deed in a box beside it. -/
import Derived.Test.YtenbmfhhmbfgoaaSchRd
namespace Go.Proofs.Ytenbmfhhmbfgoaa
open Go.RowKit

theorem SOk.settle {ps : List Int} {A : SS} (h : SOk ps A) {i : Nat} (hi : (i : Int) ∈ A.ab) (r : Int) : SOk ps (settleS A i r) := by
  unfold settleS
  split
  · exact h.done hi
  · split
    · split
      · exact h.woken _ _
      · exact h.wait hi
    · exact h
section
variable {W0 w w' : World} {M : Nat} {pv : Value} {ps : List Int} {Bs : List Nat} {Lv : Nat → Value} {K : Nat} {told : List Int} {an : Nat → Nat} {A : SS} {G : Nat → Prop}
theorem MW.done (h : MW W0 w M pv ps Bs Lv K told an A G) {i : Nat} (hi : i < Bs.length) (ha : (i : Int) ∈ A.ab) {B : Nat} (hB : Bs.getD i 0 = B) : MW W0 (w.setCell ⟨B, 2, none⟩ (.int .i64 3)) M pv ps Bs Lv K told an (settleS A i 3) G ∧ Wd G G w (w.setCell ⟨B, 2, none⟩ (.int .i64 3)) := by
  obtain ⟨wk, tv, ov, m, hf⟩ := h.at_
  have t := m.tk i hi
  rw [hB] at t
  obtain ⟨m2, d2⟩ := m.cellT hi hB (t.setSt 3)
  refine ⟨⟨h.ok.settle ha 3, by rw [settle_len]; exact h.ln, wk, tv, ov, m2.congr ?_ ?_ ?_, ?_⟩, d2⟩
  · intro j hj
    unfold upd
    by_cases e : j = i
    · subst e; simp
    · simp [e]
  · intro j hj
    rw [stA_settle h.ok ha]
    unfold upd
    by_cases e : j = i
    · rw [if_pos e, if_pos rfl, if_pos e]
    · rw [if_neg e, if_neg e]
  · intro j hj
    unfold upd
    by_cases e : j = i
    · subst e; simp
    · simp [e]
  · intro j hj hs
    rw [stA_settle h.ok ha] at hs
    by_cases e : j = i
    · rw [if_pos e, if_pos rfl] at hs
      exact absurd rfl hs
    · rw [if_neg e] at hs
      rw [flA_settle A (by rw [h.ln]; exact hi) 3 j (.inl e), if_neg (fun h => e h.1)]
      exact hf j hj hs
theorem MW.flag (h : MW W0 w M pv ps Bs Lv K told an A G) {i : Nat} (hi : i < Bs.length) (ha : (i : Int) ∈ A.ab) {B : Nat} (hB : Bs.getD i 0 = B) : w.cell? ⟨B, 3, none⟩ = some (.bool (flA A i)) ∧ w.cell? ⟨B, 2, none⟩ = some (.int .i64 1) ∧ (∀ c, w.frozen? ⟨B, c, none⟩ = false) := by
  obtain ⟨wk, tv, ov, m, hf⟩ := h.at_
  have t := m.tk i hi
  rw [hB] at t
  obtain ⟨-, -, c2, c3⟩ := t.cells
  rw [stA_one ha] at c2
  rw [hf i hi (by rw [stA_one ha]; decide)] at c3
  exact ⟨c3, c2, t.frozen⟩
theorem MW.pass (h : MW W0 w M pv ps Bs Lv K told an A G) {i : Nat} (hi : i < Bs.length) (ha : (i : Int) ∈ A.ab) {B : Nat} (hB : Bs.getD i 0 = B) (hfl : flA A i = true) : MW W0 (w.setCell ⟨B, 3, none⟩ (.bool false)) M pv ps Bs Lv K told an (settleS A i 2) G ∧ Wd G G w (w.setCell ⟨B, 3, none⟩ (.bool false)) := by
  obtain ⟨wk, tv, ov, m, hf⟩ := h.at_
  have t := m.tk i hi
  rw [hB] at t
  obtain ⟨m2, d2⟩ := m.cellT hi hB (t.setWk false)
  refine ⟨⟨h.ok.settle ha 2, by rw [settle_len]; exact h.ln, upd wk i false, tv, ov, m2.congr ?_ ?_ ?_, ?_⟩, d2⟩
  · intro j hj
    unfold upd
    by_cases e : j = i
    · subst e; simp
    · simp [e]
  · intro j hj
    rw [stA_settle h.ok ha]
    unfold upd
    by_cases e : j = i
    · rw [if_pos e, if_neg (by decide), if_pos rfl, if_pos hfl, if_pos e, stA_one ha]
    · rw [if_neg e, if_neg e]
  · intro j hj
    rfl
  · intro j hj hs
    rw [stA_settle h.ok ha] at hs
    rw [flA_settle A (by rw [h.ln]; exact hi) 2 j (.inr (by decide))]
    unfold upd
    by_cases e : j = i
    · rw [if_pos e, if_pos ⟨e, rfl⟩]
    · rw [if_neg e] at hs ⊢
      rw [if_neg (fun h => e h.1)]
      exact hf j hj hs
theorem MW.wait (h : MW W0 w M pv ps Bs Lv K told an A G) {i : Nat} (hi : i < Bs.length) (ha : (i : Int) ∈ A.ab) {B : Nat} (hB : Bs.getD i 0 = B) (hfl : flA A i = false) : MW W0 (w.setCell ⟨B, 2, none⟩ (.int .i64 2)) M pv ps Bs Lv K told an (settleS A i 2) G ∧ Wd G G w (w.setCell ⟨B, 2, none⟩ (.int .i64 2)) := by
  obtain ⟨wk, tv, ov, m, hf⟩ := h.at_
  have t := m.tk i hi
  rw [hB] at t
  obtain ⟨m2, d2⟩ := m.cellT hi hB (t.setSt 2)
  refine ⟨⟨h.ok.settle ha 2, by rw [settle_len]; exact h.ln, wk, tv, ov, m2.congr ?_ ?_ ?_, ?_⟩, d2⟩
  · intro j hj
    unfold upd
    by_cases e : j = i
    · subst e; simp
    · simp [e]
  · intro j hj
    rw [stA_settle h.ok ha]
    unfold upd
    by_cases e : j = i
    · rw [if_pos e, if_neg (by decide), if_pos rfl, if_neg (by rw [hfl]; decide), if_pos e]
    · rw [if_neg e, if_neg e]
  · intro j hj
    unfold upd
    by_cases e : j = i
    · subst e; simp
    · simp [e]
  · intro j hj hs
    rw [stA_settle h.ok ha] at hs
    rw [flA_settle A (by rw [h.ln]; exact hi) 2 j (.inr (by decide))]
    by_cases e : j = i
    · rw [if_pos ⟨e, rfl⟩]
      have := hf i hi (by rw [stA_one ha]; decide)
      rw [e, this, hfl]
    · rw [if_neg e] at hs
      rw [if_neg (fun h => e h.1)]
      exact hf j hj hs
theorem settle_else (A : SS) (i : Nat) {r : Int} (h3 : r ≠ 3) (h2 : r ≠ 2) : settleS A i r = A := by
  unfold settleS
  rw [if_neg h3, if_neg h2]
end

/-- a deed in its own box, beside the document's scheduler -/
structure MD (W0 w0 : World) (G0 : Nat → Prop) (w : World) (M : Nat) (pv : Value) (ps : List Int) (Bs : List Nat) (Lv : Nat → Value) (K : Nat) (told : List Int) (an : Nat → Nat) (A : SS) (G : Nat → Prop) (D : Nat) (v : Value) (x : Int) : Prop where
  m : MW W0 w M pv ps Bs Lv K told an A G
  d : D2 w D v x
  nG : ¬ G D
  nw : w0.heap.size ≤ D
  fr : Wd G0 G w0 w
section
variable {W0 w0 w w' : World} {G0 : Nat → Prop} {M : Nat} {pv : Value} {ps : List Int} {Bs : List Nat} {Lv : Nat → Value} {K : Nat} {told : List Int} {an : Nat → Nat} {A : SS} {G : Nat → Prop} {D : Nat} {v : Value} {x : Int}
theorem MD.made (h : MW W0 w M pv ps Bs Lv K told an A G) (fr : Wd G0 G w0 w) (v : Value) (x : Int) : MD W0 w0 G0 (w.alloc (.cells #[v, .int .u8 x] 58)) M pv ps Bs Lv K told an A G w.heap.size v x := by
  have k := Kp.alloc w (.cells #[v, .int .u8 x] 58)
  refine ⟨h.keep k, by unfold D2; simp only [World.alloc, Array.getElem?_push_size], fun e => ?_, fr.size, fr.trans (Wd.of_kp k)⟩
  obtain ⟨wk, tv, ov, m, -⟩ := h.at_
  have := m.lt _ e
  omega
theorem MD.keep (h : MD W0 w0 G0 w M pv ps Bs Lv K told an A G D v x) (k : Kp w w') : MD W0 w0 G0 w' M pv ps Bs Lv K told an A G D v x :=
  ⟨h.m.keep k, h.d.of (k.block D h.d.lt), h.nG, h.nw, h.fr.trans (Wd.of_kp k)⟩
theorem MD.set (h : MD W0 w0 G0 w M pv ps Bs Lv K told an A G D v x) (u : Value) (y : Int) : MD W0 w0 G0 ((w.setCell ⟨D, 0, none⟩ u).setCell ⟨D, 1, none⟩ (.int .u8 y)) M pv ps Bs Lv K told an A G D u y := by
  have k := grown_trans (grown_cell w D 0 u) (grown_cell (w.setCell ⟨D, 0, none⟩ u) D 1 (.int .u8 y))
  have d : Wd (fun q => q = D) (fun q => q = D) w ((w.setCell ⟨D, 0, none⟩ u).setCell ⟨D, 1, none⟩ (.int .u8 y)) := ⟨k.os, k.tape, k.output, k.size, fun i hi n => k.block i hi (by intro e; injection e with e; exact n e), fun _ e => .inl e⟩
  refine ⟨h.m.wide d (fun q e e2 => h.nG (e2 ▸ e)), h.d.set u y, h.nG, h.nw, ?_⟩
  exact ⟨k.os.trans h.fr.os, k.tape.trans h.fr.tape, k.output.trans h.fr.output, Nat.le_trans h.fr.size k.size, fun i hi n => (k.block i (Nat.lt_of_lt_of_le hi h.fr.size) (by intro e; injection e with e; have := h.nw; omega)).trans (h.fr.block i hi n), h.fr.new⟩
theorem MD.turn (h : MD W0 w0 G0 w M pv ps Bs Lv K told an A G D v x) {K' : Nat} {told' : List Int} {an' : Nat → Nat} {A' : SS} (m : MW W0 w' M pv ps Bs Lv K' told' an' A' G) (d : Wd G G w w') : MD W0 w0 G0 w' M pv ps Bs Lv K' told' an' A' G D v x :=
  ⟨m, h.d.of (d.block D h.d.lt h.nG), h.nG, h.nw, h.fr.trans d⟩
theorem MW.stepAt (h : MW W0 w M pv ps Bs Lv K told an A G) {i : Nat} (hi : i < Bs.length) {B : Nat} (hB : Bs.getD i 0 = B) (n : Nat) : MW W0 (w.setCell ⟨B, 1, none⟩ (.int .i64 (n : Int))) M pv ps Bs Lv K told (upd an i n) A G ∧ Wd G G w (w.setCell ⟨B, 1, none⟩ (.int .i64 (n : Int))) := by
  obtain ⟨wk, tv, ov, m, hf⟩ := h.at_
  have t := m.tk i hi
  rw [hB] at t
  obtain ⟨m2, d2⟩ := m.cellT hi hB (t.setAt n)
  refine ⟨⟨h.ok, h.ln, wk, tv, ov, m2.congr (fun _ _ => rfl) ?_ ?_, hf⟩, d2⟩
  · intro j hj
    unfold upd
    by_cases e : j = i
    · subst e; simp
    · simp [e]
  · intro j hj
    unfold upd
    by_cases e : j = i
    · subst e; simp
    · simp [e]
theorem MW.task (h : MW W0 w M pv ps Bs Lv K told an A G) {i : Nat} (hi : i < Bs.length) {B : Nat} (hB : Bs.getD i 0 = B) : w.cell? ⟨B, 0, none⟩ = some (Lv i) ∧ w.cell? ⟨B, 1, none⟩ = some (.int .i64 (an i : Int)) ∧ ∀ c, w.frozen? ⟨B, c, none⟩ = false := by
  obtain ⟨wk, tv, ov, m, hf⟩ := h.at_
  have t := m.tk i hi
  rw [hB] at t
  obtain ⟨c0, c1, -, -⟩ := t.cells
  exact ⟨c0, c1, t.frozen⟩
end

end Go.Proofs.Ytenbmfhhmbfgoaa
