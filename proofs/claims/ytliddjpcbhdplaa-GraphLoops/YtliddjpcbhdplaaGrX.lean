
/- Lists of graphs by their cells; an append of graphs to a row of one's own. -/
import Derived.Test.YtliddjpcbhdplaaGrV
import Derived.Test.YtliddjpcbhdplaaGrK
namespace Go.Proofs.Ytliddjpcbhdplaa
open Go.RowKit

theorem infoGr : (Try.prog.info? 34).map (fun i => (i.zero, i.size, i.bytes)) = some (some (.agg #[.slice none 0 0]), 1, 24) := by kernel_rfl

/-- the values xs are slices that read as the graphs gs -/
def GVals (w : World) (gs : List (List Nd)) (xs : List Value) : Prop := xs.length = gs.length ∧ ∀ i, i < gs.length → ∃ a c, xs[i]? = some (.slice a (gs.getD i []).length c) ∧ Nodes w (.slice a (gs.getD i []).length c) (gs.getD i [])
theorem GVals.keep {w w' : World} {gs : List (List Nd)} {xs : List Value} (h : GVals w gs xs) (k : Kp w w') : GVals w' gs xs :=
  ⟨h.1, fun i hi => by
    obtain ⟨a, c, e, hn⟩ := h.2 i hi
    exact ⟨a, c, e, hn.keep k⟩⟩
theorem GVals.nil (w : World) : GVals w [] [] := ⟨rfl, fun _ hi => absurd hi (Nat.not_lt_zero _)⟩
theorem GVals.one {w : World} {gs : List (List Nd)} {xs : List Value} (h : GVals w gs xs) : ∀ u ∈ xs, u.oneCell' = true := by
  intro u hu
  obtain ⟨i, hi, e⟩ := List.mem_iff_getElem.1 hu
  obtain ⟨a, c, e2, _⟩ := h.2 i (by rw [← h.1]; exact hi)
  rw [List.getElem?_eq_getElem hi, e] at e2
  cases e2
  rfl
theorem GVals.append {w : World} {gs hs : List (List Nd)} {xs ys : List Value} (h : GVals w gs xs) (h' : GVals w hs ys) : GVals w (gs ++ hs) (xs ++ ys) := by
  refine ⟨by rw [List.length_append, List.length_append, h.1, h'.1], fun i hi => ?_⟩
  by_cases hl : i < gs.length
  · obtain ⟨a, c, e, hn⟩ := h.2 i hl
    have e1 : (gs ++ hs).getD i [] = gs.getD i [] := by simp [List.getD, List.getElem?_append_left hl]
    rw [e1, List.getElem?_append_left (by rw [h.1]; exact hl)]
    exact ⟨a, c, e, hn⟩
  · rw [List.length_append] at hi
    obtain ⟨a, c, e, hn⟩ := h'.2 (i - gs.length) (by omega)
    have e1 : (gs ++ hs).getD i [] = hs.getD (i - gs.length) [] := by simp [List.getD, List.getElem?_append_right (Nat.le_of_not_lt hl)]
    rw [e1, List.getElem?_append_right (by rw [h.1]; omega), h.1]
    exact ⟨a, c, e, hn⟩
/-- the cells of graphs in memory -/
theorem Graphs.vals {w : World} {a : Option Addr} {n c : Nat} {gs : List (List Nd)} (h : Graphs w (.slice a n c) gs) (hn : gs.length = n) : ∃ xs, GVals w gs xs ∧ xs.length = n ∧ ∀ ad, a = some ad → ∀ j u, xs[j]? = some u → w.cell? (ad.add j) = some u := by
  subst hn
  obtain ⟨_, a', cap, e, h2⟩ := h
  cases e
  by_cases hp : 0 < gs.length
  · obtain ⟨b, off, rfl, hb, hc⟩ := h2 hp
    refine ⟨(List.range gs.length).map (fun i => (w.cell? ⟨b, off + i, none⟩).getD (.int .i64 0)), ⟨by simp, fun i hi => ?_⟩, by simp, ?_⟩
    · obtain ⟨a', c', e, hn⟩ := hc i hi
      exact ⟨a', c', by simp [hi, e], hn⟩
    · rintro ad hz j u hj
      cases hz
      have hjl : j < gs.length := by
        have := (List.getElem?_eq_some_iff.1 hj).1
        simpa using this
      obtain ⟨a', c', e, hn⟩ := hc j hjl
      rw [Go.WideShapes.add_plain]
      rw [e]
      simp [hjl, e] at hj ⊢
      exact hj
  · have e0 : gs = [] := List.eq_nil_of_length_eq_zero (by omega)
    subst e0
    exact ⟨[], GVals.nil w, rfl, fun ad _ j u hj => by simp at hj⟩
/-- a row of one's own that holds them -/
theorem own_graphs {w : World} {base n : Nat} {v : Value} {gs : List (List Nd)} {xs : List Value} (h : w.ownsRow base 34 1 v n xs) (hv : GVals w gs xs) (hn : gs.length = n) (hr : n ≤ 1000000) : Graphs w v gs := by
  subst hn
  obtain ⟨_, ⟨h1, h2⟩ | ⟨g, cap, cur, rfl, _, hh, _, _, _, ht⟩⟩ := h
  · have e0 : gs = [] := List.eq_nil_of_length_eq_zero h2
    subst e0
    rw [h1]
    exact Graphs.nil w _ _
  · refine graphs_blk (lt_heap hh) rfl hr fun i hi => ?_
    obtain ⟨a, k, e, hn⟩ := hv.2 i hi
    rw [Nat.mul_one] at ht
    exact ⟨a, k, by rw [cell_take hh ht hi, e], hn⟩
theorem own_none {w : World} {t : TypeId} {size : Nat} : (w.alloc (.cells #[] t)).ownsRow w.heap.size t size (.slice (some ⟨w.heap.size, 0, none⟩) 0 0) 0 [] :=
  ⟨by simp, .inr ⟨_, 0, #[], rfl, Nat.le_refl _, heap_new _ _ _ rfl, Nat.le_refl _, by decide, by simp, by simp⟩⟩

/-- 'append(row, list...)' where the row is one's own, and there -/
theorem wpList_append_list {ops : Array Oper} {rest : List Oper} {o : Oper} {a : Act} {Q : Exit → Act → World → Prop} (w : World) (hgd : o.guard = none) (s x : Operand) (t e : TypeId)
    (ho : o.op = .call { callee := .builtin .append, args := #[s, x], argTypes := #[t, t] }) (z : Value) (size bytes : Nat) (hin : (Try.prog.info? e).map (fun i => (i.zero, i.size, i.bytes)) = some (some z, size, bytes)) (hz : z.cells.size = size) (hsz : 0 < size) (hby : bytes ≤ 1000) (ht : Try.prog.underlying t = some (.slice e))
    (w0 : World) (base g n k : Nat) (xs : List Value) (hs : a.eval s = .slice (some ⟨g, 0, none⟩) n k) (hown : w.ownsRow base e size (.slice (some ⟨g, 0, none⟩) n k) n xs) (ax : Option Addr) (m c : Nat) (ys : List Value) (hx : a.eval x = .slice ax m c) (hy : ys.length = m * size)
    (hnone : ax = none → m = 0 ∧ c = 0) (hc : ∀ ad, ax = some ad → ∀ j u, ys[j]? = some u → w.cell? (ad.add j) = some u) (h1 : ∀ u ∈ ys, u.oneCell' = true) (hroom : n + m ≤ 1000000) (hbase : base ≤ w.heap.size) (hk : Kp w0 w) (hb : w0.heap.size ≤ base)
    (h : ∀ g' k' w', w'.ownsRow base e size (.slice (some ⟨g', 0, none⟩) (n + m) k') (n + m) (xs ++ ys) → w.grownBy w' (some g) → Kp w0 w' → base ≤ w'.heap.size → wpList Try.prog ops Q rest (a.put o.dst (.slice (some ⟨g', 0, none⟩) (n + m) k')) w') : wpList Try.prog ops Q (o :: rest) a w := by
  obtain ⟨i0, hi, hz0, hz1, hz2⟩ := info_parts hin
  have hgb : base ≤ g := by
    obtain ⟨_, ⟨e1, _⟩ | ⟨q, cap, cur, e1, hq, _⟩⟩ := hown
    · cases e1
    · cases e1
      exact hq
  have grow : ∀ {w' : World}, w.grownBy w' (some g) → Kp w0 w' := fun hg => hk.of_grown hg (fun q e => by cases e; omega)
  cases ax with
  | none =>
    obtain ⟨rfl, rfl⟩ := hnone rfl
    have hcap : n + 0 ≤ k := by
      obtain ⟨_, ⟨e1, _⟩ | ⟨q, cap, cur, e1, _, _, hq, _⟩⟩ := hown
      · cases e1
      · cases e1
        omega
    refine wpList_append_fits_any w hgd s x t ho base e i0 size ht hi hz1 g n k xs hs hown none 0 0 ys hx hy (fun _ => ⟨rfl, rfl⟩) (fun ad e => by cases e) h1 hcap ?_
    intro w' h2 h3
    exact h g k w' h2 h3 (grow h3) (Nat.le_trans hbase h3.size)
  | some ad =>
    refine wpList_append_own w hgd s x t ho base e i0 z size bytes ht hi hz0 hz1 hz2 hz hsz _ n xs hs hown ad m c ys hx hy (hc ad rfl) h1 (by simp only [maxLen]; omega) (Nat.le_trans (Nat.mul_le_mul hroom hby) (by omega)) hbase ?_
    intro v' w' h2 h3 h4
    have hv : ∃ g' k', v' = .slice (some ⟨g', 0, none⟩) (n + m) k' := by
      obtain ⟨_, ⟨e1, _⟩ | ⟨q, cap, cur, e1, _⟩⟩ := h2
      · exact absurd ((h4.1 e1).1) (by simp)
      · exact ⟨q, cap, e1⟩
    obtain ⟨g', k', rfl⟩ := hv
    exact h g' k' w' h2 h3 (grow h3) (Nat.le_trans hbase h3.size)

end Go.Proofs.Ytliddjpcbhdplaa
