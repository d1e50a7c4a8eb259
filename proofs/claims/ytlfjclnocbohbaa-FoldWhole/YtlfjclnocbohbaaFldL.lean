
/- The call's own row of tensors: appends. -/
import Derived.Test.YtlfjclnocbohbaaFldF
namespace Go.Proofs.Ytlfjclnocbohbaa
open Go.RowKit

/-- these cells, two by two, read as tensors -/
structure Reads (w : World) (cs : List Value) (ts : List Tn) : Prop where
  len : cs.length = ts.length * 2
  each : ∀ i, i < ts.length → ∃ p c p' c', cs[i * 2]? = some (.slice p (ts.getD i tnil).s.length c) ∧ cs[i * 2 + 1]? = some (.slice p' (ts.getD i tnil).d.length c') ∧ Ints w (.slice p (ts.getD i tnil).s.length c) (ts.getD i tnil).s ∧ Flts w (.slice p' (ts.getD i tnil).d.length c') (ts.getD i tnil).d
theorem Reads.nil (w : World) : Reads w [] [] := ⟨rfl, fun i hi => by simp at hi⟩
theorem Reads.keep {w w' : World} {cs : List Value} {ts : List Tn} (h : Reads w cs ts) (k : Kp w w') : Reads w' cs ts := by
  refine ⟨h.len, fun i hi => ?_⟩
  obtain ⟨p, c, p', c', h1, h2, h3, h4⟩ := h.each i hi
  exact ⟨p, c, p', c', h1, h2, h3.keep k, h4.keep k⟩
theorem Reads.app {w : World} {cs ds : List Value} {ts us : List Tn} (h : Reads w cs ts) (h' : Reads w ds us) : Reads w (cs ++ ds) (ts ++ us) := by
  have hl := h.len
  have hl' := h'.len
  refine ⟨by rw [List.length_append, List.length_append]; omega, fun i hi => ?_⟩
  rw [List.length_append] at hi
  by_cases hlt : i < ts.length
  · have e : (ts ++ us).getD i tnil = ts.getD i tnil := by rw [List.getD_eq_getElem?_getD, List.getElem?_append_left hlt, ← List.getD_eq_getElem?_getD]
    rw [e]
    obtain ⟨p, c, p', c', h1, h2, h3, h4⟩ := h.each i hlt
    exact ⟨p, c, p', c', by rw [List.getElem?_append_left (by omega)]; exact h1, by rw [List.getElem?_append_left (by omega)]; exact h2, h3, h4⟩
  · have e : (ts ++ us).getD i tnil = us.getD (i - ts.length) tnil := by rw [List.getD_eq_getElem?_getD, List.getElem?_append_right (by omega), ← List.getD_eq_getElem?_getD]
    rw [e]
    obtain ⟨p, c, p', c', h1, h2, h3, h4⟩ := h'.each (i - ts.length) (by omega)
    exact ⟨p, c, p', c', by rw [List.getElem?_append_right (by omega), show i * 2 - cs.length = (i - ts.length) * 2 by omega]; exact h1, by rw [List.getElem?_append_right (by omega), show i * 2 + 1 - cs.length = (i - ts.length) * 2 + 1 by omega]; exact h2, h3, h4⟩
theorem Reads.one {w : World} {cs : List Value} {ts : List Tn} (h : Reads w cs ts) : ∀ u ∈ cs, u.oneCell' = true := by
  intro u hu
  obtain ⟨j, hj, rfl⟩ := List.getElem_of_mem hu
  have hl := h.len
  obtain ⟨p, c, p', c', h1, h2, _, _⟩ := h.each (j / 2) (by omega)
  rcases (show j = j / 2 * 2 ∨ j = j / 2 * 2 + 1 by omega) with e | e
  · rw [← e, List.getElem?_eq_getElem hj] at h1
    rw [Option.some.inj h1]
    rfl
  · rw [← e, List.getElem?_eq_getElem hj] at h2
    rw [Option.some.inj h2]
    rfl

/-- the cells of a list of tensors -/
theorem Tens.cells {w : World} {b off n c : Nat} {ts : List Tn} (h : Tens w (.slice (some ⟨b, off, none⟩) n c) ts) : ∃ cs, Reads w cs ts ∧ ∀ (j : Nat) (u : Value), cs[j]? = some u → w.cell? ((⟨b, off, none⟩ : Addr).add j) = some u := by
  obtain ⟨_, a, cap, e, h2⟩ := h
  cases e
  have hcell : ∀ i, i < ts.length → TenAt w b (off + i * 2) (ts.getD i tnil) := by
    intro i hi
    obtain ⟨b', off', e, _, hc⟩ := h2 (by omega)
    cases e
    exact hc i hi
  have hget : ∀ j, j < ts.length * 2 → ∃ v, w.cell? ⟨b, off + j, none⟩ = some v := by
    intro j hj
    obtain ⟨p, c, p', c', h1, h2, _, _⟩ := hcell (j / 2) (by omega)
    rcases (show j = j / 2 * 2 ∨ j = j / 2 * 2 + 1 by omega) with e | e
    · exact ⟨_, by rw [e]; exact h1⟩
    · exact ⟨_, by rw [e, ← Nat.add_assoc]; exact h2⟩
  have hcs : ∀ j, j < ts.length * 2 → ((List.range (ts.length * 2)).map (fun j => (w.cell? ⟨b, off + j, none⟩).getD (.bool false)))[j]? = w.cell? ⟨b, off + j, none⟩ := by
    intro j hj
    obtain ⟨v, hv⟩ := hget j hj
    rw [List.getElem?_map, List.getElem?_range hj, hv]
    simp [hv]
  refine ⟨(List.range (ts.length * 2)).map (fun j => (w.cell? ⟨b, off + j, none⟩).getD (.bool false)), ⟨by simp, fun i hi => ?_⟩, fun j u hj => ?_⟩
  · obtain ⟨p, c, p', c', h1, h2, h3, h4⟩ := hcell i hi
    exact ⟨p, c, p', c', by rw [hcs _ (by omega)]; exact h1, by rw [hcs _ (by omega), ← Nat.add_assoc]; exact h2, h3, h4⟩
  · have hlt : j < ts.length * 2 := by
      have := (List.getElem?_eq_some_iff.1 hj).1
      simpa using this
    rw [hcs j hlt] at hj
    rw [Go.WideShapes.add_plain]
    exact hj

/-- the call's own row of tensors -/
def OwnT (w : World) (base : Nat) (v : Value) (n : Nat) (cs : List Value) : Prop := w.ownsRow base 31 2 v n cs
theorem OwnT.nil (w : World) (base : Nat) : OwnT w base (.slice none 0 0) 0 [] := World.ownsRow_nil _ _ _ _
theorem OwnT.empty (w : World) : OwnT (w.alloc (.cells #[] 31)) w.heap.size (.slice (some ⟨w.heap.size, 0, none⟩) 0 0) 0 [] :=
  ⟨rfl, .inr ⟨w.heap.size, 0, #[], rfl, Nat.le_refl _, by simp only [World.alloc, Array.getElem?_push_size], Nat.le_refl _, by unfold maxLen; omega, rfl, rfl⟩⟩
theorem OwnT.keep {w w' : World} {base n : Nat} {v : Value} {cs : List Value} (h : OwnT w base v n cs) (k : Kp w w') : OwnT w' base v n cs := by
  obtain ⟨h0, h | ⟨g, cap, cur, rfl, hg, hh, r⟩⟩ := h
  · exact ⟨h0, .inl h⟩
  · exact ⟨h0, .inr ⟨g, cap, cur, rfl, hg, by rw [k.block g (Array.getElem?_eq_some_iff.1 hh).1]; exact hh, r⟩⟩
theorem OwnT.sl {w : World} {base n : Nat} {v : Value} {cs : List Value} (h : OwnT w base v n cs) : ∃ a n c, v = .slice a n c := by
  obtain ⟨_, ⟨rfl, _⟩ | ⟨g, cap, cur, rfl, _⟩⟩ := h
  · exact ⟨_, _, _, rfl⟩
  · exact ⟨_, _, _, rfl⟩
theorem OwnT.block {w : World} {base n : Nat} {v : Value} {cs : List Value} (h : OwnT w base v n cs) (k : Nat) (hk : v.ownBlock = some k) : base ≤ k := by
  obtain ⟨_, h | ⟨g, cap, cur, rfl, hg, _⟩⟩ := h
  · obtain ⟨rfl, _⟩ := h
    cases hk
  · cases hk
    exact hg
theorem OwnT.tens {w : World} {base n : Nat} {v : Value} {cs : List Value} {ts : List Tn} (h : OwnT w base v n cs) (hr : Reads w cs ts) (hn : ts.length = n) (hm : n ≤ 1000000) : Tens w v ts := by
  obtain ⟨_, ⟨rfl, h0⟩ | ⟨g, cap, cur, rfl, _, hh, _, _, _, ht⟩⟩ := h
  · subst h0
    have : ts = [] := List.eq_nil_of_length_eq_zero hn
    subst this
    exact ⟨by simp, none, 0, rfl, by simp⟩
  · refine ⟨by omega, some ⟨g, 0, none⟩, cap, by rw [hn], fun _ => ⟨g, 0, rfl, (Array.getElem?_eq_some_iff.1 hh).1, fun i hi => ?_⟩⟩
    have hc : ∀ j v, cs[j]? = some v → w.cell? ⟨g, j, none⟩ = some v := by
      intro j v hj
      have hlt : j < n * 2 := by
        have := (List.getElem?_eq_some_iff.1 hj).1
        have := hr.len
        omega
      have h5 := congrArg (fun l => l[j]?) ht
      simp only [List.getElem?_take, hlt, if_true, Array.getElem?_toList] at h5
      simp [World.cell?, hh, h5, hj]
    obtain ⟨p, c, p', c', h1, h2, h3, h4⟩ := hr.each i hi
    rw [Nat.zero_add]
    exact ⟨p, c, p', c', hc _ _ h1, hc _ _ h2, h3, h4⟩

/-- 'append(own, s...)' of tensors -/
theorem wpList_append_tens (w : World) {ops : Array Oper} {rest : List Oper} {o : Oper} {a : Act} {Q : Exit → Act → World → Prop}
    (hgd : o.guard = none) (s x : Operand) (ho : o.op = .call { callee := .builtin .append, args := #[s, x], argTypes := #[26, 26] })
    (base : Nat) (v : Value) (n : Nat) (cs : List Value) (ad : Addr) (m c : Nat) (ds : List Value) (hs : a.eval s = v) (hx : a.eval x = .slice (some ad) m c) (hv : OwnT w base v n cs)
    (hl : ds.length = m * 2) (hd : ∀ (j : Nat) (u : Value), ds[j]? = some u → w.cell? (ad.add j) = some u) (h1 : ∀ u ∈ ds, u.oneCell' = true) (hroom : n + m ≤ 1000000) (hbase : base ≤ w.heap.size)
    (h : ∀ v' w', OwnT w' base v' (n + m) (cs ++ ds) → w.grownBy w' v.ownBlock → wpList Try.prog ops Q rest (a.put o.dst v') w') : wpList Try.prog ops Q (o :: rest) a w := by
  obtain ⟨i0, hi, hz0, hz1, hz2⟩ := info_parts infoTen
  exact wpList_append_own w hgd s x 26 ho base 31 i0 (.agg #[.slice none 0 0, .slice none 0 0]) 2 48 Try.underlying26 hi hz0 hz1 hz2 rfl (by decide) v n cs hs hv ad m c ds hx hl hd h1 (by unfold maxLen; omega) (by omega) hbase (fun v' w' g1 g2 _ => h v' w' g1 g2)

end Go.Proofs.Ytlfjclnocbohbaa
