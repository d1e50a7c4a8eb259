
/- Lists of nodes by their cells, copied and made longer by Leaf nodes; a list of graphs one of which grows. -/
import Derived.Test.YtliddjpcbhdplaaGrX
import Derived.Test.YtliddjpcbhdplaaGrY
import Derived.Laws.OwnMore
namespace Go.Proofs.Ytliddjpcbhdplaa
open Go.RowKit

theorem infoNo : (Try.prog.info? 41).map (fun i => (i.zero, i.size, i.bytes)) = some (some (.agg #[.int .i64 0, .slice none 0 0, .slice none 0 0, .int .i64 0, .slice none 0 0, .slice none 0 0, .slice none 0 0]), 7, 136) := by kernel_rfl

def row7 (n : Nd) (a1 a2 a4 a5 a6 : Option Addr) (c1 c2 c4 c5 c6 : Nat) : List Value := [.int .i64 n.op, .slice a1 n.inn.length c1, .slice a2 n.tt.length c2, .int .i64 n.no, .slice a4 n.s.length c4, .slice a5 n.d.length c5, .slice a6 n.hk.length c6]
/-- the values xs are the cells of the nodes ns -/
def NVals (w : World) (ns : List Nd) (xs : List Value) : Prop := xs.length = ns.length * 7 ∧ ∀ i, i < ns.length → ∃ a1 a2 a4 a5 a6 c1 c2 c4 c5 c6, NdR w a1 a2 a4 a5 a6 c1 c2 c4 c5 c6 (ns.getD i ndnil) ∧ ∀ j, j < 7 → xs[i * 7 + j]? = (row7 (ns.getD i ndnil) a1 a2 a4 a5 a6 c1 c2 c4 c5 c6)[j]?
theorem NVals.keep {w w' : World} {ns : List Nd} {xs : List Value} (h : NVals w ns xs) (k : Kp w w') : NVals w' ns xs :=
  ⟨h.1, fun i hi => by
    obtain ⟨a1, a2, a4, a5, a6, c1, c2, c4, c5, c6, hn, hc⟩ := h.2 i hi
    exact ⟨a1, a2, a4, a5, a6, c1, c2, c4, c5, c6, hn.keep k, hc⟩⟩
theorem NVals.nil (w : World) : NVals w [] [] := ⟨rfl, fun _ hi => absurd hi (Nat.not_lt_zero _)⟩
theorem NVals.one {w : World} {ns : List Nd} {xs : List Value} (h : NVals w ns xs) : ∀ u ∈ xs, u.oneCell' = true := by
  intro u hu
  obtain ⟨q, hq, e⟩ := List.mem_iff_getElem.1 hu
  have hl := h.1
  obtain ⟨a1, a2, a4, a5, a6, c1, c2, c4, c5, c6, _, hc⟩ := h.2 (q / 7) (by omega)
  have h2 := hc (q % 7) (Nat.mod_lt _ (by decide))
  have e3 : q / 7 * 7 + q % 7 = q := by omega
  rw [e3, List.getElem?_eq_getElem hq, e] at h2
  have h3 := List.mem_of_getElem? h2.symm
  simp only [row7, List.mem_cons, List.not_mem_nil, or_false] at h3
  rcases h3 with rfl | rfl | rfl | rfl | rfl | rfl | rfl <;> rfl
theorem NVals.append {w : World} {ns ms : List Nd} {xs ys : List Value} (h : NVals w ns xs) (h' : NVals w ms ys) : NVals w (ns ++ ms) (xs ++ ys) := by
  have hl := h.1
  refine ⟨by rw [List.length_append, List.length_append, h.1, h'.1, Nat.add_mul], fun i hi => ?_⟩
  by_cases hlt : i < ns.length
  · have e1 : (ns ++ ms).getD i ndnil = ns.getD i ndnil := by simp [List.getD, List.getElem?_append_left hlt]
    rw [e1]
    obtain ⟨a1, a2, a4, a5, a6, c1, c2, c4, c5, c6, hn, hc⟩ := h.2 i hlt
    exact ⟨a1, a2, a4, a5, a6, c1, c2, c4, c5, c6, hn, fun j hj => by rw [List.getElem?_append_left (by omega)]; exact hc j hj⟩
  · rw [List.length_append] at hi
    have e1 : (ns ++ ms).getD i ndnil = ms.getD (i - ns.length) ndnil := by simp [List.getD, List.getElem?_append_right (Nat.le_of_not_lt hlt)]
    rw [e1]
    obtain ⟨a1, a2, a4, a5, a6, c1, c2, c4, c5, c6, hn, hc⟩ := h'.2 (i - ns.length) (by omega)
    refine ⟨a1, a2, a4, a5, a6, c1, c2, c4, c5, c6, hn, fun j hj => ?_⟩
    rw [List.getElem?_append_right (by omega), hl, show i * 7 + j - ns.length * 7 = (i - ns.length) * 7 + j by omega]
    exact hc j hj
/-- the cells of nodes in memory -/
theorem Nodes.vals {w : World} {a : Option Addr} {n c : Nat} {ns : List Nd} (h : Nodes w (.slice a n c) ns) (hn : ns.length = n) : ∃ xs, NVals w ns xs ∧ xs.length = n * 7 ∧ ∀ ad, a = some ad → ∀ j u, xs[j]? = some u → w.cell? (ad.add j) = some u := by
  subst hn
  obtain ⟨_, a', cap, e, h2⟩ := h
  cases e
  by_cases hp : 0 < ns.length
  · obtain ⟨b, off, rfl, hb, hc⟩ := h2 hp
    have key : ∀ i, i < ns.length → ∃ a1 a2 a4 a5 a6 c1 c2 c4 c5 c6, NdR w a1 a2 a4 a5 a6 c1 c2 c4 c5 c6 (ns.getD i ndnil) ∧ ∀ j, j < 7 → w.cell? ⟨b, off + (i * 7 + j), none⟩ = (row7 (ns.getD i ndnil) a1 a2 a4 a5 a6 c1 c2 c4 c5 c6)[j]? := fun i hi => by
      have hnd := hc i hi
      obtain ⟨a1, a2, a4, a5, a6, c1, c2, c4, c5, c6, hr, h1, h2, h4, h5, h6⟩ := hnd.slices
      refine ⟨a1, a2, a4, a5, a6, c1, c2, c4, c5, c6, hr, fun j hj => ?_⟩
      rw [← Nat.add_assoc]
      match j, hj with
      | 0, _ => exact hnd.op
      | 1, _ => exact h1
      | 2, _ => exact h2
      | 3, _ => exact hnd.no
      | 4, _ => exact h4
      | 5, _ => exact h5
      | 6, _ => exact h6
    have there : ∀ q, q < ns.length * 7 → ∃ u, w.cell? ⟨b, off + q, none⟩ = some u := fun q hq => by
      obtain ⟨a1, a2, a4, a5, a6, c1, c2, c4, c5, c6, _, hj⟩ := key (q / 7) (by omega)
      have h1 := hj (q % 7) (Nat.mod_lt _ (by decide))
      rw [show q / 7 * 7 + q % 7 = q by omega] at h1
      have h2 : q % 7 < (row7 (ns.getD (q / 7) ndnil) a1 a2 a4 a5 a6 c1 c2 c4 c5 c6).length := Nat.mod_lt _ (by decide)
      exact ⟨_, by rw [h1, List.getElem?_eq_getElem h2]⟩
    have at_ : ∀ q, q < ns.length * 7 → ((List.range (ns.length * 7)).map (fun q => (w.cell? ⟨b, off + q, none⟩).getD (.int .i64 0)))[q]? = w.cell? ⟨b, off + q, none⟩ := fun q hq => by
      obtain ⟨u, hu⟩ := there q hq
      rw [hu]
      simp [hq, hu]
    refine ⟨(List.range (ns.length * 7)).map (fun q => (w.cell? ⟨b, off + q, none⟩).getD (.int .i64 0)), ⟨by simp, fun i hi => ?_⟩, by simp, ?_⟩
    · obtain ⟨a1, a2, a4, a5, a6, c1, c2, c4, c5, c6, hr, hj⟩ := key i hi
      exact ⟨a1, a2, a4, a5, a6, c1, c2, c4, c5, c6, hr, fun j hj2 => by rw [at_ _ (by omega)]; exact hj j hj2⟩
    · rintro ad hz q u hq
      cases hz
      have hql : q < ns.length * 7 := by
        have := (List.getElem?_eq_some_iff.1 hq).1
        simpa using this
      rw [Go.WideShapes.add_plain, ← at_ q hql]
      exact hq
  · have e0 : ns = [] := List.eq_nil_of_length_eq_zero (by omega)
    subst e0
    exact ⟨[], NVals.nil w, rfl, fun ad _ j u hj => by simp at hj⟩
/-- a row of one's own that holds them -/
theorem own_nodes {w : World} {base n : Nat} {v : Value} {ns : List Nd} {xs : List Value} (h : w.ownsRow base 41 7 v n xs) (hv : NVals w ns xs) (hn : ns.length = n) (hr : n ≤ 1000000) : Nodes w v ns := by
  subst hn
  obtain ⟨hxl, ⟨h1, h2⟩ | ⟨g, cap, cur, rfl, _, hh, _, _, _, ht⟩⟩ := h
  · have e0 : ns = [] := List.eq_nil_of_length_eq_zero h2
    subst e0
    rw [h1]
    exact Nodes.nil w _ _
  · refine ⟨hr, _, _, rfl, fun hp => ⟨g, 0, rfl, lt_heap hh, fun i hi => ?_⟩⟩
    obtain ⟨a1, a2, a4, a5, a6, c1, c2, c4, c5, c6, hnr, hc⟩ := hv.2 i hi
    have cell : ∀ j, j < 7 → w.cell? ⟨g, 0 + i * 7 + j, none⟩ = (row7 (ns.getD i ndnil) a1 a2 a4 a5 a6 c1 c2 c4 c5 c6)[j]? := fun j hj => by
      rw [← hc j hj, Nat.zero_add]
      exact cell_take hh ht (by omega)
    exact hnr.at (cell 0 (by decide)) (cell 1 (by decide)) (cell 2 (by decide)) (cell 3 (by decide)) (cell 4 (by decide)) (cell 5 (by decide)) (cell 6 (by decide))

def leafC : List Value := [.int .i64 1, .slice none 0 0, .slice none 0 0, .int .i64 0, .slice none 0 0, .slice none 0 0, .slice none 0 0]
theorem leafC_vals (w : World) : NVals w [ndLf] leafC := by
  refine ⟨rfl, fun i hi => ?_⟩
  have e : i = 0 := by simpa using hi
  subst e
  refine ⟨none, none, none, none, none, 0, 0, 0, 0, 0, ⟨⟨by decide, by decide⟩, ⟨by decide, by decide⟩, Ints.nil w, Ints.nil w, Ints.nil w, Flts.nil w, Hooks.nil w none 0⟩, fun j _ => ?_⟩
  rw [Nat.zero_mul, Nat.zero_add]
  rfl
/-- the cells of i Leaf nodes -/
def leafs : Nat → List Value
  | 0 => []
  | i + 1 => leafs i ++ leafC
theorem leafs_vals (w : World) : ∀ i, NVals w (List.replicate i ndLf) (leafs i)
  | 0 => NVals.nil w
  | i + 1 => by
    rw [List.replicate_succ']
    exact (leafs_vals w i).append (leafC_vals w)

theorem GVals.set {w : World} {gs : List (List Nd)} {xs : List Value} (h : GVals w gs xs) {g c : Nat} {a : Option Addr} {ns : List Nd} (hn : Nodes w (.slice a ns.length c) ns) : GVals w (gs.set g ns) (xs.set g (.slice a ns.length c)) := by
  refine ⟨by simp [h.1], fun i hi => ?_⟩
  rw [List.length_set] at hi
  by_cases e : i = g
  · subst e
    have hx := h.1
    refine ⟨a, c, ?_, ?_⟩
    · simp [List.getD, hi, hx]
    · simpa [List.getD, hi] using hn
  · obtain ⟨a', c', e1, hn'⟩ := h.2 i hi
    have e2 : (gs.set g ns).getD i [] = gs.getD i [] := by simp [List.getD, Ne.symm e]
    rw [e2]
    exact ⟨a', c', by rw [List.getElem?_set_ne (Ne.symm e)]; exact e1, hn'⟩

/-- graph g of the list in block Bk has its nodes and i Leaf nodes more, in memory of its own -/
structure Wks (w wr : World) (Bk kk g len0 B1 B2 : Nat) (xs ys : List Value) (q kq nl i : Nat) : Prop where
  kp : Kp w wr
  row : wr.ownsRow B1 34 1 (.slice (some ⟨Bk, 0, none⟩) len0 kk) len0 (xs.set g (.slice (some ⟨q, 0, none⟩) (nl + i) kq))
  nod : wr.ownsRow B2 41 7 (.slice (some ⟨q, 0, none⟩) (nl + i) kq) (nl + i) (ys ++ leafs i)
  le : B2 ≤ wr.heap.size
theorem Wks.next {w wr w4 : World} {Bk kk g len0 B1 B2 : Nat} {xs ys : List Value} {q kq nl i q' kq' : Nat} (h : Wks w wr Bk kk g len0 B1 B2 xs ys q kq nl i) (hb : w.heap.size ≤ B1) (h1 : B1 ≤ Bk) (h2 : Bk < B2)
    (ho : w4.ownsRow B2 41 7 (.slice (some ⟨q', 0, none⟩) (nl + i + 1) kq') (nl + i + 1) (ys ++ leafs i ++ leafC)) (hg : (wr.alloc (.cells leafC.toArray 41)).grownBy w4 (some q)) :
    Wks w (w4.setCell ⟨Bk, g, none⟩ (.slice (some ⟨q', 0, none⟩) (nl + i + 1) kq')) Bk kk g len0 B1 B2 xs ys q' kq' nl (i + 1) := by
  have hq : B2 ≤ q := (h.nod.lt q rfl).1
  have hr := (h.row.alloc (.cells leafC.toArray 41)).kept hg (.inr (by simp only [Value.ownBlock]; intro e; have e := Option.some.inj e; omega))
  obtain ⟨s1, s2⟩ := hr.stored g (.slice (some ⟨q', 0, none⟩) (nl + i + 1) kq')
  rw [List.set_set] at s1
  have hk := (h.kp.trans (Kp.alloc wr (.cells leafC.toArray 41))).of_grown hg (fun k e => by cases e; omega)
  refine ⟨hk.of_grown s2 (fun k e => by cases e; omega), s1, ?_, ?_⟩
  · have := ownsRow_setCell_below ho (a := ⟨Bk, g, none⟩) h2 (.slice (some ⟨q', 0, none⟩) (nl + i + 1) kq')
    rw [List.append_assoc] at this
    exact this
  · have e1 := hg.size
    have e2 := s2.size
    have e3 := h.le
    rw [sz_alloc] at e1
    omega
theorem Wks.graphs {w wr : World} {Bk kk g len0 B1 B2 : Nat} {xs ys : List Value} {q kq nl i : Nat} {gs : List (List Nd)} (h : Wks w wr Bk kk g len0 B1 B2 xs ys q kq nl i) (_hg : g < gs.length) (hx : GVals w gs xs) (hy : NVals w (gs.getD g []) ys) (hl : gs.length = len0) (hn : (gs.getD g []).length = nl) (hr : nl + i ≤ 1000000) (hr2 : len0 ≤ 1000000) :
    Graphs wr (.slice (some ⟨Bk, 0, none⟩) len0 kk) (moreG gs g i) := by
  have hlen : (gs.getD g [] ++ List.replicate i ndLf).length = nl + i := by rw [List.length_append, List.length_replicate, hn]
  have h1 := own_nodes h.nod ((hy.keep h.kp).append (leafs_vals wr i)) hlen hr
  rw [← hlen] at h1
  have h2 := (hx.keep h.kp).set (g := g) h1
  rw [hlen] at h2
  exact own_graphs h.row h2 (by rw [← hl]; exact moreG_length gs g i) hr2

end Go.Proofs.Ytliddjpcbhdplaa
