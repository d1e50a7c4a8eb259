
/- Rows of nodes, graphs that are being built: what lies where. -/
import Derived.Test.YtliddjpcbhdplaaGrM
namespace Go.Proofs.Ytliddjpcbhdplaa
open Go.RowKit

/-- the rows of ints from block lo on are as they were -/
def Sf (lo : Nat) (w w' : World) : Prop := ∀ b cs, lo ≤ b → w.heap[b]? = some (.cells cs 3) → w'.heap[b]? = some (.cells cs 3)
theorem Sf.kp {lo : Nat} {w w' : World} (k : Kp w w') : Sf lo w w' := fun b cs _ h => by rw [k.block b (lt_heap h)]; exact h
theorem Sf.grown {lo : Nat} {w w' : World} {row : Option Nat} (g : w.grownBy w' row) (h : ∀ k, row = some k → k < lo ∨ ∃ cur t, w.heap[k]? = some (.cells cur t) ∧ t ≠ 3) : Sf lo w w' := fun b cs hb hh => by
  have hne : some b ≠ row := by
    intro e
    rcases h b e.symm with h1 | ⟨cur, t, h1, h2⟩
    · omega
    · rw [hh] at h1
      simp at h1
      exact h2 h1.2.symm
  rw [g.block b (lt_heap hh) (fun e => by first | exact hne e | exact hne e.symm)]
  exact hh

/-- the cells of one node, of those with no more than inputs -/
def nC (n : Nd) (a : Option Addr) (c : Nat) : List Value := [.int .i64 n.op, .slice a n.inn.length c, .slice none 0 0, .int .i64 n.no, .slice none 0 0, .slice none 0 0, .slice none 0 0]
def InA (w : World) (lo : Nat) (a : Option Addr) (xs : List Int) : Prop := (xs = [] ∧ a = none) ∨ (∃ b, a = some ⟨b, 0, none⟩ ∧ lo ≤ b ∧ w.heap[b]? = some (.cells (xs.map (Value.int .i64)).toArray 3) ∧ (∀ x ∈ xs, I64 x) ∧ xs.length ≤ 1000)
/-- a row of nodes, by its cells -/
def RowN (w : World) (lo : Nat) : List Nd → List Value → Prop
  | [], xs => xs = []
  | n :: ns, xs => ∃ a c ys, xs = nC n a c ++ ys ∧ InA w lo a n.inn ∧ (a = none → c = 0) ∧ I64 n.op ∧ I64 n.no ∧ (n.tt = [] ∧ n.s = [] ∧ n.d = [] ∧ n.hk = []) ∧ RowN w lo ns ys
theorem InA.keep {w w' : World} {lo : Nat} {a : Option Addr} {xs : List Int} (h : InA w lo a xs) (k : Sf lo w w') : InA w' lo a xs := by
  rcases h with h | ⟨b, e, hb, hh, r⟩
  · exact .inl h
  · exact .inr ⟨b, e, hb, k b _ hb hh, r⟩
theorem InA.ints {w : World} {lo c : Nat} {a : Option Addr} {xs : List Int} (h : InA w lo a xs) (hc : a = none → c = 0) : Ints w (.slice a xs.length c) xs := by
  rcases h with ⟨rfl, rfl⟩ | ⟨b, rfl, hb, hh, h1, h2⟩
  · rw [hc rfl]; exact Ints.nil w
  · exact Blk.ints (e := 3) hh rfl h1 (by omega)
theorem RowN.length {w : World} {lo : Nat} : ∀ {ns : List Nd} {xs : List Value}, RowN w lo ns xs → xs.length = ns.length * 7
  | [], _, h => by rw [show _ = [] from h]; rfl
  | n :: ns, _, h => by
    obtain ⟨a, c, ys, rfl, _, _, _, _, _, h⟩ := h
    rw [List.length_append, h.length, List.length_cons]
    show 7 + _ = _
    omega
theorem RowN.keep {w w' : World} {lo : Nat} (k : Sf lo w w') : ∀ {ns : List Nd} {xs : List Value}, RowN w lo ns xs → RowN w' lo ns xs
  | [], _, h => h
  | n :: ns, _, h => by
    obtain ⟨a, c, ys, e, h1, h2, h3, h4, h5, h6⟩ := h
    exact ⟨a, c, ys, e, h1.keep k, h2, h3, h4, h5, h6.keep k⟩
theorem RowN.append {w : World} {lo : Nat} : ∀ {ns ms : List Nd} {xs ys : List Value}, RowN w lo ns xs → RowN w lo ms ys → RowN w lo (ns ++ ms) (xs ++ ys)
  | [], ms, xs, ys, h, h' => by rw [show xs = [] from h]; exact h'
  | n :: ns, ms, _, ys, h, h' => by
    obtain ⟨a, c, zs, rfl, h1, h2, h3, h4, h5, h6⟩ := h
    exact ⟨a, c, zs ++ ys, by rw [List.append_assoc], h1, h2, h3, h4, h5, h6.append h'⟩
theorem RowN.at {w : World} {lo : Nat} : ∀ {ns : List Nd} {xs : List Value}, RowN w lo ns xs → ∀ i, i < ns.length → ∃ a c, (∀ j, j < 7 → xs[i * 7 + j]? = (nC (ns.getD i ndnil) a c)[j]?) ∧ InA w lo a (ns.getD i ndnil).inn ∧ (a = none → c = 0) ∧ I64 (ns.getD i ndnil).op ∧ I64 (ns.getD i ndnil).no ∧
    ((ns.getD i ndnil).tt = [] ∧ (ns.getD i ndnil).s = [] ∧ (ns.getD i ndnil).d = [] ∧ (ns.getD i ndnil).hk = [])
  | [], _, _, i, hi => absurd hi (by simp)
  | n :: ns, _, h, i, hi => by
    obtain ⟨a, c, ys, rfl, h1, h2, h3, h4, h5, h6⟩ := h
    cases i with
    | zero =>
      refine ⟨a, c, fun j hj => ?_, h1, h2, h3, h4, h5⟩
      rw [Nat.zero_mul, Nat.zero_add]
      exact List.getElem?_append_left hj
    | succ i =>
      obtain ⟨a', c', g, r⟩ := h6.at i (by simpa using hi)
      refine ⟨a', c', fun j hj => ?_, r⟩
      rw [show (i + 1) * 7 + j = 7 + (i * 7 + j) by omega, List.getElem?_append_right (by show 7 ≤ _; omega)]
      show ys[7 + (i * 7 + j) - 7]? = _
      rw [show 7 + (i * 7 + j) - 7 = i * 7 + j by omega]
      exact g j hj
theorem cell_take {w : World} {b : Nat} {cur : Array Value} {t : TypeId} {m : Nat} {xs : List Value} (h : w.heap[b]? = some (.cells cur t)) (ht : cur.toList.take m = xs) {i : Nat} (hi : i < m) : w.cell? ⟨b, i, none⟩ = xs[i]? := by
  rw [Blk.cells h, ← ht, List.getElem?_take, if_pos hi, Array.getElem?_toList]
theorem RowN.nodes {w : World} {lo b c : Nat} {cur : Array Value} {ns : List Nd} {xs : List Value} (h : RowN w lo ns xs) (hh : w.heap[b]? = some (.cells cur 41)) (ht : cur.toList.take (ns.length * 7) = xs) (hr : ns.length ≤ 1000000) : Nodes w (.slice (some ⟨b, 0, none⟩) ns.length c) ns := by
  refine nodes_blk (lt_heap hh) rfl hr fun i hi => ?_
  obtain ⟨a, c, g, h1, h2, h3, h4, h5, h6, h7, h8⟩ := h.at i hi
  have cc : ∀ j, j < 7 → w.cell? ⟨b, i * 7 + j, none⟩ = (nC (ns.getD i ndnil) a c)[j]? := fun j hj => by rw [cell_take hh ht (by omega), g j hj]
  exact ⟨h3, h4, cc 0 (by omega), cc 3 (by omega), ⟨a, c, cc 1 (by omega), h1.ints h2⟩, ⟨none, 0, by rw [h5]; exact cc 2 (by omega), by rw [h5]; exact Ints.nil w⟩, ⟨none, 0, by rw [h6]; exact cc 4 (by omega), by rw [h6]; exact Ints.nil w⟩,
    ⟨none, 0, by rw [h7]; exact cc 5 (by omega), by rw [h7]; exact Flts.nil w⟩, ⟨none, 0, by rw [h8]; exact cc 6 (by omega), by rw [h8]; exact Hooks.nil w none 0⟩⟩

/-- a row of graphs, by its cells -/
def RowG (w : World) (lo : Nat) : List (List Nd) → List Value → Prop
  | [], xs => xs = []
  | g :: gs, xs => ∃ b k cur ys, xs = .slice (some ⟨b, 0, none⟩) g.length k :: ys ∧ lo ≤ b ∧ g.length ≤ 1000 ∧ w.heap[b]? = some (.cells cur 41) ∧ RowN w lo g (cur.toList.take (g.length * 7)) ∧ RowG w lo gs ys
theorem RowG.length {w : World} {lo : Nat} : ∀ {gs : List (List Nd)} {xs : List Value}, RowG w lo gs xs → xs.length = gs.length
  | [], _, h => by rw [show _ = [] from h]; rfl
  | g :: gs, _, h => by
    obtain ⟨b, k, cur, ys, rfl, _, _, _, _, h⟩ := h
    rw [List.length_cons, h.length, List.length_cons]
theorem RowG.keep {w w' : World} {lo wb : Nat} (k : Kx wb w w') (hl : wb < lo) : ∀ {gs : List (List Nd)} {xs : List Value}, RowG w lo gs xs → RowG w' lo gs xs
  | [], _, h => h
  | g :: gs, _, h => by
    obtain ⟨b, k', cur, ys, e, h1, h2, h3, h4, h5⟩ := h
    refine ⟨b, k', cur, ys, e, h1, h2, ?_, h4.keep (Sf.grown (row := some wb) k (fun k e => by cases e; exact .inl hl)), h5.keep k hl⟩
    rw [k.block b (lt_heap h3) (fun e => by cases e; omega)]
    exact h3
theorem RowG.at {w : World} {lo : Nat} : ∀ {gs : List (List Nd)} {xs : List Value}, RowG w lo gs xs → ∀ i, i < gs.length → ∃ a k, xs[i]? = some (.slice a (gs.getD i []).length k) ∧ Nodes w (.slice a (gs.getD i []).length k) (gs.getD i [])
  | [], _, _, i, hi => absurd hi (by simp)
  | g :: gs, _, h, i, hi => by
    obtain ⟨b, k, cur, ys, rfl, h1, h2, h3, h4, h5⟩ := h
    cases i with
    | zero => exact ⟨_, k, rfl, h4.nodes h3 rfl (Nat.le_trans h2 (by omega))⟩
    | succ i => exact h5.at i (by simpa using hi)
theorem RowG.one {w : World} {lo : Nat} : ∀ {gs : List (List Nd)} {xs : List Value}, RowG w lo gs xs → ∀ u ∈ xs, u.oneCell' = true
  | [], _, h, u, hu => by rw [show _ = [] from h] at hu; cases hu
  | g :: gs, _, h, u, hu => by
    obtain ⟨b, k, cur, ys, rfl, _, _, _, _, h⟩ := h
    rcases List.mem_cons.1 hu with rfl | hu
    · rfl
    · exact h.one u hu
/-- the slice of graphs -/
theorem RowG.graphs {w : World} {lo b c : Nat} {cur : Array Value} {t : TypeId} {gs : List (List Nd)} {xs : List Value} (h : RowG w lo gs xs) (hh : w.heap[b]? = some (.cells cur t)) (ht : cur.toList.take gs.length = xs) (hr : gs.length ≤ 1000000) : Graphs w (.slice (some ⟨b, 0, none⟩) gs.length c) gs := by
  refine graphs_blk (lt_heap hh) rfl hr fun i hi => ?_
  obtain ⟨a, k, g, hn⟩ := h.at i hi
  exact ⟨a, k, by rw [cell_take hh ht hi, g], hn⟩

end Go.Proofs.Ytliddjpcbhdplaa
