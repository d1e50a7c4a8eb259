
/- Graphs that are being built out of Calls: a graph's nodes, the list of graphs; an append of a node in a drawn region. -/
import Derived.Test.YtliddjpcbhdplaaGrX
import Derived.Laws.OwnMore
namespace Go.Proofs.Ytliddjpcbhdplaa
open Go.RowKit

theorem infoNl : (Try.prog.info? 41).map (fun i => (i.zero, i.size, i.bytes)) = some (some (.agg #[.int .i64 0, .slice none 0 0, .slice none 0 0, .int .i64 0, .slice none 0 0, .slice none 0 0, .slice none 0 0]), 7, 136) := by kernel_rfl

theorem InA.mono {w : World} {lo lo' : Nat} {a : Option Addr} {xs : List Int} (h : InA w lo a xs) (hl : lo' ≤ lo) : InA w lo' a xs := by
  rcases h with h | ⟨b, e, hb, r⟩
  · exact .inl h
  · exact .inr ⟨b, e, Nat.le_trans hl hb, r⟩
theorem RowN.mono {w : World} {lo lo' : Nat} (hl : lo' ≤ lo) : ∀ {ns : List Nd} {xs : List Value}, RowN w lo ns xs → RowN w lo' ns xs
  | [], _, h => h
  | n :: ns, _, h => by
    obtain ⟨a, c, ys, e, h1, h2, h3, h4, h5, h6⟩ := h
    exact ⟨a, c, ys, e, h1.mono hl, h2, h3, h4, h5, h6.mono hl⟩
/-- the blocks from lo on are as they were, but for those of graphs -/
def Sg (lo : Nat) (w w' : World) : Prop := ∀ b cs t, lo ≤ b → t ≠ 34 → w.heap[b]? = some (.cells cs t) → w'.heap[b]? = some (.cells cs t)
theorem Sg.kp {lo : Nat} {w w' : World} (k : Kp w w') : Sg lo w w' := fun b cs t _ _ h => by rw [k.block b (lt_heap h)]; exact h
theorem Sg.sf {lo : Nat} {w w' : World} (k : Sg lo w w') : Sf lo w w' := fun b cs hb h => k b cs _ hb (by decide) h
theorem RowG.keepG {w w' : World} {lo : Nat} (k : Sg lo w w') : ∀ {gs : List (List Nd)} {xs : List Value}, RowG w lo gs xs → RowG w' lo gs xs
  | [], _, h => h
  | g :: gs, _, h => by
    obtain ⟨b, k', cur, ys, e, h1, h2, h3, h4, h5⟩ := h
    exact ⟨b, k', cur, ys, e, h1, h2, k b _ _ h1 (by decide) h3, h4.keep k.sf, h5.keepG k⟩
theorem RowG.append {w : World} {lo : Nat} : ∀ {gs hs : List (List Nd)} {xs ys : List Value}, RowG w lo gs xs → RowG w lo hs ys → RowG w lo (gs ++ hs) (xs ++ ys)
  | [], hs, xs, ys, h, h' => by rw [show xs = [] from h]; exact h'
  | g :: gs, hs, _, ys, h, h' => by
    obtain ⟨b, k', cur, zs, rfl, h1, h2, h3, h4, h5⟩ := h
    exact ⟨b, k', cur, zs ++ ys, rfl, h1, h2, h3, h4, h5.append h'⟩

theorem owns_kpL {w w' : World} {base e size n : Nat} {v : Value} {xs : List Value} (h : w.ownsRow base e size v n xs) (k : Kp w w') : w'.ownsRow base e size v n xs := by
  obtain ⟨h0, h | ⟨g, cap, cur, e1, hg, hh, r⟩⟩ := h
  · exact ⟨h0, .inl h⟩
  · exact ⟨h0, .inr ⟨g, cap, cur, e1, hg, by rw [k.block g (lt_heap hh)]; exact hh, r⟩⟩
/-- the list of graphs that is being built -/
structure LA (w1 wr : World) (v : Value) (gs : List (List Nd)) : Prop where
  kp : Kp w1 wr
  row : ∃ xs, wr.ownsRow w1.heap.size 34 1 v gs.length xs ∧ RowG wr w1.heap.size gs xs
theorem LA.nil (w1 : World) : LA w1 w1 (.slice none 0 0) [] := ⟨Kp.refl _, [], World.ownsRow_nil _ _ _ _, rfl⟩
theorem LA.grow {w1 wr wr' : World} {v : Value} {gs : List (List Nd)} (h : LA w1 wr v gs) (k : Kp wr wr') : LA w1 wr' v gs := by
  obtain ⟨xs, h1, h2⟩ := h.row
  exact ⟨h.kp.trans k, xs, owns_kpL h1 k, h2.keepG (Sg.kp k)⟩

/-- a graph that is being built: its nodes so far -/
structure Gbd (wS wr : World) (v : Value) (ns : List Nd) : Prop where
  kp : Kp wS wr
  box : wr.heap[wS.heap.size + 1]? = some (.cells #[v] 34)
  row : ∃ g c xs, v = .slice (some ⟨g, 0, none⟩) ns.length c ∧ wr.ownsRow wS.heap.size 41 7 v ns.length xs ∧ RowN wr wS.heap.size ns xs
  len : ns.length ≤ 1000

def leafL : List Value := [.int .i64 1, .slice none 0 0, .slice none 0 0, .int .i64 0, .slice none 0 0, .slice none 0 0, .slice none 0 0]
theorem gbd_start (wr : World) : Gbd wr ((wr.alloc (.cells leafL.toArray 41)).alloc (.cells #[.slice (some ⟨wr.heap.size, 0, none⟩) 1 1] 34)) (.slice (some ⟨wr.heap.size, 0, none⟩) 1 1) [ndLf] := by
  have h1 := heap_new (wr.alloc (.cells leafL.toArray 41)) (.cells #[.slice (some ⟨wr.heap.size, 0, none⟩) 1 1] 34) (wr.heap.size + 1) (by rw [sz_alloc])
  refine ⟨(Kp.alloc _ _).trans (Kp.alloc _ _), h1, ⟨wr.heap.size, 1, leafL, rfl, ⟨rfl, .inr ⟨wr.heap.size, 1, leafL.toArray, rfl, Nat.le_refl _, heap_old (heap_new wr _ _ rfl), Nat.le_refl _, by decide, rfl, rfl⟩⟩, ?_⟩, by decide⟩
  exact ⟨none, 0, [], rfl, .inl ⟨rfl, rfl⟩, fun _ => rfl, ⟨by decide, by decide⟩, ⟨by decide, by decide⟩, ⟨rfl, rfl, rfl, rfl⟩, rfl⟩
def ndCl2 (t : Int) : Nd := ⟨16, [0], [], t, [], [], []⟩
def callL (t : Int) (b : Nat) : List Value := [.int .i64 16, .slice (some ⟨b, 0, none⟩) 1 1, .slice none 0 0, .int .i64 t, .slice none 0 0, .slice none 0 0, .slice none 0 0]
theorem callL_one (t : Int) (b : Nat) : ∀ u ∈ callL t b, u.oneCell' = true := by
  intro u hu
  simp only [callL, List.mem_cons, List.not_mem_nil, or_false] at hu
  rcases hu with rfl | rfl | rfl | rfl | rfl | rfl | rfl <;> rfl
theorem gbd_ne {wS wr : World} {g n c : Nat} {xs : List Value} (h1 : wr.heap[wS.heap.size + 1]? = some (.cells #[.slice (some ⟨g, 0, none⟩) n c] 34)) (h2 : wr.ownsRow wS.heap.size 41 7 (.slice (some ⟨g, 0, none⟩) n c) n xs) : g ≠ wS.heap.size + 1 ∧ wS.heap.size ≤ g := by
  obtain ⟨_, ⟨e, _⟩ | ⟨q, cap, cur, e, hq, hh, _⟩⟩ := h2
  · cases e
  · cases e
    refine ⟨fun e => ?_, hq⟩
    rw [← e, hh] at h1
    simp at h1
/-- a Call more -/
theorem Gbd.more {wS wr wA w8 : World} {v v' : Value} {ns : List Nd} {g c b8 k8 X : Nat} {xs : List Value} {t : Int} (h : Gbd wS wr v ns) (hl : ns.length ≤ 900) (hv : v = .slice (some ⟨g, 0, none⟩) ns.length c) (hx : wr.ownsRow wS.heap.size 41 7 v ns.length xs) (hn : RowN wr wS.heap.size ns xs) (ht : I64 t)
    (kA : Kp wr wA) (hX : wr.heap.size ≤ X) (hXA : wA.heap[X]? = some (.cells #[.int .i64 0] 3)) (hv' : v' = .slice (some ⟨b8, 0, none⟩) (ns.length + 1) k8) (ho : w8.ownsRow wS.heap.size 41 7 v' (ns.length + 1) (xs ++ callL t X)) (hg : wA.grownBy w8 (some g)) :
    Gbd wS (w8.setCell ⟨wS.heap.size + 1, 0, none⟩ v') v' (ns ++ [ndCl2 t]) := by
  subst hv hv'
  obtain ⟨hne, hgS⟩ := gbd_ne h.box hx
  have hgr := hx.lt g rfl
  have hS := h.kp.size
  have hbl := lt_heap h.box
  have keep : ∀ {b : Nat} {o : Obj}, wA.heap[b]? = some o → b ≠ g → b ≠ wS.heap.size + 1 → (w8.setCell ⟨wS.heap.size + 1, 0, none⟩ (.slice (some ⟨b8, 0, none⟩) (ns.length + 1) k8)).heap[b]? = some o := fun {b o} hb h1 h2 => by
    rw [Below.heap_setCell w8 ⟨wS.heap.size + 1, 0, none⟩ _ b h2, hg.block b (lt_heap hb) (fun e => by cases e; exact h1 rfl)]
    exact hb
  have hbA : wA.heap[wS.heap.size + 1]? = some (.cells #[.slice (some ⟨g, 0, none⟩) ns.length c] 34) := by rw [kA.block _ hbl]; exact h.box
  have hbw : w8.heap[wS.heap.size + 1]? = some (.cells #[.slice (some ⟨g, 0, none⟩) ns.length c] 34) := by
    rw [hg.block _ (lt_heap hbA) (fun e => by cases e; exact hne rfl)]
    exact hbA
  have hlen : (ns ++ [ndCl2 t]).length = ns.length + 1 := by simp
  refine ⟨Kp.set (Kp.of_grown (h.kp.trans kA) hg (fun k e => by cases e; exact hgS)) (by omega) _, Boxed.set _ hbw, ?_, by rw [hlen]; omega⟩
  rw [hlen]
  refine ⟨b8, k8, xs ++ callL t X, rfl, ?_, ?_⟩
  · refine ownsRow_setCell_other ho ?_ _
    obtain ⟨_, ⟨e, _⟩ | ⟨q, cap, cur, e, hq, hh, _⟩⟩ := ho
    · cases e
    · cases e
      intro e
      have e2 : b8 = wS.heap.size + 1 := by simpa [Value.ownBlock] using e
      rw [e2, hbw] at hh
      simp at hh
  · refine RowN.append (hn.keep fun b cs hb hh => ?_) ?_
    · have hbA2 : wA.heap[b]? = some (.cells cs 3) := by rw [kA.block b (lt_heap hh)]; exact hh
      refine keep hbA2 (fun e => ?_) (fun e => ?_)
      · subst e
        obtain ⟨_, ⟨e, _⟩ | ⟨q, cap, cur, e, _, hq, _⟩⟩ := hx
        · cases e
        · cases e
          rw [hh] at hq
          simp at hq
      · subst e
        rw [h.box] at hh
        simp at hh
    · refine ⟨some ⟨X, 0, none⟩, 1, [], (List.append_nil _).symm, .inr ⟨X, rfl, by omega, keep hXA (by omega) (by omega), ?_, (show (1 : Nat) ≤ 1000 by decide)⟩, (fun e => by cases e), ⟨(show (-9223372036854775808 : Int) ≤ 16 by decide), (show (16 : Int) ≤ 9223372036854775807 by decide)⟩, ht, ⟨rfl, rfl, rfl, rfl⟩, rfl⟩
      intro x hx
      have hx2 : x ∈ ([0] : List Int) := hx
      simp only [List.mem_cons, List.not_mem_nil, or_false] at hx2
      subst hx2
      exact ⟨by decide, by decide⟩
/-- the graph is laid behind the others -/
theorem LA.more {w1 wS wr w8 : World} {v vl : Value} {ns : List Nd} {gs : List (List Nd)} {xs : List Value} {t : List Value} (hL : LA w1 wS vl gs) (h : Gbd wS wr v ns) (hx : wr.ownsRow w1.heap.size 34 1 vl gs.length xs) (hG : RowG wr w1.heap.size gs xs)
    {vl' : Value} (ht : t = [v]) (ho : w8.ownsRow w1.heap.size 34 1 vl' (gs.length + 1) (xs ++ t)) (hg : (wr.alloc (.cells #[v] 34)).grownBy w8 vl.ownBlock) : LA w1 w8 vl' (gs ++ [ns]) := by
  subst ht
  have hS := hL.kp.size
  have hrow : ∀ k, vl.ownBlock = some k → w1.heap.size ≤ k ∧ ∃ cur, wr.heap[k]? = some (.cells cur 34) := fun k hk => by
    obtain ⟨_, ⟨e, _⟩ | ⟨q, cap, cur, e, hq, hh, _⟩⟩ := hx
    · rw [e] at hk; cases hk
    · rw [e] at hk
      cases hk
      exact ⟨hq, cur, hh⟩
  have sg : Sg w1.heap.size wr w8 := fun b cs t hb hT hh => by
    rw [hg.block b (by rw [sz_alloc]; exact Nat.lt_succ_of_lt (lt_heap hh)) (fun e => ?_)]
    · exact heap_old hh
    · obtain ⟨_, cur, hc⟩ := hrow b e.symm
      rw [hh] at hc
      simp at hc
      exact hT hc.2
  refine ⟨(((hL.kp.trans h.kp)).trans (Kp.alloc _ _)).of_grown hg (fun k e => (hrow k e).1), xs ++ [v], ?_, (hG.keepG sg).append ?_⟩
  · have e : (gs ++ [ns]).length = gs.length + 1 := by simp
    rw [e]
    exact ho
  · obtain ⟨g, c, ys, rfl, h1, h2⟩ := h.row
    obtain ⟨_, ⟨e, _⟩ | ⟨q, cap, cur, e, hq, hh, _, _, _, hT⟩⟩ := h1
    · cases e
    · cases e
      refine ⟨g, c, cur, [], rfl, by omega, h.len, sg g _ _ (by omega) (by decide) hh, ?_, rfl⟩
      rw [hT]
      exact (h2.mono (by omega)).keep sg.sf
theorem LA.graphs {w1 wr : World} {v : Value} {gs : List (List Nd)} (h : LA w1 wr v gs) (hr : gs.length ≤ 1000000) : ∃ a c, v = .slice a gs.length c ∧ Graphs wr (.slice a gs.length c) gs := by
  obtain ⟨xs, ⟨_, ⟨rfl, h2⟩ | ⟨g, cap, cur, rfl, _, hh, _, _, _, ht⟩⟩, hG⟩ := h.row
  · have e0 : gs = [] := List.eq_nil_of_length_eq_zero h2
    subst e0
    exact ⟨none, 0, rfl, Graphs.nil wr _ _⟩
  · rw [Nat.mul_one] at ht
    exact ⟨_, cap, rfl, hG.graphs hh ht hr⟩

/-- 'append(g.L, node)' in a drawn region, where a box holds the row -/
theorem step_append_node {ops : Array Oper} {o : Oper} {a : Act} {w : World} {K : Act → World → Prop} {Q : Exit → Act → World → Prop} {E : Prop}
    (hg : o.guard = none) (s x : Operand) (hop : o.op = Op.call { callee := Callee.builtin Builtin.append, args := #[s, x], argTypes := #[32, 32] })
    (base g n c : Nat) (xs : List Value) (ad : Addr) (cs : List Value) (hs : a.eval s = .slice (some ⟨g, 0, none⟩) n c) (hx : a.eval x = .slice (some ad) 1 1) (hv : w.ownsRow base 41 7 (.slice (some ⟨g, 0, none⟩) n c) n xs) (hcs : cs.length = 1 * 7) (hc : ∀ j u, cs[j]? = some u → w.cell? (ad.add j) = some u) (h1 : ∀ u ∈ cs, u.oneCell' = true) (hroom : n + 1 ≤ 1000000) (hbase : base ≤ w.heap.size)
    (B : Nat) (hb : w.heap[B]? = some (.cells #[.slice (some ⟨g, 0, none⟩) n c] 34))
    (h : ∀ b k w', Hid (w'.ownsRow base 41 7 (.slice (some ⟨b, 0, none⟩) (n + 1) k) (n + 1) (xs ++ cs) ∧ w.grownBy w' (some g)) → w'.cell? ⟨B, 0, none⟩ = some (.slice (some ⟨g, 0, none⟩) n c) → w'.frozen? ⟨B, 0, none⟩ = false → K (a.put o.dst (.slice (some ⟨b, 0, none⟩) (n + 1) k)) w') :
    if Region.wanted o (yielded ops a.tmps) = true then Oper.wp Try.prog o a w K Q else E := by
  have hw : Region.wanted o (yielded ops a.tmps) = true := by simp [Region.wanted, hg]
  rw [if_pos hw]
  obtain ⟨i0, hi, hz0, hz1, hz2⟩ := info_parts infoNl
  refine wp_append_own w s x 32 hop base 41 i0 _ 7 136 Try.underlying32 hi hz0 hz1 hz2 rfl (by decide) _ n xs hs hv ad 1 1 cs hx hcs hc h1 (by simp only [maxLen]; omega) (by omega) hbase ?_
  intro v' w' h2 h3 h4
  have hv' : ∃ b k, v' = .slice (some ⟨b, 0, none⟩) (n + 1) k := by
    obtain ⟨_, ⟨e1, _⟩ | ⟨q, cap, cur, e1, _⟩⟩ := h2
    · exact absurd ((h4.1 e1).1) (by simp)
    · exact ⟨q, cap, e1⟩
  obtain ⟨b, k, rfl⟩ := hv'
  have hne : g ≠ B := fun e => by
    subst e
    obtain ⟨_, ⟨e1, _⟩ | ⟨q, cap, cur, e1, _, hq, _⟩⟩ := hv
    · cases e1
    · cases e1
      rw [hb] at hq
      simp at hq
  have hb' : w'.heap[B]? = some (.cells #[.slice (some ⟨g, 0, none⟩) n c] 34) := by
    rw [h3.block B (lt_heap hb) (fun e => by simp [Value.ownBlock] at e; exact hne e.symm)]
    exact hb
  have hB : Boxed w' B 34 (.slice (some ⟨g, 0, none⟩) n c) := hb'
  exact h b k w' ⟨h2, h3⟩ hB.cell hB.frozen

end Go.Proofs.Ytliddjpcbhdplaa
