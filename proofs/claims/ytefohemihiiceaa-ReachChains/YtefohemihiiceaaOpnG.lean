
/- A slice of graphs as an argument: how it came in. -/
import Derived.Test.YtefohemihiiceaaOpnR
import Derived.Test.YtefohemihiiceaaOpnH
namespace Go.Proofs.Ytefohemihiiceaa
open Go.RowKit Go.ChangeShapes

/-- seven cells that are a node -/
def InNode (w : World) (vs : Nat → Value) : Prop :=
  ∃ op no a1 l1 c1 z1 a2 l2 c2 z2 a4 l4 c4 z4 a5 l5 c5 z5 a6 l6 c6, I64 op ∧ I64 no ∧ vs 0 = .int .i64 op ∧ vs 1 = .slice a1 l1 c1 ∧ vs 2 = .slice a2 l2 c2 ∧ vs 3 = .int .i64 no ∧ vs 4 = .slice a4 l4 c4 ∧ vs 5 = .slice a5 l5 c5 ∧ vs 6 = .slice a6 l6 c6 ∧
    InRowK .i64 w a1 l1 c1 z1 ∧ InRowK .i64 w a2 l2 c2 z2 ∧ InRowK .i64 w a4 l4 c4 z4 ∧ InRowF w a5 l5 c5 z5 ∧ InHooks w a6 l6 c6
def InNodes (w : World) (a : Option Addr) (len cap : Nat) : Prop :=
  (a = none ∧ len = 0 ∧ cap = 0) ∨
  ∃ x, a = some x ∧ len ≤ cap ∧ cap ≤ maxLen ∧ (0 < len → ∃ b off, x = ⟨b, off, none⟩ ∧ b < w.heap.size ∧ ∀ i, i < len → ∃ vs : Nat → Value, (∀ j, j < 7 → w.cell? ⟨b, off + (i * 7 + j), none⟩ = some (vs j)) ∧ InNode w vs)
def InGraphs (w : World) (a : Option Addr) (len cap : Nat) : Prop :=
  (a = none ∧ len = 0 ∧ cap = 0) ∨
  ∃ x, a = some x ∧ len ≤ cap ∧ cap ≤ maxLen ∧ (0 < len → ∃ b off, x = ⟨b, off, none⟩ ∧ b < w.heap.size ∧ ∀ i, i < len → ∃ a' l' c', w.cell? ⟨b, off + i, none⟩ = some (.slice a' l' c') ∧ InNodes w a' l' c')

theorem open_row {H : Type} {enc : TypeId × Value → H} {w : World} {base n : Nat} {spare : Nat → Bool} {v : Value} {x : DataW H × List MemPlace} (hsp : ∀ b, spare b = true) (h : DataW.trod enc Try.prog w base spare true n 32 [v] = some x) : ∃ a l c z, v = .slice a l c ∧ InRowK .i64 w a l c z := by
  rcases open_ints Try.underlying32 Try.underlying3 (by kernel_rfl) h with ⟨hcs, _⟩ | ⟨x, l, c, zs, hcs, _, hl, hm, hz, _, hcell, hwz⟩
  · simp at hcs
    exact ⟨none, 0, 0, [], hcs, .inl ⟨rfl, rfl, rfl, rfl⟩⟩
  · simp at hcs
    rw [hsp, if_pos rfl] at hz
    exact ⟨some x, l, c, zs, hcs, .inr ⟨_, rfl, hl, hm, hz, hcell, hwz⟩⟩
theorem open_rowF {H : Type} {enc : TypeId × Value → H} {w : World} {base n : Nat} {spare : Nat → Bool} {v : Value} {x : DataW H × List MemPlace} (hsp : ∀ b, spare b = true) (h : DataW.trod enc Try.prog w base spare true n 42 [v] = some x) : ∃ a l c z, v = .slice a l c ∧ InRowF w a l c z := by
  rcases open_flts Try.underlying42 Try.underlying71 (by kernel_rfl) hsp h with hcs | ⟨x, l, c, zs, hcs, hl, hm, hz, hcell, hwz⟩
  · simp at hcs
    exact ⟨none, 0, 0, [], hcs, .inl ⟨rfl, rfl, rfl, rfl⟩⟩
  · simp at hcs
    exact ⟨some x, l, c, zs, hcs, .inr ⟨_, rfl, hl, hm, hz, hcell, hwz⟩⟩
theorem open_hks {H : Type} {enc : TypeId × Value → H} {w : World} {base n : Nat} {spare : Nat → Bool} {v : Value} {x : DataW H × List MemPlace} (hsp : ∀ b, spare b = true) (h : DataW.trod enc Try.prog w base spare true n 45 [v] = some x) : ∃ a l c, v = .slice a l c ∧ InHooks w a l c := by
  have key : ∃ a l c, v = .slice a l c := by
    rcases Go.Deep.open_slice Try.underlying45 h with ⟨hcs, _⟩ | ⟨ad, l, c, m, n, D, Pl, hcs, _⟩
    · exact ⟨_, _, _, by simpa using hcs⟩
    · exact ⟨_, _, _, by simpa using hcs⟩
  obtain ⟨a, l, c, rfl⟩ := key
  exact ⟨a, l, c, rfl, open_hooks Try.underlying45 Try.underlying73 rfl rfl Try.underlying3 Try.underlying71 (by kernel_rfl) hsp (by simpa [Value.cells] using h)⟩
theorem open_num {H : Type} {enc : TypeId × Value → H} {w : World} {base n : Nat} {spare : Nat → Bool} {v : Value} {x : DataW H × List MemPlace} (h : DataW.trod enc Try.prog w base spare true n 3 [v] = some x) : ∃ z, v = .int .i64 z ∧ I64 z := by
  obtain ⟨z, e0, _, hz⟩ := DataW.trod_int Try.underlying3 h
  simp only [List.cons.injEq, and_true] at e0
  exact ⟨z, e0, wf_i64 hz⟩
theorem cellsNode : (Try.prog.cellsOf 47, Try.prog.cellsOf 3, Try.prog.cellsOf 32, Try.prog.cellsOf 44, Try.prog.cellsOf 45, Try.prog.cellsOf 42, Try.prog.cellsOf 24, Try.prog.cellsOf 22) = (7, 1, 1, 2, 1, 1, 1, 1) := by kernel_rfl

theorem open_node {H : Type} {enc : TypeId × Value → H} {w : World} {base n : Nat} {spare : Nat → Bool} {v0 v1 v2 v3 v4 v5 v6 : Value} {x : DataW H × List MemPlace} (hsp : ∀ b, spare b = true) (h : DataW.trod enc Try.prog w base spare true n 47 [v0, v1, v2, v3, v4, v5, v6] = some x) :
    ∃ op no a1 l1 c1 z1 a2 l2 c2 z2 a4 l4 c4 z4 a5 l5 c5 z5 a6 l6 c6, I64 op ∧ I64 no ∧ v0 = .int .i64 op ∧ v1 = .slice a1 l1 c1 ∧ v2 = .slice a2 l2 c2 ∧ v3 = .int .i64 no ∧ v4 = .slice a4 l4 c4 ∧ v5 = .slice a5 l5 c5 ∧ v6 = .slice a6 l6 c6 ∧
      InRowK .i64 w a1 l1 c1 z1 ∧ InRowK .i64 w a2 l2 c2 z2 ∧ InRowK .i64 w a4 l4 c4 z4 ∧ InRowF w a5 l5 c5 z5 ∧ InHooks w a6 l6 c6 := by
  have hc := cellsNode
  simp only [Prod.mk.injEq] at hc
  obtain ⟨_, hc1, hc2, hc3, hc4, hc5, _⟩ := hc
  obtain ⟨xs, k, hk, hxy, _, hxl, hf⟩ := DataW.trod_struct Try.underlying47 h
  match xs, hxl with
  | [y0, y1, y2, y3, y4, y5], _ =>
    have g0 := hf 0 _ rfl
    have g1 := hf 1 _ rfl
    have g2 := hf 2 _ rfl
    have g3 := hf 3 _ rfl
    have g4 := hf 4 _ rfl
    have g5 := hf 5 _ rfl
    simp [hc1, hc2, hc3, hc4] at g0 g1 g2 g3 g4 g5
    obtain ⟨z0, rfl, i0⟩ := open_num g0
    obtain ⟨a1, l1, c1, z1, rfl, i1⟩ := open_row hsp g1
    obtain ⟨a2, l2, c2, z2, rfl, i2⟩ := open_row hsp g2
    obtain ⟨z3, rfl, i3⟩ := open_num g3
    obtain ⟨a6, l6, c6, rfl, i6⟩ := open_hks hsp g5
    obtain ⟨ts, k4, hk4, _, _, htl, ht⟩ := DataW.trod_struct Try.underlying44 g4
    match ts, htl with
    | [t0, t1], _ =>
      have s0 := ht 0 _ rfl
      have s1 := ht 1 _ rfl
      simp [hc2, hc5] at s0 s1
      obtain ⟨a4, l4, c4, z4, rfl, i4⟩ := open_row hsp s0
      obtain ⟨a5, l5, c5, z5, rfl, i5⟩ := open_rowF hsp s1
      exact ⟨z0, z3, a1, l1, c1, z1, a2, l2, c2, z2, a4, l4, c4, z4, a5, l5, c5, z5, a6, l6, c6, i0, i3, rfl, rfl, rfl, rfl, rfl, rfl, rfl, i1, i2, i4, i5, i6⟩

theorem open_nodes {H : Type} {enc : TypeId × Value → H} {w : World} {base fuel : Nat} {spare : Nat → Bool} {v : Value} {x : DataW H × List MemPlace} (hsp : ∀ b, spare b = true) (h : DataW.trod enc Try.prog w base spare true fuel 22 [v] = some x) : ∃ a len cap, v = .slice a len cap ∧ InNodes w a len cap := by
  have hc := cellsNode
  simp only [Prod.mk.injEq] at hc
  rcases Go.Deep.open_slice Try.underlying22 h with ⟨hcs, _⟩ | ⟨ad, l, c, m, n, D, Pl, hcs, hb, hl, hm, hmm, _, hx⟩
  · simp at hcs
    exact ⟨none, 0, 0, hcs, .inl ⟨rfl, rfl, rfl⟩⟩
  · simp at hcs
    refine ⟨_, _, _, hcs, .inr ⟨ad, rfl, hl, hm, fun hp => ?_⟩⟩
    rw [hsp, if_pos rfl] at hmm
    subst hmm
    rw [hc.1] at hx
    have each : ∀ i, i < l → ∃ vs : Nat → Value, (∀ j, j < 7 → w.cell? (ad.add (i * 7 + j)) = some (vs j)) ∧ InNode w vs := by
      intro i hi
      obtain ⟨cs', h1, h2⟩ := hx i (by omega)
      obtain ⟨_, hlen, hcell⟩ := World.cells?_some h1
      match cs', hlen with
      | [v0, v1, v2, v3, v4, v5, v6], _ =>
        refine ⟨fun j => ([v0, v1, v2, v3, v4, v5, v6] : List Value).getD j (.int .i64 0), fun j hj => ?_, open_node hsp h2⟩
        have e := hcell j hj
        rw [Go.Deep.add_add] at e
        rw [e]
        match j, hj with
        | 0, _ => rfl
        | 1, _ => rfl
        | 2, _ => rfl
        | 3, _ => rfl
        | 4, _ => rfl
        | 5, _ => rfl
        | 6, _ => rfl
    obtain ⟨vs0, g0, _⟩ := each 0 hp
    obtain ⟨b, off, rfl, hblt, _⟩ := cells_at (n := 1) (f := fun _ => vs0 0) (x := ad) (fun i (hi : i < 1) => by
      obtain rfl : i = 0 := by omega
      simpa using g0 0 (by omega)) (by omega)
    refine ⟨b, off, rfl, hblt, fun i hi => ?_⟩
    obtain ⟨vs, hv, hin⟩ := each i hi
    refine ⟨vs, fun j hj => ?_, hin⟩
    have := hv j hj
    rw [Go.WideShapes.add_plain] at this
    exact this

theorem open_graphs {H : Type} {enc : TypeId × Value → H} {w : World} {base fuel : Nat} {spare : Nat → Bool} {a : Option Addr} {len cap : Nat} {x : DataW H × List MemPlace} (hsp : ∀ b, spare b = true) (h : DataW.trod enc Try.prog w base spare true fuel 27 (Value.slice a len cap).cells.toList = some x) : InGraphs w a len cap := by
  have hc := cellsNode
  simp only [Prod.mk.injEq] at hc
  obtain ⟨_, _, _, _, _, _, hcg, hcn⟩ := hc
  rcases Go.Deep.open_slice1 Try.underlying27 hcg h with ⟨hcs, _⟩ | ⟨ad, l, c, m, n, V, D, Pl, hcs, hb, hl, hm, hmm, _, hx⟩
  · simp [Value.cells] at hcs
    obtain ⟨rfl, rfl, rfl⟩ := hcs
    exact .inl ⟨rfl, rfl, rfl⟩
  · simp [Value.cells] at hcs
    obtain ⟨rfl, rfl, rfl⟩ := hcs
    rw [hsp, if_pos rfl] at hmm
    subst hmm
    refine .inr ⟨ad, rfl, hl, hm, fun hp => ?_⟩
    obtain ⟨b, off, rfl, hblt, hcell⟩ := cells_at (f := V) (fun i (hi : i < len) => (hx i (by omega)).1) hp
    refine ⟨b, off, rfl, hblt, fun i hi => ?_⟩
    obtain ⟨y0, k, _, _, g⟩ := trod_struct1 Try.underlying24 (hx i (by omega)).2
    simp [hcn] at g
    obtain ⟨a', l', c', e, hin⟩ := open_nodes hsp g
    exact ⟨a', l', c', by rw [hcell i hi, e], hin⟩

/-- nodes whose rows are not long: as the walks want them -/
theorem InNodes.nodes {w : World} {a : Option Addr} {len cap : Nat} (h : InNodes w a len cap) (hl : len ≤ 100000) (hs : ∀ b off, a = some ⟨b, off, none⟩ → ∀ i j, i < len → j < 7 → ∀ a' l' c', w.cell? ⟨b, off + (i * 7 + j), none⟩ = some (.slice a' l' c') → l' ≤ 100000) : ∃ ns : List Nd, ns.length = len ∧ Nodes w (.slice a len cap) ns := by
  rcases h with ⟨rfl, rfl, rfl⟩ | ⟨x, rfl, h1, h2, h3⟩
  · exact ⟨[], rfl, Nodes.nil w none 0⟩
  · by_cases hp : 0 < len
    · obtain ⟨b, off, rfl, hb, hc⟩ := h3 hp
      have key : ∀ n, n ≤ len → ∃ ns : List Nd, ns.length = n ∧ ∀ i, i < n → NdAt w b (off + i * 7) (ns.getD i ndnil) := by
        intro n
        induction n with
        | zero => exact fun _ => ⟨[], rfl, fun i hi => absurd hi (Nat.not_lt_zero _)⟩
        | succ n ih =>
          intro hn
          obtain ⟨ns, hns, hi⟩ := ih (by omega)
          obtain ⟨vs, hv, op, no, a1, l1, c1, z1, a2, l2, c2, z2, a4, l4, c4, z4, a5, l5, c5, z5, a6, l6, c6, io, ino, e0, e1, e2, e3, e4, e5, e6, r1, r2, r4, r5, r6⟩ := hc n (by omega)
          have g : ∀ j, j < 7 → w.cell? ⟨b, off + n * 7 + j, none⟩ = some (vs j) := fun j hj => by rw [Nat.add_assoc]; exact hv j hj
          have b1 := hs b off rfl n 1 (by omega) (by omega) a1 l1 c1 (by rw [hv 1 (by omega), e1])
          have b2 := hs b off rfl n 2 (by omega) (by omega) a2 l2 c2 (by rw [hv 2 (by omega), e2])
          have b4 := hs b off rfl n 4 (by omega) (by omega) a4 l4 c4 (by rw [hv 4 (by omega), e4])
          have b5 := hs b off rfl n 5 (by omega) (by omega) a5 l5 c5 (by rw [hv 5 (by omega), e5])
          have b6 := hs b off rfl n 6 (by omega) (by omega) a6 l6 c6 (by rw [hv 6 (by omega), e6])
          obtain ⟨hk, hkl, hkr⟩ := r6.hooks (by omega)
          have f5 := r5.flts (by omega)
          have q5 := r5.len
          refine ⟨ns ++ [(⟨op, z1.take l1, z2.take l2, no, z4.take l4, z5.take l5, hk⟩ : Nd)], by simp [hns], fun i hi2 => ?_⟩
          by_cases e : i = n
          · subst e
            have eg : (ns ++ [(⟨op, z1.take l1, z2.take l2, no, z4.take l4, z5.take l5, hk⟩ : Nd)]).getD i ndnil = (⟨op, z1.take l1, z2.take l2, no, z4.take l4, z5.take l5, hk⟩ : Nd) := by simp [List.getD, ← hns]
            rw [eg]
            refine ⟨io, ino, by rw [← e0]; exact g 0 (by omega), by rw [← e3]; exact g 3 (by omega), ⟨a1, c1, ?_, ?_⟩, ⟨a2, c2, ?_, ?_⟩, ⟨a4, c4, ?_, ?_⟩, ⟨a5, c5, ?_, ?_⟩, ⟨a6, c6, ?_, ?_⟩⟩
            · rw [r1.len, ← e1]; exact g 1 (by omega)
            · rw [r1.len]; exact r1.ints (by omega)
            · rw [r2.len, ← e2]; exact g 2 (by omega)
            · rw [r2.len]; exact r2.ints (by omega)
            · rw [r4.len, ← e4]; exact g 4 (by omega)
            · rw [r4.len]; exact r4.ints (by omega)
            · rw [q5, ← e5]; exact g 5 (by omega)
            · rw [q5]; exact f5
            · rw [hkl, ← e6]; exact g 6 (by omega)
            · rw [hkl]; exact hkr
          · have eg : (ns ++ [(⟨op, z1.take l1, z2.take l2, no, z4.take l4, z5.take l5, hk⟩ : Nd)]).getD i ndnil = ns.getD i ndnil := by
              have : i < ns.length := by omega
              simp [List.getD, List.getElem?_append_left this]
            rw [eg]
            exact hi i (by omega)
      obtain ⟨ns, hns, hi⟩ := key len (Nat.le_refl _)
      exact ⟨ns, hns, by rw [hns]; omega, some ⟨b, off, none⟩, cap, by rw [hns], fun _ => ⟨b, off, rfl, hb, fun i hi2 => hi i (by omega)⟩⟩
    · obtain rfl : len = 0 := by omega
      exact ⟨[], rfl, Nodes.nil w _ _⟩

/-- graphs whose rows are not long: as the walks want them -/
theorem InGraphs.graphs {w : World} {a : Option Addr} {len cap : Nat} (h : InGraphs w a len cap) (hl : len ≤ 100000) (hs : ∀ b off, a = some ⟨b, off, none⟩ → ∀ i, i < len → ∀ a' l' c', w.cell? ⟨b, off + i, none⟩ = some (.slice a' l' c') →
      l' ≤ 100000 ∧ ∀ b2 off2, a' = some ⟨b2, off2, none⟩ → ∀ k j, k < l' → j < 7 → ∀ a3 l3 c3, w.cell? ⟨b2, off2 + (k * 7 + j), none⟩ = some (.slice a3 l3 c3) → l3 ≤ 100000) : ∃ gs : List (List Nd), gs.length = len ∧ Graphs w (.slice a len cap) gs := by
  rcases h with ⟨rfl, rfl, rfl⟩ | ⟨x, rfl, h1, h2, h3⟩
  · exact ⟨[], rfl, Graphs.nil w none 0⟩
  · by_cases hp : 0 < len
    · obtain ⟨b, off, rfl, hb, hc⟩ := h3 hp
      have key : ∀ n, n ≤ len → ∃ gs : List (List Nd), gs.length = n ∧ ∀ i, i < n → ∃ a' c', w.cell? ⟨b, off + i, none⟩ = some (.slice a' (gs.getD i []).length c') ∧ Nodes w (.slice a' (gs.getD i []).length c') (gs.getD i []) := by
        intro n
        induction n with
        | zero => exact fun _ => ⟨[], rfl, fun i hi => absurd hi (Nat.not_lt_zero _)⟩
        | succ n ih =>
          intro hn
          obtain ⟨gs, hgs, hi⟩ := ih (by omega)
          obtain ⟨a', l', c', hcell, hin⟩ := hc n (by omega)
          obtain ⟨hb1, hb2⟩ := hs b off rfl n (by omega) a' l' c' hcell
          obtain ⟨ns, hns, hnn⟩ := hin.nodes hb1 hb2
          refine ⟨gs ++ [ns], by simp [hgs], fun i hi2 => ?_⟩
          by_cases e : i = n
          · subst e
            have e2 : (gs ++ [ns]).getD i [] = ns := by simp [List.getD, ← hgs]
            rw [e2, hns]
            exact ⟨a', c', hcell, hnn⟩
          · have e2 : (gs ++ [ns]).getD i [] = gs.getD i [] := by
              have : i < gs.length := by omega
              simp [List.getD, List.getElem?_append_left this]
            rw [e2]
            exact hi i (by omega)
      obtain ⟨gs, hgs, hi⟩ := key len (Nat.le_refl _)
      exact ⟨gs, hgs, by rw [hgs]; omega, some ⟨b, off, none⟩, cap, by rw [hgs], fun _ => ⟨b, off, rfl, hb, fun i hi2 => hi i (by omega)⟩⟩
    · obtain rfl : len = 0 := by omega
      exact ⟨[], rfl, Graphs.nil w _ _⟩

end Go.Proofs.Ytefohemihiiceaa
