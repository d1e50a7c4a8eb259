
/- A graph as an argument: how it came in, and how long its rows can be. -/
import Derived.Test.YtefohemihiiceaaOpnG
import Derived.SizedLaws
namespace Go.Proofs.Ytefohemihiiceaa
open Go.RowKit Go.ChangeShapes

theorem bytesZ : (Try.prog.bytesOf 3, Try.prog.bytesOf 71, Try.prog.bytesOf 73, Try.prog.bytesOf 47) = (8, 8, 16, 136) := by kernel_rfl

/-- no longer than a process's memory -/
def Zlen (l : Nat) : Prop := l ≤ 17592186044416
theorem slice_sized {H : Type} {enc : TypeId × Value → H} {w : World} {base n : Nat} {spare : Nat → Bool} {t e : TypeId} {a : Option Addr} {l c : Nat} {x : DataW H × List MemPlace} (ht : Try.prog.underlying t = some (.slice e)) (hb : 8 ≤ Try.prog.bytesOf e)
    (h : DataW.trod enc Try.prog w base spare true n t [.slice a l c] = some x) (hw : ∀ m ∈ x.1.weights Try.prog t, m ≤ reachBytes) : Zlen l := by
  rcases Go.Deep.open_slice ht h with ⟨hcs, _⟩ | ⟨ad, l', c', m, n', D, Pl, hcs, hbs, hl, hm, hmm, hx, _⟩
  · simp at hcs
    obtain ⟨_, rfl, _⟩ := hcs
    unfold Zlen
    omega
  · simp at hcs
    obtain ⟨_, rfl, _⟩ := hcs
    have h1 := hw _ (by rw [hx]; simp only [DataW.weights, ht]; exact List.mem_cons_self ..)
    simp only [List.length_map, List.length_range] at h1
    have h2 : l * 8 ≤ (l + (m - l)) * Try.prog.bytesOf e := Nat.mul_le_mul (by omega) hb
    have h3 : reachBytes = 140737488351232 := rfl
    unfold Zlen
    omega
theorem node_sized {H : Type} {enc : TypeId × Value → H} {w : World} {base n : Nat} {spare : Nat → Bool} {v0 v1 v2 v3 v4 v5 v6 : Value} {x : DataW H × List MemPlace} (h : DataW.trod enc Try.prog w base spare true n 47 [v0, v1, v2, v3, v4, v5, v6] = some x)
    (hw : ∀ m ∈ x.1.weights Try.prog 47, m ≤ reachBytes) : ∀ a l c, (v1 = .slice a l c → Zlen l) ∧ (v2 = .slice a l c → Zlen l) ∧ (v4 = .slice a l c → Zlen l) ∧ (v5 = .slice a l c → Zlen l) ∧ (v6 = .slice a l c → Zlen l) := by
  have hc := cellsNode
  have hb := bytesZ
  simp only [Prod.mk.injEq] at hc hb
  obtain ⟨_, hc1, hc2, hc3, hc4, hc5, _⟩ := hc
  obtain ⟨b1, b2, b3, _⟩ := hb
  obtain ⟨xs, k, hk, hxy, _, hxl, hf⟩ := DataW.trod_struct Try.underlying47 h
  match xs, hxl with
  | [y0, y1, y2, y3, y4, y5], _ =>
    have g1 := hf 1 _ rfl
    have g2 := hf 2 _ rfl
    have g4 := hf 4 _ rfl
    have g5 := hf 5 _ rfl
    simp [hc2, hc3, hc4] at g1 g2 g4 g5
    have hww : ∀ m ∈ DataW.weightsEach Try.prog [3, 32, 32, 3, 44, 45] [y0.1, y1.1, y2.1, y3.1, y4.1, y5.1], m ≤ reachBytes := fun m hm => hw m (by
      rw [hxy]
      simp only [DataW.weights, Try.underlying47]
      exact hm)
    have w1 := fun m hm => hww m (DataW.weights_mem_each (j := 1) (t := 32) (d := y1.1) rfl rfl m hm)
    have w2 := fun m hm => hww m (DataW.weights_mem_each (j := 2) (t := 32) (d := y2.1) rfl rfl m hm)
    have w4 := fun m hm => hww m (DataW.weights_mem_each (j := 4) (t := 44) (d := y4.1) rfl rfl m hm)
    have w5 := fun m hm => hww m (DataW.weights_mem_each (j := 5) (t := 45) (d := y5.1) rfl rfl m hm)
    obtain ⟨ts, k4, hk4, hty, _, htl, ht⟩ := DataW.trod_struct Try.underlying44 g4
    match ts, htl with
    | [t0, t1], _ =>
      have s0 := ht 0 _ rfl
      have s1 := ht 1 _ rfl
      simp [hc2, hc5] at s0 s1
      have hwt : ∀ m ∈ DataW.weightsEach Try.prog [32, 42] [t0.1, t1.1], m ≤ reachBytes := fun m hm => w4 m (by
        rw [hty]
        simp only [DataW.weights, Try.underlying44]
        exact hm)
      have u0 := fun m hm => hwt m (DataW.weights_mem_each (j := 0) (t := 32) (d := t0.1) rfl rfl m hm)
      have u1 := fun m hm => hwt m (DataW.weights_mem_each (j := 1) (t := 42) (d := t1.1) rfl rfl m hm)
      refine fun a l c => ⟨?_, ?_, ?_, ?_, ?_⟩
      · rintro rfl; exact slice_sized Try.underlying32 (by omega) g1 w1
      · rintro rfl; exact slice_sized Try.underlying32 (by omega) g2 w2
      · rintro rfl; exact slice_sized Try.underlying32 (by omega) s0 u0
      · rintro rfl; exact slice_sized Try.underlying42 (by omega) s1 u1
      · rintro rfl; exact slice_sized Try.underlying45 (by omega) g5 w5

/-- all rows of the nodes are so -/
def ZNodes (w : World) (a : Option Addr) (len : Nat) : Prop := Zlen len ∧ ∀ b off, a = some ⟨b, off, none⟩ → ∀ i j, i < len → j < 7 → ∀ a' l' c', w.cell? ⟨b, off + (i * 7 + j), none⟩ = some (.slice a' l' c') → Zlen l'
theorem nodes_sized {H : Type} {enc : TypeId × Value → H} {w : World} {base fuel : Nat} {spare : Nat → Bool} {a : Option Addr} {len cap : Nat} {x : DataW H × List MemPlace} (hsp : ∀ b, spare b = true)
    (h : DataW.trod enc Try.prog w base spare true fuel 22 [.slice a len cap] = some x) (hw : ∀ m ∈ x.1.weights Try.prog 22, m ≤ reachBytes) : ZNodes w a len := by
  have hb := bytesZ
  have hc := cellsNode
  simp only [Prod.mk.injEq] at hb hc
  refine ⟨slice_sized Try.underlying22 (by omega) h hw, ?_⟩
  rintro b off rfl i j hi hj a' l' c' hcell
  rcases Go.Deep.open_slice Try.underlying22 h with ⟨hcs, _⟩ | ⟨ad, l, c, m, n', D, Pl, hcs, hbs, hl, hm, hmm, hx, hel⟩
  · simp at hcs
  · simp at hcs
    obtain ⟨rfl, rfl, rfl⟩ := hcs
    rw [hsp, if_pos rfl] at hmm
    subst hmm
    rw [hc.1] at hel
    obtain ⟨cs', h1, h2⟩ := hel i (by omega)
    obtain ⟨_, hlen, hcl⟩ := World.cells?_some h1
    have hwi : ∀ q ∈ (D i).weights Try.prog 47, q ≤ reachBytes := fun q hq => hw q (by
      rw [hx]
      simp only [DataW.weights, Try.underlying22]
      refine List.mem_cons_of_mem _ (List.mem_append_left _ ?_)
      have key : ∀ (ds : List (DataW H)) (d : DataW H), d ∈ ds → q ∈ d.weights Try.prog 47 → q ∈ DataW.weightsAll Try.prog 47 ds := by
        intro ds
        induction ds with
        | nil => intro d hd; cases hd
        | cons d0 ds ih =>
          intro d hd hq
          simp only [DataW.weightsAll, List.mem_append]
          rcases List.mem_cons.1 hd with rfl | hd
          · exact .inl hq
          · exact .inr (ih d hd hq)
      exact key _ (D i) (List.mem_map.2 ⟨i, List.mem_range.2 hi, rfl⟩) hq)
    match cs', hlen with
    | [v0, v1, v2, v3, v4, v5, v6], _ =>
      have hz := node_sized h2 hwi a' l' c'
      obtain ⟨op, no, a1, l1, c1, z1, a2, l2, c2, z2, a4, l4, c4, z4, a5, l5, c5, z5, a6, l6, c6, i0, i3, e0, e1, e2, e3, e4, e5, e6, _⟩ := open_node hsp h2
      have e := hcl j hj
      rw [Go.Deep.add_add, Go.WideShapes.add_plain] at e
      rw [hcell] at e
      match j, hj with
      | 0, _ => rw [e0] at e; cases e
      | 1, _ => exact hz.1 (by simpa using e.symm)
      | 2, _ => exact hz.2.1 (by simpa using e.symm)
      | 3, _ => rw [e3] at e; cases e
      | 4, _ => exact hz.2.2.1 (by simpa using e.symm)
      | 5, _ => exact hz.2.2.2.1 (by simpa using e.symm)
      | 6, _ => exact hz.2.2.2.2 (by simpa using e.symm)

theorem graph1_open {H : Type} {enc : TypeId × Value → H} {w : World} {base fuel : Nat} {spare : Nat → Bool} {v : Value} {x : DataW H × List MemPlace} (hsp : ∀ b, spare b = true) (h : DataW.trod enc Try.prog w base spare true fuel 24 [v] = some x)
    (hw : ∀ m ∈ x.1.weights Try.prog 24, m ≤ reachBytes) : ∃ a len cap, v = .slice a len cap ∧ InNodes w a len cap ∧ ZNodes w a len := by
  have hc := cellsNode
  simp only [Prod.mk.injEq] at hc
  obtain ⟨_, _, _, _, _, _, hcg, hcn⟩ := hc
  obtain ⟨y0, k, hxy, _, g⟩ := trod_struct1 Try.underlying24 h
  simp [hcn] at g
  obtain ⟨a, len, cap, rfl, hin⟩ := open_nodes hsp g
  refine ⟨a, len, cap, rfl, hin, nodes_sized hsp g fun m hm => hw m ?_⟩
  rw [hxy]
  simp only [DataW.weights, Try.underlying24]
  exact DataW.weights_mem_each (j := 0) (t := 22) (d := y0.1) rfl rfl m hm

end Go.Proofs.Ytefohemihiiceaa
