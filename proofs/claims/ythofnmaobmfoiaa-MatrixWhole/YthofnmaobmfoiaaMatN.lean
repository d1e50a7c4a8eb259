
/- Appends to the row of a tensor that is being built; numbers that came in; steps of regions that draw their order. -/
import Derived.Test.YthofnmaobmfoiaaMatF
import Derived.Test.YthofnmaobmfoiaaFInt
import Derived.Test.YthofnmaobmfoiaaOpn
import Derived.Deep.RegionHeldLaw
namespace Go.Proofs.Ythofnmaobmfoiaa
open Go.RowKit Go.ChangeShapes

theorem ofI_w64 (z : Int) : W64 (ofI z) := DD.nearest_lt _ _ _
theorem info_flt5 : (Try.prog.info? 36).map (fun i => (i.zero, i.size, i.bytes)) = some (some (.float .f64 0), 1, 8) := by kernel_rfl

theorem InRowK.at {k : IntKind} {w : World} {a : Option Addr} {len cap : Nat} {zs : List Int} (h : InRowK k w a len cap zs) (h0 : 0 < len) : ∃ b off, a = some ⟨b, off, none⟩ ∧ b < w.heap.size ∧ ∀ i, i < len → w.cell? ⟨b, off + i, none⟩ = some (.int k (zs.getD i 0)) := by
  rcases h with ⟨_, rfl, _, _⟩ | ⟨x, rfl, h1, _, h3, h4, h5⟩
  · omega
  · obtain ⟨b, off, rfl, hb, hc⟩ := cells_at h4 (by omega)
    exact ⟨b, off, rfl, hb, fun i hi => hc i (by omega)⟩
theorem InRowK.wfD {k : IntKind} {w : World} {a : Option Addr} {len cap : Nat} {zs : List Int} (h : InRowK k w a len cap zs) {i : Nat} (hi : i < len) : (Lit.int k (zs.getD i 0)).wf = true := by
  rcases h with ⟨_, rfl, _, _⟩ | ⟨x, rfl, h1, _, h3, h4, h5⟩
  · omega
  · have hl : i < zs.length := by omega
    have e : zs.getD i 0 = zs[i] := by simp [hl]
    rw [e]
    exact h5 _ (List.getElem_mem hl)
theorem InRowK.ge {k : IntKind} {w : World} {a : Option Addr} {len cap : Nat} {zs : List Int} (h : InRowK k w a len cap zs) : len ≤ zs.length := by
  rcases h with ⟨_, rfl, _, _⟩ | ⟨x, rfl, h1, _, h3, h4, h5⟩
  · omega
  · omega
theorem map_takeI {f : Int → Nat} {zs : List Int} {k : Nat} (h : k < zs.length) : (zs.take (k + 1)).map f = (zs.take k).map f ++ [f (zs.getD k 0)] := by
  rw [List.take_add_one, show zs[k]? = some (zs.getD k 0) by simp [h], List.map_append]
  rfl

theorem Bx.set1 {w : World} {B : Nat} {x y : Value} (h : Bx w B x y) (v : Value) : Bx (w.setCell ⟨B, 1, none⟩ v) B x v := by
  unfold Bx at h ⊢
  simp [World.setCell, Array.getElem?_modify, h]
theorem OwnF.neBx {w : World} {e : TypeId} {base B : Nat} {v x y : Value} {xs : List Nat} (h : OwnF w e base v xs) (hb : Bx w B x y) (he : e ≠ 28) : some B ≠ v.ownBlock := by
  obtain ⟨_, h | ⟨g, cap, cur, rfl, _, hh, _⟩⟩ := h
  · obtain ⟨rfl, _⟩ := h
    simp [Value.ownBlock]
  · intro e1
    obtain rfl : B = g := by simpa [Value.ownBlock] using e1
    unfold Bx at hb
    rw [hh] at hb
    injection hb with e2
    injection e2 with _ e3
    exact he e3
theorem OwnF.setB1 {w : World} {e : TypeId} {base B : Nat} {v x y : Value} {xs : List Nat} (h : OwnF w e base v xs) (hb : Bx w B x y) (he : e ≠ 28) (u : Value) : OwnF (w.setCell ⟨B, 1, none⟩ u) e base v xs := by
  have hn := h.neBx hb he
  obtain ⟨h0, h | ⟨g, cap, cur, rfl, hg, hh, r⟩⟩ := h
  · exact ⟨h0, .inl h⟩
  · have hne : g ≠ B := fun e => hn (by rw [e]; rfl)
    exact ⟨h0, .inr ⟨g, cap, cur, rfl, hg, (Below.heap_setCell w ⟨B, 1, none⟩ u g hne).trans hh, r⟩⟩

/-- a number is appended to the row of the pair in block B -/
theorem step_append_box {ops : Array Oper} {o : Oper} {a : Act} {w : World} {K : Act → World → Prop} {Q : Exit → Act → World → Prop} {E : Prop}
    (hg : o.guard = none) (s x : Operand) (hop : o.op = Op.call { callee := Callee.builtin Builtin.append, args := #[s, x], argTypes := #[26, 26] })
    (base : Nat) (v : Value) (xs : List Nat) (ad : Addr) (y : Nat) (hs : a.eval s = v) (hx : a.eval x = .slice (some ad) 1 1) (hv : OwnF w 36 base v xs) (hu : Flts w (.slice (some ad) 1 1) [y]) (hroom : xs.length + 1 ≤ 1000000) (hbase : base ≤ w.heap.size)
    (B : Nat) (p : Value) (hb : Bx w B p v)
    (h : ∀ b n c w', Hid (OwnF w' 36 base (.slice b n c) (xs ++ [y]) ∧ w.grownBy w' v.ownBlock ∧ Bx w' B p v) → w'.cell? ⟨B, 1, none⟩ = some v → w'.frozen? ⟨B, 1, none⟩ = false → K (a.put o.dst (.slice b n c)) w') :
    if Region.wanted o (yielded ops a.tmps) = true then Oper.wp Try.prog o a w K Q else E := by
  have hw : Region.wanted o (yielded ops a.tmps) = true := by simp [Region.wanted, hg]
  rw [if_pos hw]
  obtain ⟨v', w', hrun, h1, h2⟩ := run_append_flts (P := Try.prog) w base 26 o.type 36 info_flt5 Try.underlying26 v (.slice (some ad) 1 1) xs [y] hv hu (by rw [List.length_singleton]; omega) hbase
  have hb2 := hb.grown h2 hv (by decide)
  obtain ⟨b, n, c, rfl⟩ := h1.sl
  unfold Oper.wp
  simp [execOp, hop, resolve, invoke, builtin, hs, hx, hrun, Result.andThen]
  exact h b n c w' ⟨h1, h2, hb2⟩ hb2.c1 (hb2.frozen 1)

/-- what is behind it: the pair holds the longer row -/
theorem box_after {w0 w w' : World} {B base n c : Nat} {b : Option Addr} {p v : Value} {xs : List Nat} {y : Nat} (k : Kp w0 w) (hbase : w0.heap.size ≤ base) (hB : w0.heap.size ≤ B) (hv : OwnF w 36 base v xs) (h : OwnF w' 36 base (.slice b n c) (xs ++ [y]) ∧ w.grownBy w' v.ownBlock ∧ Bx w' B p v) :
    Bx (w'.setCell ⟨B, 1, none⟩ (.slice b n c)) B p (.slice b n c) ∧ OwnF (w'.setCell ⟨B, 1, none⟩ (.slice b n c)) 36 base (.slice b n c) (xs ++ [y]) ∧ Kp w0 (w'.setCell ⟨B, 1, none⟩ (.slice b n c)) :=
  ⟨h.2.2.set1 _, h.1.setB1 h.2.2 (by decide) _, (k.of_grown h.2.1 (fun q hq => Nat.le_trans hbase (hv.block q hq))).set hB _⟩

end Go.Proofs.Ythofnmaobmfoiaa
