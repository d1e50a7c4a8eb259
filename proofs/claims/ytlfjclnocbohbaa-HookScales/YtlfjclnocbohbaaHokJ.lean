
/- What the law HookScales builds: a tensor number by number, a row of hooks that is appended to. -/
import Derived.Test.YtlfjclnocbohbaaHokI
import Derived.Test.YtlfjclnocbohbaaHPureB
import Derived.Deep.RegionHeldLaw
namespace Go.Proofs.Ytlfjclnocbohbaa
open Go.RowKit Go.ChangeShapes

theorem InRowK.at9 {k : IntKind} {w : World} {a : Option Addr} {len cap : Nat} {zs : List Int} (h : InRowK k w a len cap zs) (h0 : 0 < len) : ∃ b off, a = some ⟨b, off, none⟩ ∧ b < w.heap.size ∧ ∀ i, i < len → w.cell? ⟨b, off + i, none⟩ = some (.int k (zs.getD i 0)) := by
  rcases h with ⟨_, rfl, _, _⟩ | ⟨x, rfl, h1, _, h3, h4, h5⟩
  · omega
  · obtain ⟨b, off, rfl, hb, hc⟩ := cells_at h4 (by omega)
    exact ⟨b, off, rfl, hb, fun i hi => hc i (by omega)⟩
theorem InRowK.wfD9 {k : IntKind} {w : World} {a : Option Addr} {len cap : Nat} {zs : List Int} (h : InRowK k w a len cap zs) {i : Nat} (hi : i < len) : (Lit.int k (zs.getD i 0)).wf = true := by
  rcases h with ⟨_, rfl, _, _⟩ | ⟨x, rfl, h1, _, h3, h4, h5⟩
  · omega
  · have hl : i < zs.length := by omega
    have e : zs.getD i 0 = zs[i] := by simp [hl]
    rw [e]
    exact h5 _ (List.getElem_mem hl)
theorem InRowK.ge9 {k : IntKind} {w : World} {a : Option Addr} {len cap : Nat} {zs : List Int} (h : InRowK k w a len cap zs) : len ≤ zs.length := by
  rcases h with ⟨_, rfl, _, _⟩ | ⟨x, rfl, h1, _, h3, h4, h5⟩
  · omega
  · omega
theorem map_takeI9 {f : Int → Nat} {zs : List Int} {k : Nat} (h : k < zs.length) : (zs.take (k + 1)).map f = (zs.take k).map f ++ [f (zs.getD k 0)] := by
  rw [List.take_add_one, show zs[k]? = some (zs.getD k 0) by simp [h], List.map_append]
  rfl

theorem Bx.set19 {w : World} {B : Nat} {x y : Value} (h : Bx w B x y) (v : Value) : Bx (w.setCell ⟨B, 1, none⟩ v) B x v := by
  unfold Bx at h ⊢
  simp [World.setCell, Array.getElem?_modify, h]
theorem OwnF.neBx9 {w : World} {e : TypeId} {base B : Nat} {v x y : Value} {xs : List Nat} (h : OwnF w e base v xs) (hb : Bx w B x y) (he : e ≠ 31) : some B ≠ v.ownBlock := by
  obtain ⟨_, h | ⟨g, cap, cur, rfl, _, hh, _⟩⟩ := h
  · obtain ⟨rfl, _⟩ := h
    simp [Value.ownBlock]
  · intro e1
    obtain rfl : B = g := by simpa [Value.ownBlock] using e1
    unfold Bx at hb
    rw [hh] at hb
    injection hb with e2
    injection e2 with _ e3
    exact he e3
theorem OwnF.setB19 {w : World} {e : TypeId} {base B : Nat} {v x y : Value} {xs : List Nat} (h : OwnF w e base v xs) (hb : Bx w B x y) (he : e ≠ 31) (u : Value) : OwnF (w.setCell ⟨B, 1, none⟩ u) e base v xs := by
  have hn := h.neBx9 hb he
  obtain ⟨h0, h | ⟨g, cap, cur, rfl, hg, hh, r⟩⟩ := h
  · exact ⟨h0, .inl h⟩
  · have hne : g ≠ B := fun e => hn (by rw [e]; rfl)
    exact ⟨h0, .inr ⟨g, cap, cur, rfl, hg, (Below.heap_setCell w ⟨B, 1, none⟩ u g hne).trans hh, r⟩⟩

theorem Bx.grown9 {w w' : World} {B base : Nat} {x y v : Value} {e : TypeId} {xs : List Nat} (h : Bx w B x y) (g : w.grownBy w' v.ownBlock) (o : OwnF w e base v xs) (he : e ≠ 31) : Bx w' B x y := by
  unfold Bx
  rw [g.block B h.lt (o.neBx9 h he)]
  exact h
theorem step_append_box9 {ops : Array Oper} {o : Oper} {a : Act} {w : World} {K : Act → World → Prop} {Q : Exit → Act → World → Prop} {E : Prop}
    (hg : o.guard = none) (s x : Operand) (hop : o.op = Op.call { callee := Callee.builtin Builtin.append, args := #[s, x], argTypes := #[29, 29] })
    (base : Nat) (v : Value) (xs : List Nat) (ad : Addr) (y : Nat) (hs : a.eval s = v) (hx : a.eval x = .slice (some ad) 1 1) (hv : OwnF w 23 base v xs) (hu : Flts w (.slice (some ad) 1 1) [y]) (hroom : xs.length + 1 ≤ 1000000) (hbase : base ≤ w.heap.size)
    (B : Nat) (p : Value) (hb : Bx w B p v)
    (h : ∀ b n c w', Hid (OwnF w' 23 base (.slice b n c) (xs ++ [y]) ∧ w.grownBy w' v.ownBlock ∧ Bx w' B p v) → w'.cell? ⟨B, 1, none⟩ = some v → w'.frozen? ⟨B, 1, none⟩ = false → K (a.put o.dst (.slice b n c)) w') :
    if Region.wanted o (yielded ops a.tmps) = true then Oper.wp Try.prog o a w K Q else E := by
  have hw : Region.wanted o (yielded ops a.tmps) = true := by simp [Region.wanted, hg]
  rw [if_pos hw]
  obtain ⟨v', w', hrun, h1, h2⟩ := run_append_flts (P := Try.prog) w base 29 o.type 23 info_flt9 Try.underlying29 v (.slice (some ad) 1 1) xs [y] hv hu (by rw [List.length_singleton]; omega) hbase
  have hb2 := hb.grown9 h2 hv (by decide)
  obtain ⟨b, n, c, rfl⟩ := h1.sl
  unfold Oper.wp
  simp [execOp, hop, resolve, invoke, builtin, hs, hx, hrun, Result.andThen]
  exact h b n c w' ⟨h1, h2, hb2⟩ hb2.c1 (hb2.frozen 1)

theorem box_after9 {w0 w w' : World} {B base n c : Nat} {b : Option Addr} {p v : Value} {xs : List Nat} {y : Nat} (k : Kp w0 w) (hbase : w0.heap.size ≤ base) (hB : w0.heap.size ≤ B) (hv : OwnF w 23 base v xs) (h : OwnF w' 23 base (.slice b n c) (xs ++ [y]) ∧ w.grownBy w' v.ownBlock ∧ Bx w' B p v) :
    Bx (w'.setCell ⟨B, 1, none⟩ (.slice b n c)) B p (.slice b n c) ∧ OwnF (w'.setCell ⟨B, 1, none⟩ (.slice b n c)) 23 base (.slice b n c) (xs ++ [y]) ∧ Kp w0 (w'.setCell ⟨B, 1, none⟩ (.slice b n c)) :=
  ⟨h.2.2.set19 _, h.1.setB19 h.2.2 (by decide) _, (k.of_grown h.2.1 (fun q hq => Nat.le_trans hbase (hv.block q hq))).set hB _⟩


theorem InRowK.keep9 {k : IntKind} {w w' : World} {a : Option Addr} {len cap : Nat} {zs : List Int} (h : InRowK k w a len cap zs) (kp : Kp w w') : InRowK k w' a len cap zs := by
  rcases h with h | ⟨x, rfl, h1, h2, h3, h4, h5⟩
  · exact .inl h
  · refine .inr ⟨x, rfl, h1, h2, h3, fun i hi => ?_, h5⟩
    obtain ⟨b, off, rfl, hb, hc⟩ := cells_at h4 (by omega)
    have := h4 i hi
    rw [Go.WideShapes.add_plain] at this ⊢
    exact (Below.cell kp (p := ⟨b, off + i, none⟩) hb).trans this
/-- the call's own row of hooks -/
theorem infoHok : (Try.prog.info? 52).map (fun i => (i.zero, i.size, i.bytes)) = some (some (.agg #[.int .i64 0, .float .f64 0]), 2, 16) := by kernel_rfl
theorem hkCells_len (hs : List Hk) : (hkCells hs).length = hs.length * 2 := by
  induction hs with
  | nil => rfl
  | cons h t ih => simp [hkCells, ih]; omega
theorem hkCells_app (hs ks : List Hk) : hkCells (hs ++ ks) = hkCells hs ++ hkCells ks := by
  induction hs with
  | nil => rfl
  | cons h t ih => simp [hkCells, ih]
theorem hkCells_one (hs : List Hk) : ∀ u ∈ hkCells hs, u.oneCell' = true := by
  induction hs with
  | nil => intro u hu; cases hu
  | cons h t ih =>
    intro u hu
    rcases List.mem_cons.1 hu with rfl | hu
    · rfl
    · rcases List.mem_cons.1 hu with rfl | hu
      · rfl
      · exact ih u hu
def OwnH (w : World) (base : Nat) (v : Value) (hs : List Hk) : Prop := w.ownsRow base 52 2 v hs.length (hkCells hs)
theorem OwnH.lit (w : World) (hs : List Hk) (c : Array Value) (B n base : Nat) (hc : c = (hkCells hs).toArray) (hB : B = w.heap.size) (hn : hs.length = n) (hb : base ≤ w.heap.size) (hm : n ≤ 1000000) :
    OwnH (w.alloc (.cells c 52)) base (.slice (some ⟨B, 0, none⟩) n n) hs := by
  subst hc hB hn
  refine ⟨by rw [hkCells_len], .inr ⟨w.heap.size, hs.length, (hkCells hs).toArray, rfl, hb, ?_, Nat.le_refl _, by unfold maxLen; omega, by simp [hkCells_len], by rw [List.take_of_length_le]; simp [hkCells_len]⟩⟩
  simp only [World.alloc, Array.getElem?_push_size]
theorem OwnH.hooks {w : World} {base : Nat} {v : Value} {hs : List Hk} (h : OwnH w base v hs) (hl : hs.length ≤ 1000000) (hw : hs.all okH = true) : Hooks w v hs := by
  obtain ⟨_, ⟨rfl, h0⟩ | ⟨g, cap, cur, rfl, _, hh, _, _, _, ht⟩⟩ := h
  · have : hs = [] := List.eq_nil_of_length_eq_zero h0
    subst this
    exact Hooks.nil _ _ _
  · have hc : ∀ j v, (hkCells hs)[j]? = some v → w.cell? ⟨g, j, none⟩ = some v := by
      intro j v hj
      have hlt : j < hs.length * 2 := by
        have := (List.getElem?_eq_some_iff.1 hj).1
        rw [hkCells_len] at this
        exact this
      have h5 := congrArg (fun l => l[j]?) ht
      simp only [List.getElem?_take, hlt, if_true, Array.getElem?_toList] at h5
      simp [World.cell?, hh, h5, hj]
    refine ⟨hl, some ⟨g, 0, none⟩, cap, rfl, fun _ => ⟨g, 0, rfl, (Array.getElem?_eq_some_iff.1 hh).1, fun i hi => ?_⟩⟩
    have := hkCells_at hs i hi
    have e : hs.getD i hnil = hs[i] := by simp [hi]
    have ho := List.all_eq_true.1 hw _ (List.getElem_mem hi)
    rw [← e] at ho
    unfold okH at ho
    simp only [Bool.and_eq_true, decide_eq_true_eq] at ho
    rw [Nat.zero_add]
    exact ⟨hc _ _ this.1, hc _ _ this.2, ⟨ho.1.1, ho.1.2⟩, ho.2⟩
theorem OwnH.keep {w w' : World} {base : Nat} {v : Value} {hs : List Hk} (h : OwnH w base v hs) (k : Kp w w') : OwnH w' base v hs := by
  obtain ⟨h0, h | ⟨g, cap, cur, rfl, hg, hh, r⟩⟩ := h
  · exact ⟨h0, .inl h⟩
  · exact ⟨h0, .inr ⟨g, cap, cur, rfl, hg, by rw [k.block g (Array.getElem?_eq_some_iff.1 hh).1]; exact hh, r⟩⟩
theorem OwnH.sl {w : World} {base : Nat} {v : Value} {hs : List Hk} (h : OwnH w base v hs) : ∃ a n c, v = .slice a n c := by
  obtain ⟨_, ⟨rfl, _⟩ | ⟨g, cap, cur, rfl, _⟩⟩ := h
  · exact ⟨_, _, _, rfl⟩
  · exact ⟨_, _, _, rfl⟩
theorem OwnH.block {w : World} {base : Nat} {v : Value} {hs : List Hk} (h : OwnH w base v hs) (k : Nat) (hk : v.ownBlock = some k) : base ≤ k := by
  obtain ⟨_, h | ⟨g, cap, cur, rfl, hg, _⟩⟩ := h
  · obtain ⟨rfl, _⟩ := h
    cases hk
  · cases hk
    exact hg

/-- 'append(own, s...)' of hooks -/
theorem wpList_append_hooks (w : World) {ops : Array Oper} {rest : List Oper} {o : Oper} {a : Act} {Q : Exit → Act → World → Prop}
    (hgd : o.guard = none) (s x : Operand) (ho : o.op = .call { callee := .builtin .append, args := #[s, x], argTypes := #[39, 39] })
    (base : Nat) (v : Value) (hs : List Hk) (ad : Addr) (m c : Nat) (ks : List Hk) (hs' : a.eval s = v) (hx : a.eval x = .slice (some ad) m c) (hv : OwnH w base v hs) (hm : ks.length = m)
    (hd : ∀ (j : Nat) (u : Value), (hkCells ks)[j]? = some u → w.cell? (ad.add j) = some u) (hroom : hs.length + m ≤ 1000000) (hbase : base ≤ w.heap.size)
    (h : ∀ v' w', OwnH w' base v' (hs ++ ks) → w.grownBy w' v.ownBlock → wpList Try.prog ops Q rest (a.put o.dst v') w') : wpList Try.prog ops Q (o :: rest) a w := by
  obtain ⟨i0, hi, hz0, hz1, hz2⟩ := info_parts infoHok
  exact wpList_append_own w hgd s x 39 ho base 52 i0 (.agg #[.int .i64 0, .float .f64 0]) 2 16 Try.underlying39 hi hz0 hz1 hz2 rfl (by decide) v hs.length (hkCells hs) hs' hv ad m c (hkCells ks) hx (by rw [hkCells_len, hm]) hd (hkCells_one ks) (by unfold maxLen; omega) (by omega) hbase (fun v' w' g1 g2 _ => h v' w' (by unfold OwnH; rw [List.length_append, hkCells_app, hm]; exact g1) g2)

end Go.Proofs.Ytlfjclnocbohbaa
