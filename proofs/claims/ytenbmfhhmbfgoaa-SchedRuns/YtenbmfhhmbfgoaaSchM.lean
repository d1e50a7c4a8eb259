
/- The law's own task steps. -/
import Derived.Test.YtenbmfhhmbfgoaaSchL
namespace Go.Proofs.Ytenbmfhhmbfgoaa
open Go.RowKit

theorem told_after {w0 : World} {F0 : Nat → Prop} {tv0 : Value} {w w1 w8 : World} {s b T : Nat} {F : Nat → Prop} {ps : List Int} {A : SS} {Lv : Value} {n : Nat} {tv : Value} {told : List Int} {g m cap : Nat} {ts : List Int} (h : TS w0 F0 tv0 w s b T F ps A Lv n tv told) (k : Kp w w1)
    (f : Own w8 3 0 (.slice (some ⟨g, 0, none⟩) m cap) ts ∧ w1.grownBy w8 tv.ownBlock ∧ (tv.ownBlock = some g ∨ w1.heap.size ≤ g)) :
    w8.cell? ⟨b, 3, none⟩ = some (.pointer (some ⟨T, 0, none⟩)) ∧ w8.cell? ⟨b, 0, none⟩ = some (.pointer (some ⟨s, 0, none⟩)) ∧ w8.cell? ⟨T, 0, none⟩ = some tv ∧ w8.frozen? ⟨T, 0, none⟩ = false ∧
    Hid (TS w0 F0 tv0 (w8.setCell ⟨T, 0, none⟩ (.slice (some ⟨g, 0, none⟩) m cap)) s b T F ps A Lv n (.slice (some ⟨g, 0, none⟩) m cap) ts) := by
  have h1 := h.keep k
  have e1 := f.2.1.block b h1.tb.lt (fun e => own_ne_b h1.tb h1.ow (by decide) e.symm)
  have e2 := f.2.1.block T h1.bx.lt (fun e => own_ne_T h1.bx h1.ow (by decide) e.symm)
  obtain ⟨c0, -, -, c3⟩ := (h1.tb.of e1).cells
  have x := boxed_of h1.bx e2
  exact ⟨c3, c0, x.cell, x.frozen, h1.told f.1 f.2.1 f.2.2⟩
theorem cell_lit1 (w : World) (x : Value) (e : TypeId) (B : Nat) (h : B = w.heap.size) : (w.alloc (.cells #[x] e)).cell? ⟨B, 0, none⟩ = some x := by
  subst h
  simp

/-- a call of a function of one argument, in a drawn region -/
theorem step_call1 {ops : Array Oper} {o : Oper} {a : Act} {w : World} {K : Act → World → Prop} {Q : Exit → Act → World → Prop} {E : Prop}
    (hg : o.guard = none) (f : FuncId) (x : Operand) (t : TypeId) (hop : o.op = Op.call { callee := Callee.value (.func f), args := #[x], argTypes := #[t] })
    (v : Value) (hx : a.eval x = v) (u : Value) (S : World → Prop) (hcall : ∀ args w, Sem.run Try.prog (callFunc f args) w = .ok (.enter f args) w)
    (hc : Calls Try.prog f #[v] w fun e w' => e = .returned u ∧ S w') (h : ∀ w', S w' → K (a.put o.dst u) w') :
    if Region.wanted o (yielded ops a.tmps) = true then Oper.wp Try.prog o a w K Q else E := by
  have hw : Region.wanted o (yielded ops a.tmps) = true := by simp [Region.wanted, hg]
  rw [if_pos hw]
  have hf : a.eval (.func f) = .func (.func f) #[] #[] := rfl
  have e : (execOp a.eval o).run Try.prog w = .ok (.enter f #[v]) w := by
    unfold execOp
    simp [hop, resolve, invoke, hx, hf, Deferred.ofValue, hcall]
  unfold Oper.wp
  rw [e, Oper.upon_enter]
  refine hc.mono ?_
  rintro e' w' ⟨rfl, hs⟩
  exact h w' hs

/-- the deed in its own box -/
def D2 (w : World) (D : Nat) (v : Value) (x : Int) : Prop := w.heap[D]? = some (.cells #[v, .int .u8 x] 58 (0, 0))
theorem D2.lt {w : World} {D : Nat} {v : Value} {x : Int} (h : D2 w D v x) : D < w.heap.size := (Array.getElem?_eq_some_iff.1 h).1
theorem D2.cells {w : World} {D : Nat} {v : Value} {x : Int} (h : D2 w D v x) : w.cell? ⟨D, 0, none⟩ = some v ∧ w.cell? ⟨D, 1, none⟩ = some (.int .u8 x) ∧ (∀ i, w.frozen? ⟨D, i, none⟩ = false) := by
  unfold D2 at h
  simp [World.cell?, World.frozen?, h]
theorem D2.set {w : World} {D : Nat} {v : Value} {x : Int} (h : D2 w D v x) (u : Value) (y : Int) : D2 ((w.setCell ⟨D, 0, none⟩ u).setCell ⟨D, 1, none⟩ (.int .u8 y)) D u y := by
  unfold D2 at h ⊢
  simp [World.setCell, Array.getElem?_modify, h]
theorem D2.of {w w' : World} {D : Nat} {v : Value} {x : Int} (h : D2 w D v x) (e : w'.heap[D]? = w.heap[D]?) : D2 w' D v x := by unfold D2; rw [e]; exact h
/-- a task's step, its deed in a box of its own -/
structure TD (w0 : World) (F0 : Nat → Prop) (tv0 : Value) (w : World) (s b T : Nat) (F : Nat → Prop) (ps : List Int) (A : SS) (Lv : Value) (n : Nat) (tv : Value) (told : List Int) (D : Nat) (v : Value) (x : Int) : Prop where
  ts : TS w0 F0 tv0 w s b T F ps A Lv n tv told
  d : D2 w D v x
  new : w0.heap.size ≤ D
  nF : ¬ F D
  nb : D ≠ b
  nT : D ≠ T
  nv : tv.ownBlock ≠ some D
theorem TD.made {w0 : World} {F0 : Nat → Prop} {tv0 : Value} {w : World} {s b T : Nat} {F : Nat → Prop} {ps : List Int} {A : SS} {Lv : Value} {n : Nat} {tv : Value} {told : List Int} (h : TS w0 F0 tv0 w s b T F ps A Lv n tv told) (v : Value) (x : Int) : TD w0 F0 tv0 (w.alloc (.cells #[v, .int .u8 x] 58)) s b T F ps A Lv n tv told w.heap.size v x :=
  ⟨h.keep (Kp.alloc _ _), by unfold D2; simp only [World.alloc, Array.getElem?_push_size], h.fr.size, fun e => by have := h.sc.fb _ e; omega, fun e => by have := h.tb.lt; omega, fun e => by have := h.bx.lt; omega, fun e => by have := (World.ownsRow.lt h.ow _ e).2; omega⟩
theorem TD.keep {w0 : World} {F0 : Nat → Prop} {tv0 : Value} {w w' : World} {s b T : Nat} {F : Nat → Prop} {ps : List Int} {A : SS} {Lv : Value} {n : Nat} {tv : Value} {told : List Int} {D : Nat} {v : Value} {x : Int} (h : TD w0 F0 tv0 w s b T F ps A Lv n tv told D v x) (k : Kp w w') : TD w0 F0 tv0 w' s b T F ps A Lv n tv told D v x :=
  ⟨h.ts.keep k, h.d.of (k.block D h.d.lt), h.new, h.nF, h.nb, h.nT, h.nv⟩
theorem TD.set {w0 : World} {F0 : Nat → Prop} {tv0 : Value} {w : World} {s b T : Nat} {F : Nat → Prop} {ps : List Int} {A : SS} {Lv : Value} {n : Nat} {tv : Value} {told : List Int} {D : Nat} {v : Value} {x : Int} (h : TD w0 F0 tv0 w s b T F ps A Lv n tv told D v x) (u : Value) (y : Int) : TD w0 F0 tv0 ((w.setCell ⟨D, 0, none⟩ u).setCell ⟨D, 1, none⟩ (.int .u8 y)) s b T F ps A Lv n tv told D u y :=
  ⟨h.ts.other (grown_trans (grown_cell w D 0 u) (grown_cell _ D 1 (.int .u8 y))) h.new h.nF h.nb h.nT h.nv, h.d.set u y, h.new, h.nF, h.nb, h.nT, h.nv⟩
theorem TD.step {w0 : World} {F0 : Nat → Prop} {tv0 : Value} {w : World} {s b T : Nat} {F : Nat → Prop} {ps : List Int} {A : SS} {Lv : Value} {n : Nat} {tv : Value} {told : List Int} {D : Nat} {v : Value} {x : Int} (h : TD w0 F0 tv0 w s b T F ps A Lv n tv told D v x) (m : Nat) : TD w0 F0 tv0 (w.setCell ⟨b, 2, none⟩ (.int .i64 (m : Int))) s b T F ps A Lv m tv told D v x :=
  ⟨h.ts.step m, h.d.of ((grown_cell w b 2 _).block D h.d.lt (by intro e; cases e; exact h.nb rfl)), h.new, h.nF, h.nb, h.nT, h.nv⟩
theorem TD.sched {w0 : World} {F0 : Nat → Prop} {tv0 : Value} {w w' : World} {s b T : Nat} {F F' : Nat → Prop} {ps : List Int} {A A' : SS} {Lv : Value} {n : Nat} {tv : Value} {told : List Int} {D : Nat} {v : Value} {x : Int} (h : TD w0 F0 tv0 w s b T F ps A Lv n tv told D v x) (hs : Sc w' s F' ps A') (d : Wd F F' w w') : TD w0 F0 tv0 w' s b T F' ps A' Lv n tv told D v x :=
  ⟨h.ts.sched hs d, h.d.of (d.block D h.d.lt h.nF), h.new, fun e => by
    rcases d.new _ e with e | e
    · exact h.nF e
    · have := h.d.lt; omega, h.nb, h.nT, h.nv⟩

set_option maxRecDepth 20000 in
set_option maxHeartbeats 8000000 in
theorem task_any (s b T : Nat) (F : Nat → Prop) (ps : List Int) (A : SS) (Lv : Value) (n : Nat) (tv : Value) (told : List Int) (l : List (Value × List Int × Int)) (w : World) (h : TS w F tv w s b T F ps A Lv n tv told) (hst : A.st = true) (hl : told.length + 1 ≤ 1000000000) (hn : n ≤ 1000000000000)
    (hd : ∀ G' w', Wd (Gt F b T tv) G' w w' → DeedsAt w' Lv l) :
    Calls Try.prog 13 #[.pointer (some ⟨b, 0, none⟩)] w fun e w' => e = .returned (.int .i64 (l.getD n d0).2.2) ∧ ∃ F' tv', TS w F tv w' s b T F' ps (wakesS A (l.getD n d0).2.1) Lv (n + 1) tv' (told ++ [A.now]) := by
  obtain ⟨c0, c1, c2, c3⟩ := h.tb.cells
  have t0 := h.bx.cell
  obtain ⟨ta, tc, etv, -⟩ := h.ow.shape
  have CN := hide (fun w1 (k : Kp w w1) => (now_any s F ps A w1 (h.sc.keep k)).mono (R' := fun e w' => e = .returned (.int .i64 A.now) ∧ Hid (Kp w w') ∧ w'.cell? ⟨b, 3, none⟩ = some (.pointer (some ⟨T, 0, none⟩)) ∧ w'.cell? ⟨b, 0, none⟩ = some (.pointer (some ⟨s, 0, none⟩)) ∧ w'.cell? ⟨T, 0, none⟩ = some tv ∧ (∀ o, (w'.alloc o).cell? ⟨b, 3, none⟩ = some (.pointer (some ⟨T, 0, none⟩))) ∧ (∀ o, (w'.alloc o).cell? ⟨b, 0, none⟩ = some (.pointer (some ⟨s, 0, none⟩))) ∧ ∀ o, (w'.alloc o).cell? ⟨T, 0, none⟩ = some tv) (by
    rintro e w' ⟨rfl, rfl⟩
    rw [hst, if_pos rfl]
    have z := fun (w2 : World) (k : Kp w w2) => (show w2.cell? ⟨b, 3, none⟩ = some (.pointer (some ⟨T, 0, none⟩)) ∧ w2.cell? ⟨b, 0, none⟩ = some (.pointer (some ⟨s, 0, none⟩)) ∧ w2.cell? ⟨T, 0, none⟩ = some tv from ⟨(Below.cell k (p := ⟨b, 3, none⟩) h.tb.lt).trans c3, (Below.cell k (p := ⟨b, 0, none⟩) h.tb.lt).trans c0, (Below.cell k (p := ⟨T, 0, none⟩) h.bx.lt).trans t0⟩)
    exact ⟨rfl, k, (z _ k).1, (z _ k).2.1, (z _ k).2.2, fun o => (z _ (k.trans (Kp.alloc _ o))).1, fun o => (z _ (k.trans (Kp.alloc _ o))).2.1, fun o => (z _ (k.trans (Kp.alloc _ o))).2.2⟩))
  have HT := hide h
  have TA := hide (fun w1 w8 g m cap ts (k : Kp w w1) f => told_after (w1 := w1) (w8 := w8) (g := g) (m := m) (cap := cap) (ts := ts) h k f)
  have OW := hide h.ow
  have HD := hide hd
  generalize hm : told.length = m at *
  have HM := hide hm
  rw [etv] at t0
  clear h hm c1 c2 hd
  subst etv
  go_enter Try.func13, Try.ntmps13
  go_upto_region 1 with fail
  go_cut [2] (fun q wx => q = .int .i64 0 ∧ ∃ g c, Hid (TS w F (.slice ta m tc) wx s b T F ps A Lv n (.slice (some ⟨g, 0, none⟩) (m + 1) c) (told ++ [A.now])))
  case first =>
    go_region_law (first
      | (refine step_call1 rfl 19 (.tmp 18) 27 rfl (.pointer (some ⟨s, 0, none⟩)) (by first | rfl | simp [Act.eval] | simp [Act.eval, Act.put]) (.int .i64 A.now) _ Try.call19 ((unhide CN) _ (Kp.drew w)) ?_; rintro w3 ⟨K3, e0, e1, e2, e3, e4, e5⟩)
      | (refine step_push1 rfl (.tmp 14) (.tmp 20) rfl (.slice ta m tc) m told A.now _ 1 (unhide HM) (by first | rfl | simp [Act.eval] | simp [Act.eval, Act.put]) (by first | rfl | simp [Act.eval] | simp [Act.eval, Act.put]) (Own.keep (unhide OW) ((unhide K3).trans (Kp.alloc _ _))) hl (cell_lit1 _ _ _ _ rfl) ?_; intro g c9 w9 F9; have A9 := unhide TA _ w9 g (m + 1) c9 _ ((unhide K3).trans (Kp.alloc _ _)) (unhide F9); clear F9; obtain ⟨y0, y1, y2, y3, A9⟩ := A9))
    all_goals (
      go_wp2_with fail
      go_meet
      exact ⟨rfl, g, c9, A9⟩)
  case rest =>
    obtain ⟨rfl, g1, gc, h1⟩ := hcut
    generalize hW : wc = W at *
    clear hW
    generalize htv : (.slice (some ⟨g1, 0, none⟩) (m + 1) gc : Value) = tv' at *
    clear htv
    -- the deed
    have T2 := hide (TD.made (unhide h1) (.slice none 0 0) 3)
    clear c0 c3 t0 CN HT TA OW HM h1
    go_wp2_with fail
    generalize W.heap.size = D at *
    generalize W.alloc (.cells #[.slice none 0 0, .int .u8 3] 58) = W2 at *
    obtain ⟨d0', d1', d2', d3'⟩ := (unhide T2).ts.tb.cells
    have dw := unhide HD _ W2 (unhide T2).ts.fr
    have HY := hide (fun (G' : Nat → Prop) (w' : World) (k : Wd (Gt F b T (.slice ta m tc)) G' w w') => (unhide HD G' w' k).bys n)
    obtain ⟨hb1, hb2, hb3⟩ := dw.bys n
    obtain ⟨ll, la, lc, rfl, hcell⟩ := dw
    clear d0' d3' HD
    have f0 := (unhide T2).d.cells.2.2 0
    have f1 := (unhide T2).d.cells.2.2 1
    obtain ⟨z0, z1, -⟩ := (unhide T2).d.cells
    have hdd : ∃ wa wl wc' dl da, l.getD n d0 = (.slice wa wl wc', dl, da) ∧ dl.length = wl := by
      obtain ⟨_, _, a, c, e, _⟩ := hb1
      refine ⟨a, _, c, (l.getD n d0).2.1, (l.getD n d0).2.2, ?_, rfl⟩
      rw [← e]
    obtain ⟨wa, wl, wc', dl, da, hdd, hwl⟩ := hdd
    rw [hdd] at hb2 hb3 HY
    have HE := hide hdd
    have HWL := hide hwl
    clear hwl hb1
    simp only at hb2 hb3
    have hwb : Hid (wl ≤ 4611686018427387904) := by
      have := (unhide HY _ W2 (unhide T2).ts.fr).1.2.1
      rw [unhide HWL] at this
      exact this
    by_cases hlt : n < l.length
    · obtain ⟨lb, lo, rfl, hlb, hc⟩ := hcell (by omega)
      obtain ⟨x0, x1, -, -⟩ := hc n hlt
      have hltI : (n : Int) < (l.length : Int) := by omega
      rw [hdd] at x0 x1
      simp only at x0 x1
      clear hc hcell hdd
      have T3 := hide (fun k => ((unhide T2).keep (Kp.drewN W2 k)).set (.slice wa wl wc') da)
      generalize hnl : l.length = nl at *
      have HNL := hide hnl
      clear hnl
      go_quiet (fail)
      go_wp2_with fail
      go_region
      have T4 := hide (unhide T3 (nq + 1))
      clear T2 T3 f0 f1 z0 z1 d1' d2' x0 x1
      generalize ((W2.drewN (nq + 1)).setCell ⟨D, 0, none⟩ (.slice wa wl wc')).setCell ⟨D, 1, none⟩ (.int .u8 da) = W3 at *
      obtain ⟨e0, -, e2, -⟩ := (unhide T4).ts.tb.cells
      have ef := (unhide T4).ts.tb.frozen 2
      have T5 := hide ((unhide T4).step (n + 1))
      rw [show ((n + 1 : Nat) : Int) = (n : Int) + 1 by omega] at T5
      clear T4
      go_wp2_with fail
      generalize W3.setCell ⟨b, 2, none⟩ (.int .i64 ((n : Int) + 1)) = W4 at *
      clear e0 e2 ef
      go_loopw [4] (fun i wr => ∃ (k : Nat) (F' : Nat → Prop), k ≤ wl ∧ i = .int .i64 k ∧ Hid (TD w F (.slice ta m tc) wr s b T F' ps (wakesS A (dl.take k)) (.slice (some ⟨lb, lo, none⟩) nl lc) (n + 1) tv' (told ++ [A.now]) D (.slice wa wl wc') da)) (fun i _ => wl - (intOf i).toNat)
      case atStart => exact ⟨0, F, Nat.zero_le _, rfl, T5⟩
      case round =>
        obtain ⟨k, F', hk, rfl, TR⟩ := hrel
        obtain ⟨e0, -, -, -⟩ := (unhide TR).ts.tb.cells
        obtain ⟨z0, z1, -⟩ := (unhide TR).d.cells
        by_cases hkl : k < wl
        · have by1 := (unhide HY _ wr (unhide TR).ts.fr).1
          have hx := by1.1 (dl.getD k 0) (by rw [List.getD_eq_getElem?_getD, List.getElem?_eq_getElem (by rw [unhide HWL]; exact hkl)]; exact List.getElem_mem _)
          obtain ⟨-, -, xa, xc, exa, hcx⟩ := by1
          rw [unhide HWL] at exa hcx
          injection exa with exa1 exa2 exa3
          clear exa2 exa3
          obtain ⟨xb, xo, rfl, hxb, hcx⟩ := hcx (by omega)
          subst exa1
          have c0 := hcx k hkl
          have hkI : (k : Int) < (wl : Int) := by omega
          have hk62 : (k : Int) ≤ 4611686018427387904 := by have := unhide hwb; omega
          have ET : Hid (wakesS A (dl.take (k + 1)) = (wakeS (wakesS A (dl.take k)) (dl.getD k 0)).2) := by
            unfold Hid
            have hkd : k < dl.length := by rw [unhide HWL]; exact hkl
            rw [← wakesS_snoc, List.take_succ_eq_append_getElem hkd]
            congr 3
            simp [hkd]
          have HC := hide (fun (w' : World) (F2 : Nat → Prop) (A2 : SS) (t : TD w F (.slice ta m tc) w' s b T F2 ps A2 (.slice (some ⟨lb, lo, none⟩) nl lc) (n + 1) tv' (told ++ [A.now]) D (.slice (some ⟨xb, xo, none⟩) wl wc') da) => (show w'.cell? ⟨b, 0, none⟩ = some (.pointer (some ⟨s, 0, none⟩)) ∧ w'.cell? ⟨D, 0, none⟩ = some (.slice (some ⟨xb, xo, none⟩) wl wc') ∧ w'.cell? ⟨xb, xo + k, none⟩ = some (.int .u8 (dl.getD k 0)) from by
            obtain ⟨q0, -, -, -⟩ := t.ts.tb.cells
            obtain ⟨q1, -, -⟩ := t.d.cells
            obtain ⟨-, -, xa, xc, exa, hcx⟩ := (unhide HY _ w' t.ts.fr).1
            rw [unhide HWL] at exa hcx
            injection exa with exa1 _ _
            obtain ⟨xb2, xo2, e2, _, hcx⟩ := hcx (by omega)
            rw [e2] at exa1
            injection exa1 with exa2
            injection exa2 with exa3 exa4
            subst exa3 exa4
            exact ⟨q0, q1, hcx k hkl⟩))
          have hwx : IntKind.i64.wrap (dl.getD k 0) = dl.getD k 0 := by rw [IntKind.wrap_i64]; omega
          have CW := hide (fun (w1 : World) (kk : Kp wr w1) => (show Calls Try.prog 21 #[.pointer (some ⟨s, 0, none⟩), .int .i64 (IntKind.i64.wrap (dl.getD k 0))] w1 fun e w' => ∃ bb F2, e = .returned (.bool bb) ∧ Hid (TD w F (.slice ta m tc) w' s b T F2 ps (wakesS A (dl.take (k + 1))) (.slice (some ⟨lb, lo, none⟩) nl lc) (n + 1) tv' (told ++ [A.now]) D (.slice (some ⟨xb, xo, none⟩) wl wc') da) ∧ w'.cell? ⟨b, 0, none⟩ = some (.pointer (some ⟨s, 0, none⟩)) ∧ w'.cell? ⟨D, 0, none⟩ = some (.slice (some ⟨xb, xo, none⟩) wl wc') ∧ w'.cell? ⟨xb, xo + k, none⟩ = some (.int .u8 (dl.getD k 0)) from by
            rw [hwx, unhide ET]
            have t1 := (unhide TR).keep kk
            refine (wake_any s F' ps _ (dl.getD k 0) w1 t1.ts.sc).mono ?_
            rintro e w' ⟨rfl, F2, hs, hdd⟩
            have t2 := t1.sched hs hdd
            exact ⟨_, F2, rfl, t2, unhide HC w' F2 _ t2⟩))
          clear ET HC hx hwx hcx TR z1
          generalize dl.getD k 0 = x at *
          go_wp2_with fail
          go_region_held3 (fun w' => w'.cell? ⟨b, 0, none⟩ = some (.pointer (some ⟨s, 0, none⟩)) ∧ w'.cell? ⟨D, 0, none⟩ = some (.slice (some ⟨xb, xo, none⟩) wl wc') ∧ w'.cell? ⟨xb, xo + k, none⟩ = some (.int .u8 x)) (go_keep)
            (first
              | (go_at_call 21; refine ((unhide CW) _ ?_).mono ?_; (first | exact Kp.drew wr | exact Kp.refl wr); rintro e w3 ⟨bb, F3, rfl, TN, y0, y1, y2⟩))
          all_goals (
            clear y0 y1 y2 e0 z0 c0 CW
            go_wp2
            go_roundw
            case rel => exact ⟨k + 1, F3, by omega, by go_num, TN⟩
            case measure => simp [intOf]; omega)
        · have hkw : k = wl := by omega
          have HX : Hid (∃ F' tv', TS w F (.slice ta m tc) wr s b T F' ps (wakesS A (l.getD n d0).2.1) (.slice (some ⟨lb, lo, none⟩) l.length lc) (n + 1) tv' (told ++ [A.now])) := by
            have t := (unhide TR).ts
            rw [← unhide HNL] at t
            rw [List.take_of_length_le (by rw [unhide HWL]; omega)] at t
            rw [unhide HE]
            exact ⟨F', tv', t⟩
          have HV : Hid (Ending.returned (.int .i64 da) = .returned (.int .i64 (l.getD n d0).2.2)) := by
            rw [unhide HE]
            rfl
          clear TR
          go_wp2_with fail
          go_ret
          exact ⟨unhide HV, unhide HX⟩
    · have hltI : ¬ (n : Int) < (l.length : Int) := by omega
      have e0 : l.getD n d0 = d0 := by rw [List.getD_eq_getElem?_getD, List.getElem?_eq_none (by omega)]; rfl
      have e1 : (Value.slice wa wl wc', dl, da) = d0 := hdd.symm.trans e0
      have T3 : Hid (∀ k, TD w F (.slice ta m tc) (W2.drewN k) s b T F ps A (.slice la l.length lc) n tv' (told ++ [A.now]) D (.slice wa wl wc') da) := by
        intro k
        unfold d0 at e1
        simp only [Prod.mk.injEq] at e1
        rw [e1.1, e1.2.2]
        exact (unhide T2).keep (Kp.drewN W2 k)
      clear hcell hdd e0 e1
      generalize hnl : l.length = nl at *
      have HNL := hide hnl
      clear hnl
      go_quiet (fail)
      have T4 := hide (unhide T3 nq)
      clear T2 T3 f0 f1 z0 z1 d1' d2'
      generalize W2.drewN nq = W3 at *
      obtain ⟨e0, -, e2, -⟩ := (unhide T4).ts.tb.cells
      have ef := (unhide T4).ts.tb.frozen 2
      have T5 := hide ((unhide T4).step (n + 1))
      rw [show ((n + 1 : Nat) : Int) = (n : Int) + 1 by omega] at T5
      clear T4
      go_wp2_with fail
      generalize W3.setCell ⟨b, 2, none⟩ (.int .i64 ((n : Int) + 1)) = W4 at *
      clear e0 e2 ef
      go_loopw [4] (fun i wr => ∃ (k : Nat) (F' : Nat → Prop), k ≤ wl ∧ i = .int .i64 k ∧ Hid (TD w F (.slice ta m tc) wr s b T F' ps (wakesS A (dl.take k)) (.slice la nl lc) (n + 1) tv' (told ++ [A.now]) D (.slice wa wl wc') da)) (fun i _ => wl - (intOf i).toNat)
      case atStart => exact ⟨0, F, Nat.zero_le _, rfl, T5⟩
      case round =>
        obtain ⟨k, F', hk, rfl, TR⟩ := hrel
        obtain ⟨e0, -, -, -⟩ := (unhide TR).ts.tb.cells
        obtain ⟨z0, z1, -⟩ := (unhide TR).d.cells
        by_cases hkl : k < wl
        · have by1 := (unhide HY _ wr (unhide TR).ts.fr).1
          have hx := by1.1 (dl.getD k 0) (by rw [List.getD_eq_getElem?_getD, List.getElem?_eq_getElem (by rw [unhide HWL]; exact hkl)]; exact List.getElem_mem _)
          obtain ⟨-, -, xa, xc, exa, hcx⟩ := by1
          rw [unhide HWL] at exa hcx
          injection exa with exa1 exa2 exa3
          clear exa2 exa3
          obtain ⟨xb, xo, rfl, hxb, hcx⟩ := hcx (by omega)
          subst exa1
          have c0 := hcx k hkl
          have hkI : (k : Int) < (wl : Int) := by omega
          have hk62 : (k : Int) ≤ 4611686018427387904 := by have := unhide hwb; omega
          have ET : Hid (wakesS A (dl.take (k + 1)) = (wakeS (wakesS A (dl.take k)) (dl.getD k 0)).2) := by
            unfold Hid
            have hkd : k < dl.length := by rw [unhide HWL]; exact hkl
            rw [← wakesS_snoc, List.take_succ_eq_append_getElem hkd]
            congr 3
            simp [hkd]
          have HC := hide (fun (w' : World) (F2 : Nat → Prop) (A2 : SS) (t : TD w F (.slice ta m tc) w' s b T F2 ps A2 (.slice la nl lc) (n + 1) tv' (told ++ [A.now]) D (.slice (some ⟨xb, xo, none⟩) wl wc') da) => (show w'.cell? ⟨b, 0, none⟩ = some (.pointer (some ⟨s, 0, none⟩)) ∧ w'.cell? ⟨D, 0, none⟩ = some (.slice (some ⟨xb, xo, none⟩) wl wc') ∧ w'.cell? ⟨xb, xo + k, none⟩ = some (.int .u8 (dl.getD k 0)) from by
            obtain ⟨q0, -, -, -⟩ := t.ts.tb.cells
            obtain ⟨q1, -, -⟩ := t.d.cells
            obtain ⟨-, -, xa, xc, exa, hcx⟩ := (unhide HY _ w' t.ts.fr).1
            rw [unhide HWL] at exa hcx
            injection exa with exa1 _ _
            obtain ⟨xb2, xo2, e2, _, hcx⟩ := hcx (by omega)
            rw [e2] at exa1
            injection exa1 with exa2
            injection exa2 with exa3 exa4
            subst exa3 exa4
            exact ⟨q0, q1, hcx k hkl⟩))
          have hwx : IntKind.i64.wrap (dl.getD k 0) = dl.getD k 0 := by rw [IntKind.wrap_i64]; omega
          have CW := hide (fun (w1 : World) (kk : Kp wr w1) => (show Calls Try.prog 21 #[.pointer (some ⟨s, 0, none⟩), .int .i64 (IntKind.i64.wrap (dl.getD k 0))] w1 fun e w' => ∃ bb F2, e = .returned (.bool bb) ∧ Hid (TD w F (.slice ta m tc) w' s b T F2 ps (wakesS A (dl.take (k + 1))) (.slice la nl lc) (n + 1) tv' (told ++ [A.now]) D (.slice (some ⟨xb, xo, none⟩) wl wc') da) ∧ w'.cell? ⟨b, 0, none⟩ = some (.pointer (some ⟨s, 0, none⟩)) ∧ w'.cell? ⟨D, 0, none⟩ = some (.slice (some ⟨xb, xo, none⟩) wl wc') ∧ w'.cell? ⟨xb, xo + k, none⟩ = some (.int .u8 (dl.getD k 0)) from by
            rw [hwx, unhide ET]
            have t1 := (unhide TR).keep kk
            refine (wake_any s F' ps _ (dl.getD k 0) w1 t1.ts.sc).mono ?_
            rintro e w' ⟨rfl, F2, hs, hdd⟩
            have t2 := t1.sched hs hdd
            exact ⟨_, F2, rfl, t2, unhide HC w' F2 _ t2⟩))
          clear ET HC hx hwx hcx TR z1
          generalize dl.getD k 0 = x at *
          go_wp2_with fail
          go_region_held3 (fun w' => w'.cell? ⟨b, 0, none⟩ = some (.pointer (some ⟨s, 0, none⟩)) ∧ w'.cell? ⟨D, 0, none⟩ = some (.slice (some ⟨xb, xo, none⟩) wl wc') ∧ w'.cell? ⟨xb, xo + k, none⟩ = some (.int .u8 x)) (go_keep)
            (first
              | (go_at_call 21; refine ((unhide CW) _ ?_).mono ?_; (first | exact Kp.drew wr | exact Kp.refl wr); rintro e w3 ⟨bb, F3, rfl, TN, y0, y1, y2⟩))
          all_goals (
            clear y0 y1 y2 e0 z0 c0 CW
            go_wp2
            go_roundw
            case rel => exact ⟨k + 1, F3, by omega, by go_num, TN⟩
            case measure => simp [intOf]; omega)
        · have hkw : k = wl := by omega
          have HX : Hid (∃ F' tv', TS w F (.slice ta m tc) wr s b T F' ps (wakesS A (l.getD n d0).2.1) (.slice la l.length lc) (n + 1) tv' (told ++ [A.now])) := by
            have t := (unhide TR).ts
            rw [← unhide HNL] at t
            rw [List.take_of_length_le (by rw [unhide HWL]; omega)] at t
            rw [unhide HE]
            exact ⟨F', tv', t⟩
          have HV : Hid (Ending.returned (.int .i64 da) = .returned (.int .i64 (l.getD n d0).2.2)) := by
            rw [unhide HE]
            rfl
          clear TR
          go_wp2_with fail
          go_ret
          exact ⟨unhide HV, unhide HX⟩

end Go.Proofs.Ytenbmfhhmbfgoaa
