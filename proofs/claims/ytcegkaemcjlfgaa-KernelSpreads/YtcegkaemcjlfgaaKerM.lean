
/- The contract of the document's own Gather, where it makes a tensor. -/
import Derived.Test.YtcegkaemcjlfgaaKerL
import Derived.Deep.RegionLaw
import Derived.Deep.RegionHeld3
namespace Go.Proofs.Ytcegkaemcjlfgaa
open Go.RowKit

/-- 'append(row, x)' as one step of a region that draws -/
theorem step_append_row {ops : Array Oper} {o : Oper} {a : Act} {w : World} {K : Act → World → Prop} {Q : Exit → Act → World → Prop} {E : Prop}
    (hg : o.guard = none) (s x : Operand) (hop : o.op = Op.call { callee := Callee.builtin Builtin.append, args := #[s, x], argTypes := #[23, 23] })
    (base : Nat) (v : Value) (xs : List Nat) (ad : Addr) (y : Nat) (hs : a.eval s = v) (hx : a.eval x = .slice (some ad) 1 1) (hv : OwnF w 38 base v xs) (hu : Flts w (.slice (some ad) 1 1) [y]) (hroom : xs.length + 1 ≤ 1000000) (hbase : base ≤ w.heap.size)
    (R k : Nat) (vs : List Value) (hb : BlkS w R vs) (hk : k < vs.length)
    (h : ∀ b n c w', Hid (OwnF w' 38 base (.slice b n c) (xs ++ [y]) ∧ w.grownBy w' v.ownBlock ∧ ((Value.slice b n c).ownBlock = v.ownBlock ∨ ∀ q, (Value.slice b n c).ownBlock = some q → w.heap.size ≤ q)) → w'.cell? ⟨R, k, none⟩ = some (vs.getD k (.slice none 0 0)) → w'.frozen? ⟨R, k, none⟩ = false → K (a.put o.dst (.slice b n c)) w') :
    if Region.wanted o (yielded ops a.tmps) = true then Oper.wp Try.prog o a w K Q else E := by
  have hw : Region.wanted o (yielded ops a.tmps) = true := by simp [Region.wanted, hg]
  rw [if_pos hw]
  obtain ⟨b, n, c, w', hrun, h1, h2, h3⟩ := run_append_row (P := Try.prog) w base 23 o.type 38 infoFlt4 Try.underlying23 v xs ad 1 1 [y] rfl (by decide) hv hu hroom hbase
  have hb2 := hb.grown h2 (hv.neS hb)
  unfold Oper.wp
  simp [execOp, hop, resolve, invoke, builtin, hs, hx, hrun, Result.andThen]
  exact h b n c w' ⟨h1, h2, h3⟩ (hb2.cell hk) (hb2.frozen k)

theorem pick_len2 : ∀ (s : List Int) (x : List Nat) (k : Int), (pick s x k).length ≤ x.length
  | [], _, _ => by simp [pick]
  | _ :: _, [], _ => by simp [pick]
  | a :: s, b :: x, k => by
    have := pick_len2 s x k
    simp only [pick]
    split <;> simp <;> omega

set_option maxHeartbeats 4000000 in
theorem rgat_yes (sv dv u : Value) (t f : List Int) (d : List Nat) (w : World) (h : Ints w sv t) (hd : Flts w dv d) (h' : Ints w u f) (hm : mayT t d = true) (hi : intoB f t = true) :
    Calls Try.prog 11 #[.agg #[sv, dv], u] w fun e w' => ∃ a1 n1 c1 G c ds, e = .returned (.tuple #[.agg #[.slice a1 n1 c1, .slice (some ⟨G, 0, none⟩) ds.length c], .int .i64 0]) ∧ Fin w w' f a1 n1 c1 G c ds ∧ mayT f ds = true ∧ (∀ x ∈ ds, W64 x) ∧ ∀ j, j < ds.length → cn (ds.getD j 0) = foldC (pick (srcL f t) d (j : Int)) := by
  have H := hide h
  have HD := hide hd
  have H' := hide h'
  have WD := hide hd.wf
  have HM1 := hide hm
  have HM2 := hide hi
  have MF := hide (into_spec hi).1
  have hl4 : t.length ≤ 4 := (may_good (into_spec hi).2.1).1
  have hlf : f.length ≤ t.length := (into_spec hi).2.2.1
  have hdl := mayT_len hm
  have hdm : d.length ≤ 4096 := by have := may_prod (mayT_may hm); omega
  have LS : Hid ((srcL f t).length = d.length) := by unfold Hid; rw [srcL_length]; omega
  have HDL := hide hdl
  obtain ⟨p2, cp2, rfl, -⟩ := h.val
  obtain ⟨p, cp, rfl, -⟩ := hd.val
  obtain ⟨p3, cp3, rfl, -⟩ := h'.val
  clear h hd h' hm hi hdl
  go_enter Try.func11, Try.ntmps11
  go_wp2_with fail
  obtain ⟨W, hW, x1, x2, k0⟩ := boxes_in w (.slice p2 t.length cp2) (.slice p d.length cp) (.slice none 0 0) (.slice none 0 0)
  rw [← hW]
  clear hW
  have X1 := hide x1
  have X2 := hide x2
  have K0 := hide k0
  clear x1 x2 k0
  have hQS : Hid (w.heap.size ≤ w.heap.size + 1) := Nat.le_succ _
  generalize w.heap.size + 1 = Q at X2 hQS ⊢
  generalize w.heap.size = B at X1 ⊢
  obtain ⟨c0, c1, -, -, -⟩ := (unhide X1).o
  try go_wp2_with fail
  refine (rmayT_any _ _ t d W ((unhide H).keep (unhide K0)) ((unhide HD).keep (unhide K0))).mono ?_
  rw [unhide HM1]
  rintro e w1 ⟨rfl, k1⟩
  clear c0 c1
  have Y1 := hide ((unhide X1).keep k1)
  have Y2 := hide ((unhide X2).keep k1)
  have K1 := hide ((unhide K0).trans k1)
  obtain ⟨c0, c1, -, -, -⟩ := (unhide Y1).o
  clear k1 X1 X2 K0
  go_wp2_with fail
  refine (rinto_any _ _ f t w1 ((unhide H').keep (unhide K1)) ((unhide H).keep (unhide K1))).mono ?_
  rw [unhide HM2]
  rintro e w2 ⟨rfl, k2⟩
  clear c0 c1
  have X1 := hide ((unhide Y1).keep k2)
  have X2 := hide ((unhide Y2).keep k2)
  have K2 := hide ((unhide K1).trans k2)
  clear k2 Y1 Y2 K1
  go_wp2_with fail
  refine (rnew_yes _ f 0 w2 ((unhide H').keep (unhide K2)) (unhide MF)).mono ?_
  rintro e w3 ⟨a1, n1, c1, G, n, rfl, hn, o1, hG, og, k3⟩
  have hnm : n ≤ 4096 := by have := may_prod (unhide MF); omega
  have HN : Hid (prodL f = (n : Int)) := hn.symm
  have GS : Hid (w.heap.size ≤ G) := Nat.le_trans (unhide K2).size hG
  have hBG : ¬ B = G := by have := (unhide X1).lt; omega
  have hQG : ¬ Q = G := by have := (unhide X2).lt; omega
  have GL : Hid (G < w3.heap.size) := og.lt
  have O3 := hide (o1.weak (unhide K2).size)
  have G3 := hide og
  have Y1 := hide ((unhide X1).keep k3)
  have Y2 := hide ((unhide X2).keep k3)
  have K3 := hide ((unhide K2).trans k3)
  clear o1 og k3 X1 X2 K2 hG hn
  go_upto_region 4 with fail
  have TB0 := hide (Bx.made w3 (.slice a1 n1 c1) (.slice (some ⟨G, 0, none⟩) n n))
  have qa := Kp.alloc w3 (.cells #[.slice a1 n1 c1, .slice (some ⟨G, 0, none⟩) n n] 25)
  have hTG : ¬ w3.heap.size = G := by have := unhide GL; omega
  have GL4 : Hid (G < (w3.alloc (.cells #[.slice a1 n1 c1, .slice (some ⟨G, 0, none⟩) n n] 25)).heap.size) := Nat.lt_of_lt_of_le (unhide GL) qa.size
  have O4 := hide ((unhide O3).keep qa)
  have G4 := hide ((unhide G3).keep qa)
  have X1 := hide ((unhide Y1).keep qa)
  have X2 := hide ((unhide Y2).keep qa)
  have K4 := hide ((unhide K3).trans qa)
  clear qa O3 G3 Y1 Y2 K3 GL
  generalize w3.alloc (.cells #[.slice a1 n1 c1, .slice (some ⟨G, 0, none⟩) n n] 25) = w4 at *
  generalize w3.heap.size = T at *
  obtain ⟨t0, t1, -, -, -⟩ := (unhide TB0).o
  have hmk := mk_rows n hnm
  go_upto_region 5 with fail
  clear hmk t0 t1
  have RI0 := hide (RowsI.start w4 w4.heap.size n)
  have qa := Kp.alloc w4 (.cells (madeCells #[.slice none 0 0] n) 23)
  have hRS : w4.heap.size ≤ w4.heap.size := Nat.le_refl _
  have K5 := hide qa
  clear qa
  generalize w4.alloc (.cells (madeCells #[.slice none 0 0] n) 23) = w5 at *
  generalize hRq : w4.heap.size = R at RI0 ⊢
  replace hRS : w4.heap.size ≤ R := by omega
  have hRG : ¬ R = G := by have := unhide GL4; omega
  rw [← hRq] at RI0
  rw [show (RowsI w5 w4.heap.size w4.heap.size n (List.replicate n (.slice none 0 0)) fun _ => []) = RowsI w5 w4.heap.size R n (List.replicate n (.slice none 0 0)) fun _ => [] by rw [hRq]] at RI0
  clear hRq
  go_wp2
  go_loopw [9] (fun i wr => ∃ (j : Nat) (vs : List Value), j ≤ d.length ∧ i = .int .i64 j ∧ Hid (RowsI wr w4.heap.size R n vs (fun k => pick ((srcL f t).take j) (d.take j) (k : Int))) ∧ Hid (Kp w4 wr)) (fun i _ => d.length - (intOf i).toNat)
  case atStart => exact ⟨0, _, Nat.zero_le _, rfl, (unhide RI0).as (fun k hk => by simp [pick]), unhide K5⟩
  case round =>
    obtain ⟨j, vs, hj, rfl, RI, KI⟩ := hrel
    obtain ⟨c0, c1, -, -, -⟩ := ((unhide X1).keep (unhide KI)).o
    by_cases hlt : j < d.length
    · have hjt : (j : Int) < prodL t := by have := unhide HDL; omega
      have hus := usrc_bounds (unhide HM2) (j := j) (by omega)
      obtain ⟨k, hk⟩ := Int.eq_ofNat_of_zero_le hus.1
      have hkn : k < n := by have := unhide HN; omega
      have KW := hide ((unhide K4).trans (unhide KI))
      have EP : Hid (plN t (j : Int) = plc t (j : Int)) := plN_yes (into_spec (unhide HM2)).2.1 (by omega) hjt
      have EI : Hid (ixN f (clip f (plc t (j : Int))) = (k : Int)) := (ix_clip (unhide HM2) hjt).trans hk
      have ES : Hid ((srcL f t).getD j 0 = (k : Int)) := by unfold Hid; rw [srcL_getD (by omega)]; exact hk
      have hjd : (j : Int) < (d.length : Int) := by omega
      clear hus hk
      go_wp2_with fail
      refine (rplace_any (.slice p2 t.length cp2) t (j : Int) wr ((unhide H).keep (unhide KW)) (by unfold I64; omega)).mono ?_
      rw [unhide EP]
      rintro e w6 ⟨u1, rfl, hu, -, k6⟩
      clear c0 c1
      have U6 := hide hu
      obtain ⟨ap, cq, rfl, -⟩ := hu.val
      have R6 := hide ((unhide RI).keep k6)
      have K6 := hide ((unhide KI).trans k6)
      have KW6 := hide ((unhide KW).trans k6)
      clear hu k6 RI KI KW
      generalize (plc t (j : Int)).length = pl at *
      go_wp2_with fail
      refine (under_any (.slice p3 f.length cp3) _ f (plc t (j : Int)) w6 ((unhide H').keep (unhide KW6)) (unhide U6) (by rw [plc_length]; exact hlf) (by rw [plc_length]; exact hl4)).mono ?_
      rw [unhide EI]
      rintro e w7 ⟨rfl, k7⟩
      have R7 := hide ((unhide R6).keep k7)
      have K7 := hide ((unhide K6).trans k7)
      have KW7 := hide ((unhide KW6).trans k7)
      clear k7 R6 K6 KW6 U6
      obtain ⟨b, off, rfl, hb, hc⟩ := flts_at (unhide HD) (by omega)
      have hck := (Below.cell (unhide KW7) (p := ⟨b, off + j, none⟩) hb).trans (hc j hlt)
      have hbw : b < w7.heap.size := Nat.lt_of_lt_of_le hb (unhide KW7).size
      have WX := hide (getD_w64 (unhide WD) j)
      have x7 := (unhide X1).keep (unhide K7)
      obtain ⟨c0, c1, -, -, c4⟩ := x7.o
      clear x7
      have EPK : Hid (∀ l, l < n → (if l = k then pick ((srcL f t).take j) (d.take j) (k : Int) ++ [d.getD j 0] else pick ((srcL f t).take j) (d.take j) (l : Int)) = pick ((srcL f t).take (j + 1)) (d.take (j + 1)) (l : Int)) := by
        intro l hl
        rw [pick_take _ (by have := unhide LS; omega) hlt, unhide ES]
        by_cases e : l = k
        · rw [if_pos e, e, if_pos rfl]
        · rw [if_neg e, if_neg (by omega), List.append_nil]
      have PL : Hid ((pick ((srcL f t).take j) (d.take j) (k : Int)).length + 1 ≤ 1000000) := by
        have := pick_len2 ((srcL f t).take j) (d.take j) (k : Int)
        rw [List.length_take] at this
        unfold Hid
        omega
      have hvl : k < vs.length := by rw [(unhide R7).len]; exact hkn
      have hcR := (unhide R7).blk.cell hvl
      have hfR := (unhide R7).blk.frozen k
      have hRl : R < w7.heap.size := (unhide R7).blk.lt
      have OV := hide ((unhide R7).own k hkn)
      obtain ⟨a0, n0, cc0, hv0⟩ := (unhide OV).sl
      have HV0 := hide hv0
      rw [hv0] at hcR OV
      clear hc hv0 hb
      generalize d.getD j 0 = x at *
      have qa := (Kp.alloc w7 (.cells #[.float .f64 x] 38)).trans (Kp.drew _)
      have OV' := hide ((unhide OV).keep qa)
      have BV' := hide ((unhide R7).blk.keep qa)
      have LU : Hid (Flts (w7.alloc (.cells #[.float .f64 x] 38)).drew (.slice (some ⟨w7.heap.size, 0, none⟩) 1 1) [x]) := (lit_flts w7 38 [x] #[.float .f64 x] w7.heap.size 1 rfl rfl rfl (by intro y hy; rw [List.mem_singleton.1 hy]; exact unhide WX) (by decide)).keep (Kp.drew _)
      have BS : Hid (w4.heap.size ≤ (w7.alloc (.cells #[.float .f64 x] 38)).drew.heap.size) := Nat.le_trans (unhide K7).size qa.size
      have QA := hide qa
      have hkI : (k : Int) < (n : Int) := by omega
      clear qa WX
      go_upto_region 9 with fail
      go_region_law (refine step_append_row rfl (.tmp 50) (.tmp 56) rfl w4.heap.size (.slice a0 n0 cc0) (pick ((srcL f t).take j) (d.take j) (k : Int)) ⟨w7.heap.size, 0, none⟩ x (by simp [Act.eval]) (by simp [Act.eval]) (unhide OV') (unhide LU) (unhide PL) (unhide BS) R k vs (unhide BV') hvl ?_; intro b2 n2 c2 w8 F8 g0 g1)
      all_goals (
        have RN := hide (((unhide R7).step (unhide QA) hkn (unhide F8).1 (by rw [unhide HV0]; exact (unhide F8).2.1) (by rw [unhide HV0]; exact (unhide F8).2.2)).as (unhide EPK))
        have KN := hide ((((unhide K7).trans (unhide QA)).of_grown (unhide F8).2.1 (fun q hq => (unhide OV').block q hq)).set hRS (i := k) (.slice b2 n2 c2))
        clear g0 g1 hcR hfR hck c0 c1 c4 hRl hbw OV OV' BV' LU BS QA
        generalize w8.setCell { block := R, off := k } (Value.slice b2 n2 c2) = w9 at *)
      all_goals (
        go_wp2
        go_roundw
        case rel => exact ⟨j + 1, _, by omega, by go_num, unhide RN, unhide KN⟩
        case measure => simp [intOf]; omega)
    · obtain rfl : j = d.length := by omega
      have RD : Hid (RowsI wr w4.heap.size R n vs (fun k => pick (srcL f t) d (k : Int))) := (unhide RI).as (fun k hk => by rw [List.take_of_length_le (l := srcL f t) (by have := unhide LS; omega), List.take_of_length_le (l := d) (Nat.le_refl _)])
      have G6 := hide ((unhide G4).keep (unhide KI))
      have O6 := hide ((unhide O4).keep (unhide KI))
      have X6 := hide ((unhide X1).keep (unhide KI))
      have Q6 := hide ((unhide X2).keep (unhide KI))
      have T6 := hide ((unhide TB0).keep (unhide KI))
      have K6 := hide ((unhide K4).trans (unhide KI))
      clear RI KI G4 O4 X1 X2 TB0 K4 RI0 K5
      generalize wr = w6 at *
      go_wp2
      clear c0 c1
      have hst : ∀ (a : Addr) (x : Nat) (w : World), (store a (.float .f64 x)).run Try.prog w = stored Try.prog w a (.float .f64 x) .plain := fun a x w => run_store _ w a _ _ rfl
      go_loopw [11] (fun i wr => ∃ (k : Nat) (ms : List Nat), k ≤ n ∧ i = .int .i64 k ∧ ms.length = k ∧ Hid (OwnG wr 38 G n n (ms ++ List.replicate (n - k) 0)) ∧ Hid (∀ x ∈ ms, W64 x) ∧ Hid (∀ j, j < k → cn (ms.getD j 0) = foldC (pick (srcL f t) d (j : Int))) ∧ Hid (Kx G w6 wr)) (fun i _ => n - (intOf i).toNat)
      case atStart => exact ⟨0, [], Nat.zero_le _, rfl, rfl, by simpa using G6, by simp [Hid], by unfold Hid; omega, Kx.refl _ _⟩
      case round =>
        obtain ⟨k, ms, hk, rfl, hm, OG, HM, HR, KX⟩ := hrel
        have tb := (unhide T6).keepx (unhide KX) hTG
        by_cases hlt : k < n
        · have hvl : k < vs.length := by rw [(unhide RD).len]; exact hlt
          have hRl : R < w6.heap.size := (unhide RD).blk.lt
          have hcR : wr.cell? ⟨R, k, none⟩ = some (vs.getD k (.slice none 0 0)) := ((unhide KX).cell (p := ⟨R, k, none⟩) hRl hRG).trans ((unhide RD).blk.cell hvl)
          have hRl2 : R < wr.heap.size := Nat.lt_of_lt_of_le hRl (unhide KX).size
          have ov := (unhide RD).own k hlt
          have ow := ov.grown (unhide KX) (by
            cases hb : (vs.getD k (.slice none 0 0)).ownBlock with
            | none => exact .inl rfl
            | some q =>
              right
              intro e
              cases e
              have := ov.block _ hb
              have := unhide GL4
              omega)
          obtain ⟨a0, n0, cc0, hv0⟩ := ow.sl
          rw [hv0] at ow hcR
          have WP : Hid (∀ x ∈ pick (srcL f t) d (k : Int), W64 x) := fun x hx => unhide WD x (pick_mem hx)
          have FL := hide (ow.flts (unhide WP) (by have := pick_len2 (srcL f t) d (k : Int); omega))
          have LNS := hide (fun a n c e => ow.lens a n c e)
          have hlen : (ms ++ List.replicate (n - k) 0).length = n := by rw [List.length_append, List.length_replicate]; omega
          have hgc := (unhide OG).cell hlt
          have hgf := (unhide OG).frozen k
          have CC := hide (fun w0 (kp : Kp wr w0) => (rfold_any _ (.slice a0 n0 cc0) (pick (srcL f t) d (k : Int)) w0 (Nat.le_refl _) ((unhide FL).keep kp) (unhide LNS)).mono (R' := fun e w' => ∃ r, e = .returned (.float .f64 r) ∧ Hid (cn r = foldC (pick (srcL f t) d (k : Int)) ∧ W64 r) ∧ Hid (Kp wr w') ∧ w'.cell? ⟨T, 1, none⟩ = some (.slice (some ⟨G, 0, none⟩) n n) ∧ w'.cell? ⟨R, k, none⟩ = some (.slice a0 n0 cc0) ∧ w'.cell? ⟨G, k, none⟩ = some (.float .f64 ((ms ++ List.replicate (n - k) 0).getD k 0)) ∧ w'.frozen? ⟨G, k, none⟩ = false) (by
            rintro e w' ⟨r, rfl, hr, -, k'⟩
            exact ⟨r, rfl, hr, kp.trans k', (tb.keep (kp.trans k')).c1, (Below.cell (kp.trans k') (p := ⟨R, k, none⟩) hRl2).trans hcR, ((unhide OG).keep (kp.trans k')).cell hlt, ((unhide OG).keep (kp.trans k')).frozen k⟩))
          obtain ⟨t0, t1, -, -, -⟩ := tb.o
          have hs1 : ∀ (w : World) (v : Value) (o : Nat), (w.setCell ⟨G, k, none⟩ v).cell? ⟨T, o, none⟩ = w.cell? ⟨T, o, none⟩ := fun w v o => cell_other hTG w v
          have hs2 : ∀ (w : World) (v : Value) (o : Nat), (w.setCell ⟨G, k, none⟩ v).cell? ⟨R, o, none⟩ = w.cell? ⟨R, o, none⟩ := fun w v o => cell_other hRG w v
          have HR' : Hid (∀ r, cn r = foldC (pick (srcL f t) d (k : Int)) → ∀ j, j < k + 1 → cn ((ms ++ [r]).getD j 0) = foldC (pick (srcL f t) d (j : Int))) := by
            intro r hr j hj
            by_cases e : j = k
            · subst e
              have : (ms ++ [r]).getD j 0 = r := by rw [← hm]; exact getDN_last
              rw [this]
              exact hr
            · rw [getDN_app_l (by omega)]
              exact unhide HR j (by omega)
          have HDs : Hid (∀ r, (ms ++ List.replicate (n - k) 0).set k r = (ms ++ [r]) ++ List.replicate (n - (k + 1)) 0) := by
            intro r
            rw [List.set_append_right _ _ (by omega), hm, Nat.sub_self, show n - k = (n - (k + 1)) + 1 by omega, List.replicate_succ (n := n - (k + 1)), List.set_cons_zero]
            simp
          have HL2 : Hid (∀ r, (ms ++ [r]).length = k + 1) := by intro r; simp [hm]
          have hkn : (k : Int) < (n : Int) := by omega
          clear tb ov ow hv0 hlen hRl hRl2 WP
          generalize (ms ++ List.replicate (n - k) 0).getD k 0 = old at *
          go_wp2_with fail
          go_region_held3 (fun w' => w'.cell? ⟨T, 1, none⟩ = some (.slice (some ⟨G, 0, none⟩) n n) ∧ w'.cell? ⟨R, k, none⟩ = some (.slice a0 n0 cc0)) (go_keep)
            (first
              | (go_at_call 28; refine ((unhide CC) _ ?_).mono ?_; (first | (exact unhide (by assumption)) | exact Kp.drew wr); rintro e w7 ⟨r, rfl, RR, K7, e1, e2, e3, e4⟩))
          all_goals (
            have OG' := hide (((unhide OG).keep (unhide K7)).set k r)
            rw [unhide HDs r] at OG'
            have KX' := hide (((unhide KX).kp (unhide K7)).set k (.float .f64 r))
            have HM' : Hid (∀ x ∈ ms ++ [r], W64 x) := by
              intro y hy
              rcases List.mem_append.1 hy with h | h
              · exact unhide HM y h
              · rw [List.mem_singleton.1 h]
                exact (unhide RR).2
            have HR2 := hide (unhide HR' r (unhide RR).1)
            clear e1 e2 e3 e4 hgc hgf hcR t0 t1 hs1 hs2
            generalize w7.setCell { block := G, off := k } (Value.float FloatKind.f64 r) = w8 at *)
          all_goals (
            go_wp2
            go_roundw
            case rel => exact ⟨k + 1, ms ++ [r], by omega, by go_num, unhide HL2 r, unhide OG', unhide HM', unhide HR2, unhide KX'⟩
            case measure => simp [intOf]; omega)
        · obtain rfl : k = n := by omega
          rw [Nat.sub_self, List.replicate_zero, List.append_nil] at OG
          obtain ⟨t0, t1, -, -, -⟩ := tb.o
          have rb := (unhide Q6).keepx (unhide KX) hQG
          obtain ⟨r0, r1, r2, r3, -⟩ := rb.o
          have z2 := rb.set (.slice a1 n1 c1) (.slice (some ⟨G, 0, none⟩) k k)
          obtain ⟨z0, z1, -, -, -⟩ := z2.o
          have FN : Hid (Fin w ((wr.setCell ⟨Q, 0, none⟩ (.slice a1 n1 c1)).setCell ⟨Q, 1, none⟩ (.slice (some ⟨G, 0, none⟩) k k)) f a1 n1 c1 G k ms) := by
            refine ⟨((unhide O6).keepx (unhide G6) (by decide) (unhide KX)).setBx rb (by decide) _ _, unhide GS, ?_, ((Kx.after (unhide K6) (unhide KX) (unhide GS)).set (unhide hQS) (i := 0) _).set (unhide hQS) (i := 1) _⟩
            have := (unhide OG).setBx rb (by decide) (.slice a1 n1 c1) (.slice (some ⟨G, 0, none⟩) k k)
            rw [hm]
            exact this
          have MT : Hid (mayT f ms = true) := by
            unfold Hid mayT
            rw [unhide MF, hm, unhide HN]
            simp
          have HR3 : Hid (∀ j, j < ms.length → cn (ms.getD j 0) = foldC (pick (srcL f t) d (j : Int))) := fun j hj => unhide HR j (by omega)
          clear z2 rb tb
          go_wp2
          generalize ((wr.setCell ⟨Q, 0, none⟩ (.slice a1 n1 c1)).setCell ⟨Q, 1, none⟩ (.slice (some ⟨G, 0, none⟩) k k)) = w9 at *
          refine bodyPost_ret (v := .tuple #[.agg #[.slice a1 n1 c1, .slice (some ⟨G, 0, none⟩) k k], .int .i64 0]) (by simp [results, Try.results11, go_sem, z0, z1]) rfl ⟨a1, n1, c1, G, k, ms, by rw [hm], unhide FN, unhide MT, unhide HM, unhide HR3⟩

theorem rgat_all (sv dv u : Value) (t f : List Int) (d : List Nat) (w : World) (h : Ints w sv t) (hd : Flts w dv d) (h' : Ints w u f) :
    Calls Try.prog 11 #[.agg #[sv, dv], u] w fun e w' => ∃ ds, Hands e w' (gatS t d f) ds (gatE t d f) ∧ ds.map cn = gatL t d f ∧ Kp w w' := by
  cases hm : (mayT t d && intoB f t)
  · obtain ⟨e1, e2, e3⟩ := gat_no hm
    rw [e1, e2, e3]
    refine (rgat_no sv dv u t f d w h hd h' hm).mono ?_
    rintro e w' ⟨rfl, k⟩
    exact ⟨[], Hands.nil _ _, rfl, k⟩
  · obtain ⟨e1, e2, e3⟩ := gat_yes hm
    rw [e1, e2, e3]
    simp only [Bool.and_eq_true] at hm
    refine (rgat_yes sv dv u t f d w h hd h' hm.1 hm.2).mono ?_
    rintro e w' ⟨a1, n1, c1, G, c, ds, rfl, fn, hmt, hw, hr⟩
    exact ⟨ds, Hands.fin fn hmt h'.wf hw, cn_list (by have := mayT_len hmt; omega) hr, fn.kp⟩

end Go.Proofs.Ytcegkaemcjlfgaa
