
/- Contracts of the document's own Reshape, and of what holds an answer against the document's. -/
import Derived.Test.YtcegkaemcjlfgaaKerM
namespace Go.Proofs.Ytcegkaemcjlfgaa
open Go.RowKit

/-- 'append(nil, s...)' as one step of a region that draws; S: what abides -/
theorem step_nilF {ops : Array Oper} {o : Oper} {a : Act} {w : World} {K : Act → World → Prop} {Q : Exit → Act → World → Prop} {E : Prop} (S : World → Prop)
    (hg : o.guard = none) (s x : Operand) (hop : o.op = Op.call { callee := Callee.builtin Builtin.append, args := #[s, x], argTypes := #[23, 23] })
    (u : Value) (ys : List Nat) (hs : a.eval s = .slice none 0 0) (hx : a.eval x = u) (w0 : World) (kp : Kp w0 w) (hu : Flts w0 u ys) (hroom : ys.length ≤ 1000000) (hS : ∀ w1, Kp w0 w1 → S w1)
    (h : ∀ b n c w', Hid (OwnF w' 38 w0.heap.size (.slice b n c) ys) → Hid (Kp w w') → Hid (Kp w0 w') → S w' → K (a.put o.dst (.slice b n c)) w') :
    if Region.wanted o (yielded ops a.tmps) = true then Oper.wp Try.prog o a w K Q else E := by
  have hw : Region.wanted o (yielded ops a.tmps) = true := by simp [Region.wanted, hg]
  rw [if_pos hw]
  obtain ⟨v', w', hrun, h1, h2⟩ := run_append_flts (P := Try.prog) w w.heap.size 23 o.type 38 infoFlt4 Try.underlying23 (.slice none 0 0) u [] ys (OwnF.nil _ _ _) (hu.keep kp) (by simp; omega) (Nat.le_refl _)
  have k2 : Kp w w' := (Kp.refl w).of_grown h2 (fun k hk => (OwnF.nil w 38 w.heap.size).block k hk)
  rw [List.nil_append] at h1
  obtain ⟨b, n, c, rfl⟩ := h1.sl
  unfold Oper.wp
  simp [execOp, hop, resolve, invoke, builtin, hs, hx, hrun, Result.andThen]
  exact h b n c w' (h1.weak kp.size) k2 (kp.trans k2) (hS _ (kp.trans k2))
theorem step_nilI {ops : Array Oper} {o : Oper} {a : Act} {w : World} {K : Act → World → Prop} {Q : Exit → Act → World → Prop} {E : Prop} (S : World → Prop)
    (hg : o.guard = none) (s x : Operand) (hop : o.op = Op.call { callee := Callee.builtin Builtin.append, args := #[s, x], argTypes := #[22, 22] })
    (u : Value) (ys : List Int) (hs : a.eval s = .slice none 0 0) (hx : a.eval x = u) (w0 : World) (kp : Kp w0 w) (hu : Ints w0 u ys) (hroom : ys.length ≤ 1000000) (hS : ∀ w1, Kp w0 w1 → S w1)
    (h : ∀ b n c w', Hid (Own w' 3 w0.heap.size (.slice b n c) ys) → Hid (Kp w w') → Hid (Kp w0 w') → S w' → K (a.put o.dst (.slice b n c)) w') :
    if Region.wanted o (yielded ops a.tmps) = true then Oper.wp Try.prog o a w K Q else E := by
  have hw : Region.wanted o (yielded ops a.tmps) = true := by simp [Region.wanted, hg]
  rw [if_pos hw]
  obtain ⟨v', w', hrun, h1, h2⟩ := run_append_ints (P := Try.prog) w w.heap.size 22 o.type 3 Try.infoInt Try.underlying22 (.slice none 0 0) u [] ys (Own.nil _ _ _) (hu.keep kp) (by simp; omega) (Nat.le_refl _)
  have k2 : Kp w w' := (Kp.refl w).of_grown h2 (fun k hk => (Own.nil w 3 w.heap.size).block k hk)
  rw [List.nil_append] at h1
  obtain ⟨b, n, c, rfl⟩ := h1.sl
  unfold Oper.wp
  simp [execOp, hop, resolve, invoke, builtin, hs, hx, hrun, Result.andThen]
  exact h b n c w' (h1.weak kp.size) k2 (kp.trans k2) (hS _ (kp.trans k2))

/-- two rows of the call's own, laid into the box of the result -/
theorem fin_two {w w2 wx : World} {R : Nat} {t : List Int} {d : List Nat} {a1 a2 : Option Addr} {m1 c1 m2 c2 : Nat} {x y : Value} (K2 : Kp w w2) (K : Kp w2 wx) (oi : Own wx 3 w2.heap.size (.slice a1 m1 c1) t) (of : OwnF wx 38 w2.heap.size (.slice a2 m2 c2) d)
    (hb : Bx w2 R x y) (hR : w.heap.size ≤ R) (hd : 0 < d.length) :
    ∃ G c, a2 = some ⟨G, 0, none⟩ ∧ (m2 = d.length ∧ c2 = c) ∧ Fin w ((wx.setCell ⟨R, 0, none⟩ (.slice a1 m1 c1)).setCell ⟨R, 1, none⟩ (.slice a2 m2 c2)) t a1 m1 c1 G c d := by
  obtain ⟨G, c, hG, e, og⟩ := of.g hd
  injection e with e1 e2 e3
  subst e1 e2 e3
  exact ⟨G, c2, rfl, ⟨rfl, rfl⟩, Fin.mk' oi hG og K2 K hb hR⟩

set_option maxHeartbeats 1000000 in
theorem rreshape_no (sv dv u : Value) (f t : List Int) (d : List Nat) (w : World) (h : Ints w sv f) (hd : Flts w dv d) (h' : Ints w u t) (hm : (mayT f d && mayT t d) = false) :
    Calls Try.prog 13 #[.agg #[sv, dv], u] w fun e w' => e = .returned (.tuple #[.agg #[.slice none 0 0, .slice none 0 0], .int .i64 (rshE f d t)]) ∧ Kp w w' := by
  have H := hide h
  have HD := hide hd
  have H' := hide h'
  have hr := hd.room
  obtain ⟨p, cp, rfl, -⟩ := hd.val
  clear h hd h'
  have hRS : Hid (w.heap.size ≤ w.heap.size + 1) := Nat.le_succ _
  cases hm1 : mayT f d
  · have HM1 := hide hm1
    have EE := hide (rshE_no (t := t) hm1)
    clear hm hm1
    go_enter Try.func13, Try.ntmps13
    go_wp2_with fail
    obtain ⟨W, hW, x1, x2, k0⟩ := boxes_in w sv (.slice p d.length cp) (.slice none 0 0) (.slice none 0 0)
    rw [← hW]
    clear hW
    have X1 := hide x1
    have X2 := hide x2
    have K0 := hide k0
    clear x1 x2 k0
    generalize w.heap.size + 1 = R at X2 hRS ⊢
    generalize w.heap.size = B at X1 ⊢
    obtain ⟨c0, c1, -, -, -⟩ := (unhide X1).o
    try go_wp2_with fail
    refine (rmayT_any _ _ f d W ((unhide H).keep (unhide K0)) ((unhide HD).keep (unhide K0))).mono ?_
    rw [unhide HM1]
    rintro e w1 ⟨rfl, k1⟩
    clear c0 c1
    have x3 := (unhide X2).keep k1
    obtain ⟨d0, d1, d2, d3, -⟩ := x3.o
    have K1 := hide ((unhide K0).trans k1)
    have z2 := x3.set (.slice none 0 0) (.slice none 0 0)
    clear k1 x3
    obtain ⟨z0, z1, -, -, -⟩ := z2.o
    clear z2
    go_wp2
    have KF := hide (((unhide K1).set (unhide hRS) (i := 0) (.slice none 0 0)).set (unhide hRS) (i := 1) (.slice none 0 0))
    generalize ((w1.setCell ⟨R, 0, none⟩ (.slice none 0 0)).setCell ⟨R, 1, none⟩ (.slice none 0 0)) = w9 at *
    refine bodyPost_ret (v := .tuple #[.agg #[.slice none 0 0, .slice none 0 0], .int .i64 2]) (by simp [results, Try.results13, go_sem, z0, z1]) rfl ⟨by rw [unhide EE], unhide KF⟩
  · have HM1 := hide hm1
    rw [hm1, Bool.true_and] at hm
    have NT := hide hm
    have EZ := hide (fun h2 => rshE_sz (t := t) hm1 h2)
    have EL := hide (fun h2 h3 => rshE_len (t := t) hm1 h2 h3)
    clear hm hm1
    go_enter Try.func13, Try.ntmps13
    go_wp2_with fail
    obtain ⟨W, hW, x1, x2, k0⟩ := boxes_in w sv (.slice p d.length cp) (.slice none 0 0) (.slice none 0 0)
    rw [← hW]
    clear hW
    have X1 := hide x1
    have X2 := hide x2
    have K0 := hide k0
    clear x1 x2 k0
    generalize w.heap.size + 1 = R at X2 hRS ⊢
    generalize w.heap.size = B at X1 ⊢
    obtain ⟨c0, c1, -, -, -⟩ := (unhide X1).o
    try go_wp2_with fail
    refine (rmayT_any _ _ f d W ((unhide H).keep (unhide K0)) ((unhide HD).keep (unhide K0))).mono ?_
    rw [unhide HM1]
    rintro e w1 ⟨rfl, k1⟩
    clear c0 c1
    have Y1 := hide ((unhide X1).keep k1)
    have Y2 := hide ((unhide X2).keep k1)
    have K1 := hide ((unhide K0).trans k1)
    obtain ⟨c0, c1, -, -, -⟩ := (unhide Y1).o
    clear k1 X1 X2 K0
    go_wp2_with fail
    refine (rsize_any _ t w1 ((unhide H').keep (unhide K1))).mono ?_
    rintro e w2 ⟨rfl, k2⟩
    clear c0 c1
    have x3 := (unhide Y2).keep k2
    obtain ⟨c0, c1, -, -, -⟩ := ((unhide Y1).keep k2).o
    obtain ⟨d0, d1, d2, d3, -⟩ := x3.o
    have K2 := hide ((unhide K1).trans k2)
    have z2 := x3.set (.slice none 0 0) (.slice none 0 0)
    clear k2 x3
    obtain ⟨z0, z1, -, -, -⟩ := z2.o
    clear z2
    have KF := hide (((unhide K2).set (unhide hRS) (i := 0) (.slice none 0 0)).set (unhide hRS) (i := 1) (.slice none 0 0))
    cases h2 : mayB t
    · have EE := hide (unhide EZ h2)
      have z := szE_ne h2
      clear h2
      generalize szE t = q at *
      generalize szN t = q' at *
      go_wp2
      generalize ((w2.setCell ⟨R, 0, none⟩ (.slice none 0 0)).setCell ⟨R, 1, none⟩ (.slice none 0 0)) = w9 at *
      refine bodyPost_ret (v := .tuple #[.agg #[.slice none 0 0, .slice none 0 0], .int .i64 q]) (by simp [results, Try.results13, go_sem, z0, z1]) rfl ⟨by rw [unhide EE], unhide KF⟩
    · have hne : ¬ (d.length : Int) = prodL t := by
        intro e
        have := unhide NT
        unfold mayT at this
        rw [h2, e] at this
        simp at this
      have EE := hide (unhide EL h2 hne)
      rw [szE_yes h2, szN_yes h2]
      clear h2
      have hne' : (prodL t != (d.length : Int)) = true := by rw [bne_iff_ne]; exact fun e => hne e.symm
      clear hne
      generalize prodL t = q at *
      go_wp2
      generalize ((w2.setCell ⟨R, 0, none⟩ (.slice none 0 0)).setCell ⟨R, 1, none⟩ (.slice none 0 0)) = w9 at *
      refine bodyPost_ret (v := .tuple #[.agg #[.slice none 0 0, .slice none 0 0], .int .i64 3]) (by simp [results, Try.results13, go_sem, z0, z1]) rfl ⟨by rw [unhide EE], unhide KF⟩

set_option maxHeartbeats 1000000 in
theorem rreshape_yes (sv dv u : Value) (f t : List Int) (d : List Nat) (w : World) (h : Ints w sv f) (hd : Flts w dv d) (h' : Ints w u t) (hm : mayT f d = true) (ht : mayT t d = true) :
    Calls Try.prog 13 #[.agg #[sv, dv], u] w fun e w' => ∃ a1 n1 c1 G c, e = .returned (.tuple #[.agg #[.slice a1 n1 c1, .slice (some ⟨G, 0, none⟩) d.length c], .int .i64 0]) ∧ Fin w w' t a1 n1 c1 G c d := by
  have H := hide h
  have HD := hide hd
  have H' := hide h'
  have hr := hd.room
  obtain ⟨p, cp, rfl, -⟩ := hd.val
  have HM1 := hide hm
  have HM2 := hide ht
  have hz := szE_yes (mayT_may ht)
  have hz' := (szN_yes (mayT_may ht)).trans (mayT_len ht).symm
  have hRS : Hid (w.heap.size ≤ w.heap.size + 1) := Nat.le_succ _
  clear h hd h' hm ht
  go_enter Try.func13, Try.ntmps13
  go_wp2_with fail
  obtain ⟨W, hW, x1, x2, k0⟩ := boxes_in w sv (.slice p d.length cp) (.slice none 0 0) (.slice none 0 0)
  rw [← hW]
  clear hW
  have X1 := hide x1
  have X2 := hide x2
  have K0 := hide k0
  clear x1 x2 k0
  generalize w.heap.size + 1 = R at X2 hRS ⊢
  generalize w.heap.size = B at X1 ⊢
  obtain ⟨c0, c1, -, -, -⟩ := (unhide X1).o
  try go_wp2_with fail
  refine (rmayT_any _ _ f d W ((unhide H).keep (unhide K0)) ((unhide HD).keep (unhide K0))).mono ?_
  rw [unhide HM1]
  rintro e w1 ⟨rfl, k1⟩
  clear c0 c1
  have Y1 := hide ((unhide X1).keep k1)
  have Y2 := hide ((unhide X2).keep k1)
  have K1 := hide ((unhide K0).trans k1)
  obtain ⟨c0, c1, -, -, -⟩ := (unhide Y1).o
  clear k1 X1 X2 K0
  go_wp2_with fail
  refine (rsize_any _ t w1 ((unhide H').keep (unhide K1))).mono ?_
  rw [hz, hz']
  clear hz hz'
  rintro e w2 ⟨rfl, k2⟩
  clear c0 c1
  have X1 := hide ((unhide Y1).keep k2)
  have X2 := hide ((unhide Y2).keep k2)
  have K2 := hide ((unhide K1).trans k2)
  obtain ⟨c0, c1, -, -, -⟩ := (unhide X1).o
  clear k2 Y1 Y2 K1
  have S2 := hide ((unhide H').keep (unhide K2))
  have D2 := hide ((unhide HD).keep (unhide K2))
  have bs : t.length ≤ 1000000 := by have := (may_good (mayT_may (unhide HM2))).1; omega
  have bd : d.length ≤ 1000000 := by have := mayT_len (unhide HM2); have := may_prod (mayT_may (unhide HM2)); omega
  have dp := mayT_pos (unhide HM2)
  have x2 := unhide X2
  obtain ⟨r0, r1, r2, r3, r4⟩ := x2.o
  have x1 := unhide X1
  have b4 := x1.lt
  clear x1 x2
  obtain ⟨p4, c4, rfl, -⟩ := (unhide S2).val
  go_upto_region 8 with fail
  have HS : Hid (∀ w1, Kp w2 w1 → BxO w1 B sv (.slice p d.length cp) ∧ BxO w1 R (.slice none 0 0) (.slice none 0 0)) := fun w1 k => ⟨((unhide X1).keep k).o, ((unhide X2).keep k).o⟩
  go_region_law (first
    | (refine step_nilI (fun w1 => BxO w1 B sv (.slice p d.length cp) ∧ BxO w1 R (.slice none 0 0) (.slice none 0 0)) rfl (.const (.slice none 0 0)) (.tmp 27) rfl (.slice p4 t.length c4) t rfl (by simp [Act.eval, Act.put]) w2 (by first | exact Kp.drew w2 | exact unhide (by assumption)) (unhide S2) bs (unhide HS) ?_; intro a1 m1 c1' wi Oi Ji Ki si; obtain ⟨⟨c0, c1, -, -, -⟩, ⟨r0, r1, r2, r3, r4⟩⟩ := si)
    | (refine step_nilF (fun w1 => BxO w1 B sv (.slice p d.length cp) ∧ BxO w1 R (.slice none 0 0) (.slice none 0 0)) rfl (.const (.slice none 0 0)) (.tmp 30) rfl (.slice p d.length cp) d rfl (by simp [Act.eval]) w2 (by first | exact Kp.drew w2 | exact unhide (by assumption)) (unhide D2) bd (unhide HS) ?_; intro a2 m2 c2' wf Of Jf Kf sf; obtain ⟨⟨c0, c1, -, -, -⟩, ⟨r0, r1, r2, r3, r4⟩⟩ := sf))
  all_goals first
    | (have FN := hide (fin_two (unhide K2) (unhide Kf) ((unhide Oi).keep (unhide Jf)) (unhide Of) (unhide X2) (unhide hRS) dp)
       have z2 := ((unhide X2).keep (unhide Kf)).set (.slice a1 m1 c1') (.slice a2 m2 c2')
       generalize ((wf.setCell ⟨R, 0, none⟩ (.slice a1 m1 c1')).setCell ⟨R, 1, none⟩ (.slice a2 m2 c2')) = w9 at *)
    | (have FN := hide (fin_two (unhide K2) (unhide Ki) (unhide Oi) ((unhide Of).keep (unhide Ji)) (unhide X2) (unhide hRS) dp)
       have z2 := ((unhide X2).keep (unhide Ki)).set (.slice a1 m1 c1') (.slice a2 m2 c2')
       generalize ((wi.setCell ⟨R, 0, none⟩ (.slice a1 m1 c1')).setCell ⟨R, 1, none⟩ (.slice a2 m2 c2')) = w9 at *)
  all_goals (
    obtain ⟨z0, z1, -, -, -⟩ := z2.o
    clear z2 r0 r1 r2 r3 r4 c0 c1
    obtain ⟨G1, c, e1, e2, FN⟩ := unhide FN
    have HF := hide FN
    have E1 := hide e1
    have E2 := hide e2
    clear FN e1 e2
    go_wp2
    obtain rfl := unhide E1
    obtain ⟨rfl, rfl⟩ := unhide E2
    refine bodyPost_ret (v := .tuple #[.agg #[.slice a1 m1 c1', .slice (some ⟨G1, 0, none⟩) d.length c2'], .int .i64 0]) (by simp [results, Try.results13, go_sem, z0, z1]) rfl ⟨a1, m1, c1', G1, c2', rfl, unhide HF⟩)

theorem rreshape_all (sv dv u : Value) (f t : List Int) (d : List Nat) (w : World) (h : Ints w sv f) (hd : Flts w dv d) (h' : Ints w u t) :
    Calls Try.prog 13 #[.agg #[sv, dv], u] w fun e w' => Hands e w' (rshS f d t) (rshD f d t) (rshE f d t) ∧ Kp w w' := by
  cases hm : (mayT f d && mayT t d)
  · obtain ⟨e1, e2, _⟩ := rsh_no hm
    rw [e1, e2]
    refine (rreshape_no sv dv u f t d w h hd h' hm).mono ?_
    rintro e w' ⟨rfl, k⟩
    exact ⟨Hands.nil _ _, k⟩
  · obtain ⟨e1, e2, e3⟩ := rsh_yes hm
    rw [e1, e2, e3]
    simp only [Bool.and_eq_true] at hm
    refine (rreshape_yes sv dv u f t d w h hd h' hm.1 hm.2).mono ?_
    rintro e w' ⟨a1, n1, c1, G, c, rfl, fn⟩
    exact ⟨Hands.fin fn hm.2 h'.wf hd.wf, fn.kp⟩

theorem sameT_cn {s : List Int} {d d' : List Nat} (h : d.map cn = d'.map cn) : sameT s d s d' = true := by
  have hl : d.length = d'.length := by have := congrArg List.length h; simpa using this
  rw [sameT_yes (by unfold sameB; simp)]
  refine allB_yes hl (fun j hj => ?_)
  rw [sameF_iff]
  have h2 := congrArg (fun l => l.getD j 0) h
  have hj' : j < d'.length := by omega
  simp [hj, hj'] at h2
  simp [hj, hj']
  exact h2

set_option maxHeartbeats 1000000 in
theorem same4_any (sv dv sv' dv' : Value) (s : List Int) (d d' : List Nat) (q : Int) (w : World) (hs : Ints w sv s) (hd : Flts w dv d) (hs' : Ints w sv' s) (hd' : Flts w dv' d') (hc : d.map cn = d'.map cn) :
    Calls Try.prog 14 #[.agg #[sv, dv], .int .i64 q, .agg #[sv', dv'], .int .i64 q] w fun e w' => e = .returned (.bool true) ∧ Kp w w' := by
  have HS := hide hs
  have HD := hide hd
  have HS' := hide hs'
  have HD' := hide hd'
  have HT := hide (sameT_cn (s := s) hc)
  have hqq : (q == q) = true := by simp
  obtain ⟨p1, k1, rfl, -⟩ := hs.val
  obtain ⟨p2, k2, rfl, -⟩ := hd.val
  obtain ⟨p3, k3, rfl, -⟩ := hs'.val
  obtain ⟨p4, k4, rfl, -⟩ := hd'.val
  clear hs hd hs' hd' hc
  go_enter Try.func14, Try.ntmps14
  go_wp2_with fail
  obtain ⟨W, hW, x1, x2, k0⟩ := boxes_in w (.slice p1 s.length k1) (.slice p2 d.length k2) (.slice p3 s.length k3) (.slice p4 d'.length k4)
  rw [← hW]
  clear hW
  have K0 := hide k0
  try generalize w.heap.size + 1 = R at x2 ⊢
  try generalize w.heap.size = B at x1 ⊢
  obtain ⟨c0, c1, -, -, -⟩ := x1.o
  obtain ⟨d0, d1, -, -, -⟩ := x2.o
  clear x1 x2 k0
  try go_wp2_with fail
  refine (rsameT_any _ _ _ _ s d s d' W ((unhide HS).keep (unhide K0)) ((unhide HD).keep (unhide K0)) ((unhide HS').keep (unhide K0)) ((unhide HD').keep (unhide K0))).mono ?_
  rw [unhide HT]
  rintro e w1 ⟨rfl, k1'⟩
  have KF := hide ((unhide K0).trans k1')
  clear k1'
  go_wp2
  go_ret
  exact ⟨rfl, unhide KF⟩

end Go.Proofs.Ytcegkaemcjlfgaa
