
/- Contracts of the document's own SpreadTo. -/
import Derived.Test.YtcegkaemcjlfgaaKerJ
import Derived.Deep.RegionHeld3
namespace Go.Proofs.Ytcegkaemcjlfgaa
open Go.RowKit

set_option maxHeartbeats 1000000 in
theorem rspr_no (sv dv u : Value) (f t : List Int) (d : List Nat) (w : World) (h : Ints w sv f) (hd : Flts w dv d) (h' : Ints w u t) (hm : (mayT f d && intoB f t) = false) :
    Calls Try.prog 9 #[.agg #[sv, dv], u] w fun e w' => e = .returned (.tuple #[.agg #[.slice none 0 0, .slice none 0 0], .int .i64 2]) ∧ Kp w w' := by
  have H := hide h
  have HD := hide hd
  have H' := hide h'
  clear h hd h'
  cases hm1 : mayT f d
  · have HM1 := hide hm1
    clear hm hm1
    go_enter Try.func9, Try.ntmps9
    go_wp2_with fail
    obtain ⟨W, hW, x1, x2, k0⟩ := boxes_in w sv dv (.slice none 0 0) (.slice none 0 0)
    rw [← hW]
    clear hW
    have X1 := hide x1
    have X2 := hide x2
    have K0 := hide k0
    clear x1 x2 k0
    have hRS : Hid (w.heap.size ≤ w.heap.size + 1) := Nat.le_succ _
    generalize w.heap.size + 1 = R at X2 hRS ⊢
    generalize w.heap.size = B at X1 ⊢
    obtain ⟨c0, c1, -, -, -⟩ := (unhide X1).o
    try go_wp2_with fail
    refine (rmayT_any _ _ f d W ((unhide H).keep (unhide K0)) ((unhide HD).keep (unhide K0))).mono ?_
    rw [unhide HM1]
    rintro e w1 ⟨rfl, k1⟩
    clear c0 c1
    have x3 := (unhide X2).keep k1
    obtain ⟨d0, d1, d2, d3, -⟩ := x3.o
    obtain ⟨c0, c1, -, -, -⟩ := ((unhide X1).keep k1).o
    have K1 := hide ((unhide K0).trans k1)
    have z2 := x3.set (.slice none 0 0) (.slice none 0 0)
    clear k1 x3
    obtain ⟨z0, z1, -, -, -⟩ := z2.o
    clear z2
    go_wp2
    have KF := hide (((unhide K1).set (unhide hRS) (i := 0) (.slice none 0 0)).set (unhide hRS) (i := 1) (.slice none 0 0))
    generalize ((w1.setCell ⟨R, 0, none⟩ (.slice none 0 0)).setCell ⟨R, 1, none⟩ (.slice none 0 0)) = w9 at *
    refine bodyPost_ret (v := .tuple #[.agg #[.slice none 0 0, .slice none 0 0], .int .i64 2]) (by simp [results, Try.results9, go_sem, z0, z1]) rfl ⟨rfl, unhide KF⟩
  · have HM1 := hide hm1
    have HM2 : Hid (intoB f t = false) := by rw [hm1] at hm; exact hm
    clear hm hm1
    go_enter Try.func9, Try.ntmps9
    go_wp2_with fail
    obtain ⟨W, hW, x1, x2, k0⟩ := boxes_in w sv dv (.slice none 0 0) (.slice none 0 0)
    rw [← hW]
    clear hW
    have X1 := hide x1
    have X2 := hide x2
    have K0 := hide k0
    clear x1 x2 k0
    have hRS : Hid (w.heap.size ≤ w.heap.size + 1) := Nat.le_succ _
    generalize w.heap.size + 1 = R at X2 hRS ⊢
    generalize w.heap.size = B at X1 ⊢
    obtain ⟨c0, c1, -, -, -⟩ := (unhide X1).o
    try go_wp2_with fail
    refine (rmayT_any _ _ f d W ((unhide H).keep (unhide K0)) ((unhide HD).keep (unhide K0))).mono ?_
    rw [unhide HM1]
    rintro e w1 ⟨rfl, k1⟩
    clear c0 c1
    have Y1 := hide ((unhide X1).keep k1)
    have Y2 := hide ((unhide X2).keep k1)
    have K1 := hide ((unhide K0).trans k1)
    obtain ⟨c0, c1, -, -, -⟩ := (unhide Y1).o
    clear k1 X1 X2 K0
    go_wp2_with fail
    refine (rinto_any _ _ f t w1 ((unhide H).keep (unhide K1)) ((unhide H').keep (unhide K1))).mono ?_
    rw [unhide HM2]
    rintro e w2 ⟨rfl, k2⟩
    clear c0 c1
    have x3 := (unhide Y2).keep k2
    obtain ⟨d0, d1, d2, d3, -⟩ := x3.o
    have K2 := hide ((unhide K1).trans k2)
    have z2 := x3.set (.slice none 0 0) (.slice none 0 0)
    clear k2 x3
    obtain ⟨z0, z1, -, -, -⟩ := z2.o
    clear z2
    go_wp2
    have KF := hide (((unhide K2).set (unhide hRS) (i := 0) (.slice none 0 0)).set (unhide hRS) (i := 1) (.slice none 0 0))
    generalize ((w2.setCell ⟨R, 0, none⟩ (.slice none 0 0)).setCell ⟨R, 1, none⟩ (.slice none 0 0)) = w9 at *
    refine bodyPost_ret (v := .tuple #[.agg #[.slice none 0 0, .slice none 0 0], .int .i64 2]) (by simp [results, Try.results9, go_sem, z0, z1]) rfl ⟨rfl, unhide KF⟩


theorem cell_other {B G o j : Nat} (h : ¬ B = G) (w : World) (v : Value) : (w.setCell ⟨G, j, none⟩ v).cell? ⟨B, o, none⟩ = w.cell? ⟨B, o, none⟩ :=
  World.cell?_setCell_other _ _ _ _ (fun e => h (congrArg Addr.block e).symm)

set_option maxHeartbeats 4000000 in
theorem rspr_yes (sv dv u : Value) (f t : List Int) (d : List Nat) (w : World) (h : Ints w sv f) (hd : Flts w dv d) (h' : Ints w u t) (hm : mayT f d = true) (hi : intoB f t = true) :
    Calls Try.prog 9 #[.agg #[sv, dv], u] w fun e w' => ∃ a1 n1 c1 G c, e = .returned (.tuple #[.agg #[.slice a1 n1 c1, .slice (some ⟨G, 0, none⟩) (sprD f t d).length c], .int .i64 0]) ∧ Fin w w' t a1 n1 c1 G c (sprD f t d) := by
  have H := hide h
  have HD := hide hd
  have H' := hide h'
  have HM1 := hide hm
  have HM2 := hide hi
  have LN := hide (mayT_len (sprD_may (d := d) hi))
  have MT2 := hide (into_spec hi).2.1
  have hl4 : t.length ≤ 4 := (may_good (into_spec hi).2.1).1
  have hlf : f.length ≤ t.length := (into_spec hi).2.2.1
  obtain ⟨p2, cp2, rfl, -⟩ := h.val
  obtain ⟨p, cp, rfl, -⟩ := hd.val
  obtain ⟨p3, cp3, rfl, -⟩ := h'.val
  clear h hd h' hm hi
  go_enter Try.func9, Try.ntmps9
  go_wp2_with fail
  obtain ⟨W, hW, x1, x2, k0⟩ := boxes_in w (.slice p2 f.length cp2) (.slice p d.length cp) (.slice none 0 0) (.slice none 0 0)
  rw [← hW]
  clear hW
  have X1 := hide x1
  have X2 := hide x2
  have K0 := hide k0
  clear x1 x2 k0
  have hRS : Hid (w.heap.size ≤ w.heap.size + 1) := Nat.le_succ _
  generalize w.heap.size + 1 = R at X2 hRS ⊢
  generalize w.heap.size = B at X1 ⊢
  obtain ⟨c0, c1, -, -, -⟩ := (unhide X1).o
  try go_wp2_with fail
  refine (rmayT_any _ _ f d W ((unhide H).keep (unhide K0)) ((unhide HD).keep (unhide K0))).mono ?_
  rw [unhide HM1]
  rintro e w1 ⟨rfl, k1⟩
  clear c0 c1
  have Y1 := hide ((unhide X1).keep k1)
  have Y2 := hide ((unhide X2).keep k1)
  have K1 := hide ((unhide K0).trans k1)
  obtain ⟨c0, c1, -, -, -⟩ := (unhide Y1).o
  clear k1 X1 X2 K0
  go_wp2_with fail
  refine (rinto_any _ _ f t w1 ((unhide H).keep (unhide K1)) ((unhide H').keep (unhide K1))).mono ?_
  rw [unhide HM2]
  rintro e w2 ⟨rfl, k2⟩
  clear c0 c1
  have X1 := hide ((unhide Y1).keep k2)
  have X2 := hide ((unhide Y2).keep k2)
  have K2 := hide ((unhide K1).trans k2)
  clear k2 Y1 Y2 K1
  go_wp2_with fail
  refine (rnew_yes _ t 0 w2 ((unhide H').keep (unhide K2)) (unhide MT2)).mono ?_
  rintro e w3 ⟨a1, n1, c1, G, n, rfl, hn, o1, hG, og, k3⟩
  have NL : Hid ((sprD f t d).length = n) := by have := unhide LN; unfold Hid; omega
  have hnm : n ≤ 4096 := by have := may_prod (unhide MT2); omega
  have GS : Hid (w.heap.size ≤ G) := Nat.le_trans (unhide K2).size hG
  have hBG : ¬ B = G := by have := (unhide X1).lt; omega
  have hRG : ¬ R = G := by have := (unhide X2).lt; omega
  have GL : Hid (G < w3.heap.size) := og.lt
  have VG : Hid (∀ b, b < w.heap.size → b ≠ G) := by intro b hb; have := unhide GS; omega
  have O3 := hide (o1.weak (unhide K2).size)
  have G3 := hide og
  have Y1 := hide ((unhide X1).keep k3)
  have Y2 := hide ((unhide X2).keep k3)
  have K3 := hide ((unhide K2).trans k3)
  clear o1 og k3 X1 X2 K2 hG hn
  go_upto_region 4 with fail
  have TB := hide (Bx.made w3 (.slice a1 n1 c1) (.slice (some ⟨G, 0, none⟩) n n))
  have qa := Kp.alloc w3 (.cells #[.slice a1 n1 c1, .slice (some ⟨G, 0, none⟩) n n] 25)
  have hTG : ¬ w3.heap.size = G := by have := unhide GL; omega
  have O4 := hide ((unhide O3).keep qa)
  have G4 := hide ((unhide G3).keep qa)
  have X1 := hide ((unhide Y1).keep qa)
  have X2 := hide ((unhide Y2).keep qa)
  have K4 := hide ((unhide K3).trans qa)
  clear qa O3 G3 Y1 Y2 K3 GL
  generalize w3.alloc (.cells #[.slice a1 n1 c1, .slice (some ⟨G, 0, none⟩) n n] 25) = w4 at *
  generalize w3.heap.size = T at *
  rw [← unhide NL, ← upK_zero, unhide NL] at G4
  have hst : ∀ (a : Addr) (x : Nat) (w : World), (store a (.float .f64 x)).run Try.prog w = stored Try.prog w a (.float .f64 x) .plain := fun a x w => run_store _ w a _ _ rfl
  go_wp2
  go_loopw [8] (fun i wr => ∃ j : Nat, j ≤ n ∧ i = .int .i64 j ∧ Hid (OwnG wr 38 G n n (upK (sprD f t d) j)) ∧ Hid (Kx G w4 wr)) (fun i _ => n - (intOf i).toNat)
  case atStart => exact ⟨0, Nat.zero_le _, rfl, unhide G4, Kx.refl _ _⟩
  case round =>
    obtain ⟨j, hj, rfl, OG, KX⟩ := hrel
    have xb := (unhide X1).keepx (unhide KX) hBG
    have tb := (unhide TB).keepx (unhide KX) hTG
    by_cases hlt : j < n
    · have hjt : (j : Int) < prodL t := by have := unhide LN; have := unhide NL; omega
      have hus := usrc_bounds (unhide HM2) (j := j) (by omega)
      obtain ⟨i, hi⟩ := Int.eq_ofNat_of_zero_le hus.1
      have hid : i < d.length := by have := mayT_len (unhide HM1); omega
      obtain ⟨b, off, rfl, hb, hc⟩ := flts_at (unhide HD) (by omega)
      have hck : wr.cell? ⟨b, off + i, none⟩ = some (.float .f64 (d.getD i 0)) := ((unhide KX).cell (p := ⟨b, off + i, none⟩) (Nat.lt_of_lt_of_le hb (unhide K4).size) (unhide VG b hb)).trans ((Below.cell (unhide K4) (p := ⟨b, off + i, none⟩) hb).trans (hc i hid))
      have hbw : b < wr.heap.size := Nat.lt_of_lt_of_le hb (Nat.le_trans (unhide K4).size (unhide KX).size)
      have hgc := (unhide OG).cell hlt
      have hgf := (unhide OG).frozen j
      have ED : Hid ((sprD f t d).getD j 0 = d.getD i 0) := by
        have hjs : j < (srcL f t).length := by have := unhide NL; rw [sprD_length] at this; omega
        unfold Hid
        rw [sprD_getD hjs, srcL_getD (by rw [srcL_length] at hjs; exact hjs), hi, Int.toNat_natCast]
      have KW := hide (Kx.after (unhide K4) (unhide KX) (unhide GS))
      have EP : Hid (plN t (j : Int) = plc t (j : Int)) := plN_yes (unhide MT2) (by omega) hjt
      have EI : Hid (ixN f (clip f (plc t (j : Int))) = (i : Int)) := (ix_clip (unhide HM2) hjt).trans hi
      have OS : Hid (∀ w6, Kp wr w6 → OwnG (w6.setCell ⟨G, j, none⟩ (.float .f64 (d.getD i 0))) 38 G n n (upK (sprD f t d) (j + 1))) := by
        intro w6 k6
        have := ((unhide OG).keep k6).set j ((sprD f t d).getD j 0)
        rw [upK_set (by rw [unhide NL]; exact hlt), unhide ED] at this
        exact this
      have C1 := hide (fun w0 (k : Kp wr w0) => (rplace_any (.slice p3 t.length cp3) t (j : Int) w0 ((unhide H').keep ((unhide KW).trans k)) (by unfold I64; omega)).mono (R' := fun e w' => ∃ ap np cq, e = .returned (.slice ap np cq) ∧ Hid (Ints w' (.slice ap np cq) (plc t (j : Int))) ∧ Hid (Kp wr w') ∧ BxO w' B (.slice p2 f.length cp2) (.slice (some ⟨b, off, none⟩) d.length cp) ∧ BxO w' T (.slice a1 n1 c1) (.slice (some ⟨G, 0, none⟩) n n) ∧ w'.cell? ⟨b, off + i, none⟩ = some (.float .f64 (d.getD i 0)) ∧ w'.cell? ⟨G, j, none⟩ = some (.float .f64 ((upK (sprD f t d) j).getD j 0)) ∧ w'.frozen? ⟨G, j, none⟩ = false) (by
        rintro e w' ⟨u1, rfl, hu, -, k'⟩
        rw [unhide EP] at hu
        obtain ⟨ap, cq, rfl, -⟩ := hu.val
        exact ⟨ap, _, cq, rfl, hu, k.trans k', (xb.keep (k.trans k')).o, (tb.keep (k.trans k')).o, (Below.cell (k.trans k') (p := ⟨b, off + i, none⟩) hbw).trans hck, ((unhide OG).keep (k.trans k')).cell hlt, ((unhide OG).keep (k.trans k')).frozen j⟩))
      have C2 := hide (fun w0 (k : Kp wr w0) ap np cq (q : Ints w0 (.slice ap np cq) (plc t (j : Int))) => (under_any (.slice p2 f.length cp2) (.slice ap np cq) f (plc t (j : Int)) w0 ((unhide H).keep ((unhide KW).trans k)) q (by rw [plc_length]; exact hlf) (by rw [plc_length]; exact hl4)).mono (R' := fun e w' => e = .returned (.int .i64 (i : Int)) ∧ Hid (Kp wr w') ∧ BxO w' B (.slice p2 f.length cp2) (.slice (some ⟨b, off, none⟩) d.length cp) ∧ BxO w' T (.slice a1 n1 c1) (.slice (some ⟨G, 0, none⟩) n n) ∧ w'.cell? ⟨b, off + i, none⟩ = some (.float .f64 (d.getD i 0)) ∧ w'.cell? ⟨G, j, none⟩ = some (.float .f64 ((upK (sprD f t d) j).getD j 0)) ∧ w'.frozen? ⟨G, j, none⟩ = false) (by
        rintro e w' ⟨rfl, k'⟩
        exact ⟨by rw [unhide EI], k.trans k', (xb.keep (k.trans k')).o, (tb.keep (k.trans k')).o, (Below.cell (k.trans k') (p := ⟨b, off + i, none⟩) hbw).trans hck, ((unhide OG).keep (k.trans k')).cell hlt, ((unhide OG).keep (k.trans k')).frozen j⟩))
      obtain ⟨b0, b1, -, -, -⟩ := xb.o
      obtain ⟨t0, t1, -, -, -⟩ := tb.o
      have hbG : ¬ b = G := unhide VG b hb
      have hs1 : ∀ (w : World) (v : Value) (o : Nat), (w.setCell ⟨G, j, none⟩ v).cell? ⟨B, o, none⟩ = w.cell? ⟨B, o, none⟩ := fun w v o => cell_other hBG w v
      have hs2 : ∀ (w : World) (v : Value) (o : Nat), (w.setCell ⟨G, j, none⟩ v).cell? ⟨T, o, none⟩ = w.cell? ⟨T, o, none⟩ := fun w v o => cell_other hTG w v
      have hs3 : ∀ (w : World) (v : Value) (o : Nat), (w.setCell ⟨G, j, none⟩ v).cell? ⟨b, o, none⟩ = w.cell? ⟨b, o, none⟩ := fun w v o => cell_other hbG w v
      have hjn : (j : Int) < (n : Int) := by omega
      have hidI : (i : Int) < (d.length : Int) := by omega
      clear xb tb hc hb hus hi hjt EP EI ED
      generalize (upK (sprD f t d) j).getD j 0 = old at *
      generalize d.getD i 0 = x at *
      go_wp2_with fail
      go_region_held3 (fun w' => w'.cell? ⟨B, 0, none⟩ = some (.slice p2 f.length cp2) ∧ w'.cell? ⟨B, 1, none⟩ = some (.slice (some ⟨b, off, none⟩) d.length cp) ∧ w'.cell? ⟨T, 1, none⟩ = some (.slice (some ⟨G, 0, none⟩) n n) ∧ w'.cell? ⟨b, off + i, none⟩ = some (.float .f64 x)) (go_keep)
        (first
          | (go_at_call 26; refine ((unhide C1) _ ?_).mono ?_; (first | (exact unhide (by assumption)) | exact Kp.drew wr); rintro e w5 ⟨ap, np, cq, rfl, F5, K5, ⟨b0, b1, -, -, -⟩, ⟨t0, t1, -, -, -⟩, e1, e2, e3⟩)
          | (go_at_call 25; refine ((unhide C2) _ (unhide K5) _ _ _ (unhide F5)).mono ?_; rintro e w6 ⟨rfl, K6, ⟨b0, b1, -, -, -⟩, ⟨t0, t1, -, -, -⟩, e1, e2, e3⟩))
      all_goals (
        have OG' := hide (unhide OS w6 (unhide K6))
        have KX' := hide (((unhide KX).kp (unhide K6)).set j (.float .f64 x))
        clear b0 b1 t0 t1 e1 e2 e3 hck hgc hgf
        generalize w6.setCell { block := G, off := j } (Value.float FloatKind.f64 x) = w7 at *)
      all_goals (
        go_wp2
        go_roundw
        case rel => exact ⟨j + 1, by omega, by go_num, unhide OG', unhide KX'⟩
        case measure => simp [intOf]; omega)
    · obtain rfl : j = n := by omega
      have hjl : j = (sprD f t d).length := (unhide NL).symm
      rw [show upK (sprD f t d) j = sprD f t d by rw [hjl, upK_all]] at OG
      obtain ⟨t0, t1, -, -, -⟩ := tb.o
      obtain ⟨b0, b1, -, -, -⟩ := xb.o
      have rb := (unhide X2).keepx (unhide KX) hRG
      obtain ⟨r0, r1, r2, r3, -⟩ := rb.o
      have z2 := rb.set (.slice a1 n1 c1) (.slice (some ⟨G, 0, none⟩) j j)
      obtain ⟨z0, z1, -, -, -⟩ := z2.o
      have FN : Hid (Fin w ((wr.setCell ⟨R, 0, none⟩ (.slice a1 n1 c1)).setCell ⟨R, 1, none⟩ (.slice (some ⟨G, 0, none⟩) j j)) t a1 n1 c1 G j (sprD f t d)) := by
        refine ⟨((unhide O4).keepx (unhide G4) (by decide) (unhide KX)).setBx rb (by decide) _ _, unhide GS, ?_, ((Kx.after (unhide K4) (unhide KX) (unhide GS)).set (unhide hRS) (i := 0) _).set (unhide hRS) (i := 1) _⟩
        have := (unhide OG).setBx rb (by decide) (.slice a1 n1 c1) (.slice (some ⟨G, 0, none⟩) j j)
        rw [unhide NL]
        exact this
      clear z2 rb tb xb hjl
      go_wp2
      generalize ((wr.setCell ⟨R, 0, none⟩ (.slice a1 n1 c1)).setCell ⟨R, 1, none⟩ (.slice (some ⟨G, 0, none⟩) j j)) = w9 at *
      refine bodyPost_ret (v := .tuple #[.agg #[.slice a1 n1 c1, .slice (some ⟨G, 0, none⟩) j j], .int .i64 0]) (by simp [results, Try.results9, go_sem, z0, z1]) rfl ⟨a1, n1, c1, G, j, by rw [unhide NL], unhide FN⟩

theorem rspr_all (sv dv u : Value) (f t : List Int) (d : List Nat) (w : World) (h : Ints w sv f) (hd : Flts w dv d) (h' : Ints w u t) :
    Calls Try.prog 9 #[.agg #[sv, dv], u] w fun e w' => Hands e w' (kspS f d t) (kspD f d t) (kspE f d t) ∧ Kp w w' := by
  cases hm : (mayT f d && intoB f t)
  · obtain ⟨e1, e2, e3⟩ := ksp_no hm
    rw [e1, e2, e3]
    refine (rspr_no sv dv u f t d w h hd h' hm).mono ?_
    rintro e w' ⟨rfl, k⟩
    exact ⟨Hands.nil _ _, k⟩
  · obtain ⟨e1, e2, e3⟩ := ksp_yes hm
    rw [e1, e2, e3]
    simp only [Bool.and_eq_true] at hm
    refine (rspr_yes sv dv u f t d w h hd h' hm.1 hm.2).mono ?_
    rintro e w' ⟨a1, n1, c1, G, c, rfl, fn⟩
    exact ⟨Hands.fin fn (sprD_may hm.2) h'.wf (sprD_wf hd.wf), fn.kp⟩

end Go.Proofs.Ytcegkaemcjlfgaa
