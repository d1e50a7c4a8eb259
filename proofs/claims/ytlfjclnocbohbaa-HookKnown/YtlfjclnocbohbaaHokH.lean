
/- The contract of the document's Hook: hooks and a tensor that may be. -/
import Derived.Test.YtlfjclnocbohbaaHokG
namespace Go.Proofs.Ytlfjclnocbohbaa
open Go.RowKit

set_option maxHeartbeats 16000000 in
theorem rhook_yes (v : Value) (hs : List Hk) (sv dv : Value) (s : List Int) (d : List Nat) (w : World) (h : Hooks w v hs) (hs' : Ints w sv s) (hd : Flts w dv d) (hm : mayH hs = true) (ht : mayT s d = true) :
    Calls Try.prog 14 #[v, .agg #[sv, dv]] w fun e w' => ∃ ds, HandR e w' (hoS hs s d) ds (hoE hs s d) ∧ ds.map cn = hoD hs s d ∧ Kp w w' := by
  have H := hide h
  have HS := hide hs'
  have HD := hide hd
  have HM := hide hm
  have HT := hide ht
  have hr := h.room
  obtain ⟨la, lc, rfl, -⟩ := h.val
  obtain ⟨ea, ec, rfl, -⟩ := hs'.val
  clear h hm hs' hd ht
  obtain ⟨W, hW, x1, x2, k0⟩ := boxes_in w (.slice ea s.length ec) dv (.slice none 0 0) (.slice none 0 0)
  go_enter Try.func14, Try.ntmps14
  go_wp2_with fail
  rw [← hW]
  clear hW
  have X1 := hide x1
  have X2 := hide x2
  have K0 := hide k0
  have hRS : w.heap.size ≤ w.heap.size + 1 := Nat.le_succ _
  have hRB : w.heap.size + 1 ≠ w.heap.size := by omega
  clear x1 x2 k0
  generalize w.heap.size + 1 = R at X2 hRS hRB ⊢
  generalize hBB : w.heap.size = B at X1 hRB ⊢

  have hBS : w.heap.size ≤ B := by omega
  clear hBB
  refine (rmayH_run _ hs W ((unhide H).keep (unhide K0))).mono ?_
  rw [unhide HM]
  rintro e w1 ⟨rfl, k1⟩
  have K1 := hide ((unhide K0).trans k1)
  have Y2 := hide ((unhide X2).keep k1)
  have Y1 := hide ((unhide X1).keep k1)
  obtain ⟨c0, c1, -, -, -⟩ := (unhide Y1).o
  clear k1 X1 X2
  go_wp2_with fail
  refine (rmayT_any _ _ s d w1 ((unhide HS).keep (unhide K1)) ((unhide HD).keep (unhide K1))).mono ?_
  rw [unhide HT]
  rintro e w2 ⟨rfl, k2⟩
  have K2 := hide ((unhide K1).trans k2)
  have Z2 := hide ((unhide Y2).keep k2)
  have Z1 := hide ((unhide Y1).keep k2)
  have FD := hide ((unhide HD).keep (unhide K2))
  obtain ⟨ad, cd, rfl, -⟩ := (unhide HD).val
  have hdr : Hid (d.length ≤ 1000000) := by have := mayT_len (unhide HT); have := may_prod (mayT_may (unhide HT)); unfold Hid; omega
  have HPO := hide (mayT_pos (unhide HT))
  clear c0 c1 k2 Y1 Y2
  generalize hls : s.length = ls at *
  generalize hld : d.length = ld at *
  have HLS := hide hls
  have HLD := hide hld
  clear hls hld
  obtain ⟨c0, c1, c2, c3, c4⟩ := (unhide Z1).o
  have AB : Hid (∀ w1, Kp w2 w1 → BxO w1 B (.slice ea ls ec) (.slice ad ld cd)) := fun w1 kk => ((unhide Z1).keep kk).o
  have RM : Hid (d.length ≤ 1000000) := by have := unhide hdr; have := unhide HLD; unfold Hid; omega
  go_upto_region 5 with fail
  go_cut [3] (fun p wx => ∃ G c, p = .pointer (some ⟨B, 0, none⟩) ∧ Hid (w2.heap.size ≤ G ∧ Bx wx B (.slice ea ls ec) (.slice (some ⟨G, 0, none⟩) ld c) ∧ OwnG wx 23 G ld c d ∧ Bx wx R (.slice none 0 0) (.slice none 0 0) ∧ Kp w wx))
  case first =>
    go_region_law (refine step_nilF9 (fun w1 => BxO w1 B (.slice ea ls ec) (.slice ad ld cd)) rfl (.const (.slice none 0 0)) (.tmp 21) rfl (.slice ad ld cd) d rfl (by simp [Act.eval]) w2 (by first | exact Kp.drew w2 | exact unhide (by assumption)) (unhide FD) (unhide RM) (unhide AB) ?_; intro a2 m2 c2' wf Of Jf Kf sf; obtain ⟨c0, c1, c2, c3, c4⟩ := sf)
    all_goals (go_wp2_with fail; go_meet)
    all_goals (
      obtain ⟨G, cc, hG, e, og⟩ := (unhide Of).g (by have := unhide HPO; have := unhide HLD; omega)
      rw [unhide HLD] at e og
      injection e with e1 e2 e3
      subst e1 e2 e3
      have hGB : ¬ B = G := by have := (unhide Z1).lt; omega
      have hGR : ¬ R = G := by have := (unhide Z2).lt; omega
      exact ⟨G, c2', rfl, hG, ((unhide Z1).keep (unhide Kf)).set _ _, (og.setOther hGB 0 _).setOther hGB 1 _, ((unhide Z2).keep (unhide Kf)).setO9 hRB _ _, (((unhide K2).trans (unhide Kf)).set hBS (i := 0) _).set hBS (i := 1) _⟩)
  case rest =>
    obtain ⟨G, c, rfl, CUT⟩ := hcut
    have hldb : ld ≤ 1000000 := unhide hdr
    generalize wc = w3 at *
    have hGB : ¬ B = G := by have := (unhide Z1).lt; have := (unhide CUT).1; omega
    have hGR : ¬ R = G := by have := (unhide Z2).lt; have := (unhide CUT).1; omega
    have hwG : Hid (w.heap.size ≤ G) := Nat.le_trans (unhide K2).size (unhide CUT).1
    clear c0 c1 c2 c3 c4 AB FD Z1 Z2 K1 K2
    generalize hn : hs.length = n at *
    have HN := hide hn
    clear hn
    go_wp2
    go_loopw [6] (fun i wr => ∃ (j : Nat) (ds : List Nat), j ≤ n ∧ i = .int .i64 j ∧ Hid (ds.length = ld) ∧ Hid (Bx wr B (.slice ea ls ec) (.slice (some ⟨G, 0, none⟩) ld c)) ∧ Hid (OwnG wr 23 G ld c ds) ∧ Hid (∀ x ∈ ds, W64 x) ∧ Hid (hkL (hs.take j) (d.map cn) = some (ds.map cn)) ∧ Hid (Bx wr R (.slice none 0 0) (.slice none 0 0)) ∧ Hid (Kp w wr)) (fun i _ => n - (intOf i).toNat)
    case atStart => exact ⟨0, d, Nat.zero_le _, rfl, unhide HLD, (unhide CUT).2.1, (unhide CUT).2.2.1, (unhide HD).wf, rfl, (unhide CUT).2.2.2.1, (unhide CUT).2.2.2.2⟩
    case round =>
      obtain ⟨j, ds, hj, rfl, LD, XR, OR, WR, HL, ZR, KR⟩ := hrel
      by_cases hlt : j < n
      · have hltI : (j : Int) < (n : Int) := by omega
        have hjl : j < hs.length := by have := unhide HN; omega
        obtain ⟨lb, lo, rfl, hlb, h0, h1, hI, hX⟩ := (unhide H).one (unhide KR) hjl
        have HNX := hide (st_next hjl (unhide HL))
        have hwr := mayH_at (unhide HM) hjl
        have HX := hide hX
        have MD : Hid (mayT s ds = true) := mayT_same (unhide HT) ((unhide LD).trans (unhide HLD).symm)
        have hsf : ∀ (a : Addr) (x : Nat) (w : World), (store a (.float .f64 x)).run Try.prog w = stored Try.prog w a (.float .f64 x) .plain := fun a x w => run_store _ w a _ _ rfl
        clear hX hI
        generalize hs.getD j hnil = y at *
        have HKI := hide (wrB_kind hwr)
        clear hwr
        obtain ⟨yk, X⟩ := y
        go_upto_region 10 with fail
        obtain ⟨wH, hH, xh, kh⟩ := px_in 52 wr (.int .i64 yk) (.float .f64 X)
        rw [← hH]
        have K5 := hide ((unhide KR).trans kh)
        have X5 := hide ((unhide XR).keep kh)
        have O5 := hide ((unhide OR).keep kh)
        have Z5 := hide ((unhide ZR).keep kh)
        have PH := hide xh
        have hQG : ¬ wr.heap.size = G := by have := (unhide OR).lt; omega
        clear hH kh XR OR ZR KR h0 h1 hlb xh
        generalize wr.heap.size = Q at *
        have q0 := (unhide PH).c0
        rcases unhide HKI with e | ⟨e, hg⟩ | e | e
        · have e : yk = 1 := e
          subst e
          have HN2 := hide ((unhide HNX).trans (if_neg (fun q => by have := q.1; simp at this)))
          go_upto_region 12 with fail
          clear q0
          go_wp2
          go_loopw [8] (fun i wi => ∃ (k : Nat) (ms : List Nat), k ≤ ld ∧ i = .int .i64 k ∧ Hid (ms.length = k) ∧ Hid (OwnG wi 23 G ld c (ms ++ ds.drop k)) ∧ Hid (∀ x ∈ ms, W64 x) ∧ Hid (∀ j, j < k → cn (ms.getD j 0) = hkC ⟨1, X⟩ (ds.getD j 0)) ∧ Hid (Kx G wH wi)) (fun i _ => ld - (intOf i).toNat)
          case atStart => exact ⟨0, [], Nat.zero_le _, rfl, rfl, unhide O5, by simp [Hid], by unfold Hid; omega, Kx.refl _ _⟩
          case round =>
            obtain ⟨k, ms, hk, rfl, LM, OI, WI, RI, KI⟩ := hrel
            generalize wr = wi at *
            have y1 := (unhide X5).keepx (unhide KI) hGB
            by_cases hkl : k < ld
            · have hklI : (k : Int) < (ld : Int) := by omega
              have RN := hide (fun w' r (kp : Kp wi w') hr hw => rnd (unhide OI) (unhide LM) hkl (unhide LD) (unhide WI) (unhide RI) (unhide KI) kp (r := r) (y := ⟨1, X⟩) hr hw)
              have WX : Hid (W64 (ds.getD k 0)) := getD_w64 (unhide WR) k
              have hck := cell_k (unhide OI) (unhide LM) hkl
              have hcf := (unhide OI).frozen k
              have ph := (unhide PH).keepx (unhide KI) hQG
              have p0 := ph.c0
              have p1 := ph.c1
              obtain ⟨b0, b1, -, -, -⟩ := y1.o
              have Y1 := hide y1
              have P1 := hide ph
              clear ph y1
              generalize ds.getD k 0 = x at *
              have hop : ∀ t, (binOp .mul t (.float .f64 x) (.float .f64 X)).run Try.prog wi = .ok (.float .f64 (flR .mul wi x X)) (flW .mul wi x X) := fun t => run_mul_any wi t x X
              have hr := flR_mul wi x X
              have KP := hide (flW_kp .mul wi x X)
              generalize flR .mul wi x X = r at *
              generalize flW .mul wi x X = wm at *
              have HR : Hid (cn r = hkC ⟨1, X⟩ x) := by unfold Hid; rw [hkC_1 rfl]; exact hr.1
              have HW := hide hr.2
              clear hr
              have hck2 := ((Below.cell (unhide KP) (p := ⟨G, k, none⟩) (unhide OI).lt)).trans hck
              have hcf2 := ((unhide OI).keep (unhide KP)).frozen k
              obtain ⟨g0, g1, -, -, -⟩ := ((unhide Y1).keep (unhide KP)).o
              go_upto_region 14 with (simp only [hop])
              clear hck2 hcf2 g0 g1 hop
              have FN := hide (unhide RN wm r (unhide KP) (unhide HR) (unhide HW))
              clear hck hcf p0 p1 b0 b1 RN
              generalize wm.setCell ⟨G, k, none⟩ (.float .f64 r) = w9 at *
              go_wp2
              go_roundw
              case rel => exact ⟨k + 1, _, by omega, by go_num, (unhide FN).1, (unhide FN).2.1, (unhide FN).2.2.1, (unhide FN).2.2.2.1, (unhide FN).2.2.2.2⟩
              case measure => simp [intOf]; omega
            · have hklI : ¬ (k : Int) < (ld : Int) := by omega
              have hke : k = ld := by omega
              obtain ⟨b0, b1, -, -, -⟩ := y1.o
              have LM2 : Hid (ms.length = ld) := (unhide LM).trans hke
              have OE : Hid (OwnG wi 23 G ld c ms) := by
                have h := unhide OI
                rw [List.drop_of_length_le (by have := unhide LD; omega), List.append_nil] at h
                exact h
              have HC := hide (map_hk (h := ⟨1, X⟩) (Q := fun x r => cn r = hkC ⟨1, X⟩ x) ((unhide LM2).trans (unhide LD).symm) (fun i hi => unhide RI i (by have := unhide LD; omega)) (fun _ _ e => e))
              rw [← unhide HC] at HN2
              have Y1 := hide y1
              have Z6 := hide ((unhide Z5).keepx (unhide KI) hGR)
              have K6 := hide (Kx.after (unhide K5) (unhide KI) (unhide hwG))
              clear y1
              go_wp2
              go_roundw
              case rel => exact ⟨j + 1, ms, by omega, by go_num, unhide LM2, unhide Y1, unhide OE, unhide WI, unhide HN2, unhide Z6, unhide K6⟩
              case measure => simp [intOf]; omega
        · have e : yk = 2 := e
          subst e
          have hg : geB X = true := hg
          have HNG := hide (ng_le (unhide HX) hg)
          clear hg
          have HN2 := hide ((unhide HNX).trans (if_neg (fun q => by have := q.1; simp at this)))
          go_upto_region 12 with fail
          clear q0
          go_wp2
          go_loopw [8] (fun i wi => ∃ (k : Nat) (ms : List Nat), k ≤ ld ∧ i = .int .i64 k ∧ Hid (ms.length = k) ∧ Hid (OwnG wi 23 G ld c (ms ++ ds.drop k)) ∧ Hid (∀ x ∈ ms, W64 x) ∧ Hid (∀ j, j < k → cn (ms.getD j 0) = hkC ⟨2, X⟩ (ds.getD j 0)) ∧ Hid (Kx G wH wi)) (fun i _ => ld - (intOf i).toNat)
          case atStart => exact ⟨0, [], Nat.zero_le _, rfl, rfl, unhide O5, by simp [Hid], by unfold Hid; omega, Kx.refl _ _⟩
          case round =>
            obtain ⟨k, ms, hk, rfl, LM, OI, WI, RI, KI⟩ := hrel
            generalize wr = wi at *
            have y1 := (unhide X5).keepx (unhide KI) hGB
            by_cases hkl : k < ld
            · have hklI : (k : Int) < (ld : Int) := by omega
              have RN := hide (fun w' r (kp : Kp wi w') hr hw => rnd (unhide OI) (unhide LM) hkl (unhide LD) (unhide WI) (unhide RI) (unhide KI) kp (r := r) (y := ⟨2, X⟩) hr hw)
              have WX : Hid (W64 (ds.getD k 0)) := getD_w64 (unhide WR) k
              have hck := cell_k (unhide OI) (unhide LM) hkl
              have hcf := (unhide OI).frozen k
              have ph := (unhide PH).keepx (unhide KI) hQG
              have p0 := ph.c0
              have p1 := ph.c1
              obtain ⟨b0, b1, -, -, -⟩ := y1.o
              have Y1 := hide y1
              have P1 := hide ph
              clear ph y1
              generalize ds.getD k 0 = x at *
              have hng := fun w => run_neg_any (P := Try.prog) w X (ngN X) rfl
              by_cases hc1 : (FloatKind.f64.format.order x (ngN X) == some .lt) = true
              · have hc2 : (FloatKind.f64.format.order (ngN X) X == some .gt) = false := unhide HNG
                have HR : Hid (cn (ngN X) = hkC ⟨2, X⟩ x) := by unfold Hid; rw [hkC_2 rfl]; show _ = cn (clN X x); rw [clN_lt hc1]
                have HW : Hid (W64 (ngN X)) := ngN_w64 (unhide HX)
                have KP := hide (Kp.refl wi)
                generalize hNN : ngN X = N at *
                clear hNN
                go_upto_region 14 with fail
                have FN := hide (unhide RN wi N (unhide KP) (unhide HR) (unhide HW))
                clear hck hcf p0 p1 b0 b1 RN
                generalize wi.setCell ⟨G, k, none⟩ (.float .f64 N) = w9 at *
                go_wp2
                go_roundw
                case rel => exact ⟨k + 1, _, by omega, by go_num, (unhide FN).1, (unhide FN).2.1, (unhide FN).2.2.1, (unhide FN).2.2.2.1, (unhide FN).2.2.2.2⟩
                case measure => simp [intOf]; omega
              have hc1 := eq_false_of_ne_true hc1
              by_cases hc2 : (FloatKind.f64.format.order x X == some .gt) = true
              · have hcz : True := trivial
                have HR : Hid (cn X = hkC ⟨2, X⟩ x) := by unfold Hid; rw [hkC_2 rfl]; show _ = cn (clN X x); rw [clN_gt hc1 hc2]
                have HW : Hid (W64 X) := unhide HX
                have KP := hide (Kp.refl wi)
                generalize hNN : ngN X = N at *
                clear hNN
                go_upto_region 14 with fail
                have FN := hide (unhide RN wi X (unhide KP) (unhide HR) (unhide HW))
                clear hck hcf p0 p1 b0 b1 RN
                generalize wi.setCell ⟨G, k, none⟩ (.float .f64 X) = w9 at *
                go_wp2
                go_roundw
                case rel => exact ⟨k + 1, _, by omega, by go_num, (unhide FN).1, (unhide FN).2.1, (unhide FN).2.2.1, (unhide FN).2.2.2.1, (unhide FN).2.2.2.2⟩
                case measure => simp [intOf]; omega
              · have hc2 := eq_false_of_ne_true hc2
                have HR : Hid (cn x = hkC ⟨2, X⟩ x) := by unfold Hid; rw [hkC_2 rfl]; show _ = cn (clN X x); rw [clN_in hc1 hc2]
                have HW : Hid (W64 x) := unhide WX
                have KP := hide (Kp.refl wi)
                generalize hNN : ngN X = N at *
                clear hNN
                go_upto_region 14 with fail
                have FN := hide (unhide RN wi x (unhide KP) (unhide HR) (unhide HW))
                clear hck hcf p0 p1 b0 b1 RN
                generalize wi.setCell ⟨G, k, none⟩ (.float .f64 x) = w9 at *
                go_wp2
                go_roundw
                case rel => exact ⟨k + 1, _, by omega, by go_num, (unhide FN).1, (unhide FN).2.1, (unhide FN).2.2.1, (unhide FN).2.2.2.1, (unhide FN).2.2.2.2⟩
                case measure => simp [intOf]; omega
            · have hklI : ¬ (k : Int) < (ld : Int) := by omega
              have hke : k = ld := by omega
              obtain ⟨b0, b1, -, -, -⟩ := y1.o
              have LM2 : Hid (ms.length = ld) := (unhide LM).trans hke
              have OE : Hid (OwnG wi 23 G ld c ms) := by
                have h := unhide OI
                rw [List.drop_of_length_le (by have := unhide LD; omega), List.append_nil] at h
                exact h
              have HC := hide (map_hk (h := ⟨2, X⟩) (Q := fun x r => cn r = hkC ⟨2, X⟩ x) ((unhide LM2).trans (unhide LD).symm) (fun i hi => unhide RI i (by have := unhide LD; omega)) (fun _ _ e => e))
              rw [← unhide HC] at HN2
              have Y1 := hide y1
              have Z6 := hide ((unhide Z5).keepx (unhide KI) hGR)
              have K6 := hide (Kx.after (unhide K5) (unhide KI) (unhide hwG))
              clear y1
              go_wp2
              go_roundw
              case rel => exact ⟨j + 1, ms, by omega, by go_num, unhide LM2, unhide Y1, unhide OE, unhide WI, unhide HN2, unhide Z6, unhide K6⟩
              case measure => simp [intOf]; omega
        · have e : yk = 3 := e
          subst e
          have HN2 := hide ((unhide HNX).trans (if_neg (fun q => by have := q.1; simp at this)))
          go_upto_region 12 with fail
          clear q0
          go_wp2
          go_loopw [8] (fun i wi => ∃ (k : Nat) (ms : List Nat), k ≤ ld ∧ i = .int .i64 k ∧ Hid (ms.length = k) ∧ Hid (OwnG wi 23 G ld c (ms ++ ds.drop k)) ∧ Hid (∀ x ∈ ms, W64 x) ∧ Hid (∀ j, j < k → cn (ms.getD j 0) = hkC ⟨3, X⟩ (ds.getD j 0)) ∧ Hid (Kx G wH wi)) (fun i _ => ld - (intOf i).toNat)
          case atStart => exact ⟨0, [], Nat.zero_le _, rfl, rfl, unhide O5, by simp [Hid], by unfold Hid; omega, Kx.refl _ _⟩
          case round =>
            obtain ⟨k, ms, hk, rfl, LM, OI, WI, RI, KI⟩ := hrel
            generalize wr = wi at *
            have y1 := (unhide X5).keepx (unhide KI) hGB
            by_cases hkl : k < ld
            · have hklI : (k : Int) < (ld : Int) := by omega
              have RN := hide (fun w' r (kp : Kp wi w') hr hw => rnd (unhide OI) (unhide LM) hkl (unhide LD) (unhide WI) (unhide RI) (unhide KI) kp (r := r) (y := ⟨3, X⟩) hr hw)
              have WX : Hid (W64 (ds.getD k 0)) := getD_w64 (unhide WR) k
              have hck := cell_k (unhide OI) (unhide LM) hkl
              have hcf := (unhide OI).frozen k
              have ph := (unhide PH).keepx (unhide KI) hQG
              have p0 := ph.c0
              have p1 := ph.c1
              obtain ⟨b0, b1, -, -, -⟩ := y1.o
              have Y1 := hide y1
              have P1 := hide ph
              clear ph y1
              generalize ds.getD k 0 = x at *
              have HR : Hid (cn 0 = hkC ⟨3, X⟩ x) := by unfold Hid; rw [hkC_3 rfl]; decide
              have HW : Hid (W64 0) := by unfold Hid W64; decide
              have KP := hide (Kp.refl wi)
              go_upto_region 14 with fail
              have FN := hide (unhide RN wi 0 (unhide KP) (unhide HR) (unhide HW))
              clear hck hcf p0 p1 b0 b1 RN
              generalize wi.setCell ⟨G, k, none⟩ (.float .f64 0) = w9 at *
              go_wp2
              go_roundw
              case rel => exact ⟨k + 1, _, by omega, by go_num, (unhide FN).1, (unhide FN).2.1, (unhide FN).2.2.1, (unhide FN).2.2.2.1, (unhide FN).2.2.2.2⟩
              case measure => simp [intOf]; omega
            · have hklI : ¬ (k : Int) < (ld : Int) := by omega
              have hke : k = ld := by omega
              obtain ⟨b0, b1, -, -, -⟩ := y1.o
              have LM2 : Hid (ms.length = ld) := (unhide LM).trans hke
              have OE : Hid (OwnG wi 23 G ld c ms) := by
                have h := unhide OI
                rw [List.drop_of_length_le (by have := unhide LD; omega), List.append_nil] at h
                exact h
              have HC := hide (map_hk (h := ⟨3, X⟩) (Q := fun x r => cn r = hkC ⟨3, X⟩ x) ((unhide LM2).trans (unhide LD).symm) (fun i hi => unhide RI i (by have := unhide LD; omega)) (fun _ _ e => e))
              rw [← unhide HC] at HN2
              have Y1 := hide y1
              have Z6 := hide ((unhide Z5).keepx (unhide KI) hGR)
              have K6 := hide (Kx.after (unhide K5) (unhide KI) (unhide hwG))
              clear y1
              go_wp2
              go_roundw
              case rel => exact ⟨j + 1, ms, by omega, by go_num, unhide LM2, unhide Y1, unhide OE, unhide WI, unhide HN2, unhide Z6, unhide K6⟩
              case measure => simp [intOf]; omega
        · have e : yk = 4 := e
          subst e
          obtain ⟨b0, b1, -, -, -⟩ := (unhide X5).o
          have FS := hide ((unhide O5).flts (unhide WR) (by have := unhide hdr; omega))
          have EF := hide (finT_yes (unhide MD))
          go_wp2_with fail
          refine (rfinT_any _ _ s ds wH ((unhide HS).keep (unhide K5)) (unhide FS)).mono ?_
          cases hb : anyB endB ds
          · rw [unhide EF, hb]
            rintro e wF ⟨rfl, kF⟩
            have HN2 := hide ((unhide HNX).trans (if_neg (fun q => by have := q.2; rw [hb] at this; cases this)))
            have K5 := hide ((unhide K5).trans kF)
            have X5 := hide ((unhide X5).keep kF)
            have O5 := hide ((unhide O5).keep kF)
            have Z5 := hide ((unhide Z5).keep kF)
            have PH := hide ((unhide PH).keep kF)
            clear b0 b1 hb kF FS EF
            go_upto_region 12 with fail
            go_wp2
            go_loopw [8] (fun i wi => ∃ (k : Nat) (ms : List Nat), k ≤ ld ∧ i = .int .i64 k ∧ Hid (ms.length = k) ∧ Hid (OwnG wi 23 G ld c (ms ++ ds.drop k)) ∧ Hid (∀ x ∈ ms, W64 x) ∧ Hid (∀ j, j < k → cn (ms.getD j 0) = hkC ⟨4, X⟩ (ds.getD j 0)) ∧ Hid (Kx G wF wi)) (fun i _ => ld - (intOf i).toNat)
            case atStart => exact ⟨0, [], Nat.zero_le _, rfl, rfl, unhide O5, by simp [Hid], by unfold Hid; omega, Kx.refl _ _⟩
            case round =>
              obtain ⟨k, ms, hk, rfl, LM, OI, WI, RI, KI⟩ := hrel
              generalize wr = wi at *
              have y1 := (unhide X5).keepx (unhide KI) hGB
              by_cases hkl : k < ld
              · have hklI : (k : Int) < (ld : Int) := by omega
                have RN := hide (fun w' r (kp : Kp wi w') hr hw => rnd (unhide OI) (unhide LM) hkl (unhide LD) (unhide WI) (unhide RI) (unhide KI) kp (r := r) (y := ⟨4, X⟩) hr hw)
                have WX : Hid (W64 (ds.getD k 0)) := getD_w64 (unhide WR) k
                have hck := cell_k (unhide OI) (unhide LM) hkl
                have hcf := (unhide OI).frozen k
                have ph := (unhide PH).keepx (unhide KI) hQG
                have p0 := ph.c0
                have p1 := ph.c1
                obtain ⟨b0, b1, -, -, -⟩ := y1.o
                have Y1 := hide y1
                have P1 := hide ph
                clear ph y1
                generalize ds.getD k 0 = x at *
                have HR : Hid (cn x = hkC ⟨4, X⟩ x) := by unfold Hid; rw [hkC_4 rfl]
                have HW := WX
                have KP := hide (Kp.refl wi)
                go_upto_region 14 with fail
                have FN := hide (unhide RN wi x (unhide KP) (unhide HR) (unhide HW))
                clear hck hcf p0 p1 b0 b1 RN
                generalize wi.setCell ⟨G, k, none⟩ (.float .f64 x) = w9 at *
                go_wp2
                go_roundw
                case rel => exact ⟨k + 1, _, by omega, by go_num, (unhide FN).1, (unhide FN).2.1, (unhide FN).2.2.1, (unhide FN).2.2.2.1, (unhide FN).2.2.2.2⟩
                case measure => simp [intOf]; omega
              · have hklI : ¬ (k : Int) < (ld : Int) := by omega
                have hke : k = ld := by omega
                obtain ⟨b0, b1, -, -, -⟩ := y1.o
                have LM2 : Hid (ms.length = ld) := (unhide LM).trans hke
                have OE : Hid (OwnG wi 23 G ld c ms) := by
                  have h := unhide OI
                  rw [List.drop_of_length_le (by have := unhide LD; omega), List.append_nil] at h
                  exact h
                have HC := hide (map_hk (h := ⟨4, X⟩) (Q := fun x r => cn r = hkC ⟨4, X⟩ x) ((unhide LM2).trans (unhide LD).symm) (fun i hi => unhide RI i (by have := unhide LD; omega)) (fun _ _ e => e))
                rw [← unhide HC] at HN2
                have Y1 := hide y1
                have Z6 := hide ((unhide Z5).keepx (unhide KI) hGR)
                have K6 := hide (Kx.after (unhide K5) (unhide KI) (unhide hwG))
                clear y1
                go_wp2
                go_roundw
                case rel => exact ⟨j + 1, ms, by omega, by go_num, unhide LM2, unhide Y1, unhide OE, unhide WI, unhide HN2, unhide Z6, unhide K6⟩
                case measure => simp [intOf]; omega
          · rw [unhide EF, hb]
            rintro e wF ⟨rfl, kF⟩
            have HNO := hide (ho_none (s := s) (unhide HM) (unhide HT) (hkL_none ((unhide HNX).trans (if_pos ⟨by trivial, hb⟩))))
            have K8 := hide ((unhide K5).trans kF)
            have Z8 := hide ((unhide Z5).keep kF)
            clear b0 b1 hb kF FS EF
            obtain ⟨d0, d1, d2, d3, -⟩ := (unhide Z8).o
            have z2 := (unhide Z8).set (.slice none 0 0) (.slice none 0 0)
            obtain ⟨z0, z1, -, -, -⟩ := z2.o
            have KF := hide (((unhide K8).set hRS (i := 0) (.slice none 0 0)).set hRS (i := 1) (.slice none 0 0))
            clear z2
            go_wp2
            generalize ((wF.setCell ⟨R, 0, none⟩ (.slice none 0 0)).setCell ⟨R, 1, none⟩ (.slice none 0 0)) = w9 at *
            refine bodyPost_ret (v := .tuple #[.agg #[.slice none 0 0, .slice none 0 0], .int .i64 8]) (by simp [results, Try.results14, go_sem, z0, z1]) rfl ⟨[], by rw [(unhide HNO).1, (unhide HNO).2.1]; exact HandR.nil _ _, by rw [(unhide HNO).2.2]; rfl, unhide KF⟩
      · have hltI : ¬ (j : Int) < (n : Int) := by omega
        have hjn : j = n := by omega
        have HY := hide (ho_some (s := s) (unhide HM) (unhide HT) (by have := unhide HL; rw [hjn, ← unhide HN, List.take_length] at this; exact this))
        have HLD2 := unhide LD
        have FL := hide ((unhide OR).flts (unhide WR) (by have := unhide hdr; omega))
        have RO := (unhide OR).room
        obtain ⟨o0, o1, -, -, -⟩ := (unhide XR).o
        obtain ⟨d0, d1, d2, d3, -⟩ := (unhide ZR).o
        have z2 := (unhide ZR).set (.slice ea ls ec) (.slice (some ⟨G, 0, none⟩) ld c)
        obtain ⟨z0, z1, -, -, -⟩ := z2.o
        have KF := hide (((unhide KR).set hRS (i := 0) (.slice ea ls ec)).set hRS (i := 1) (.slice (some ⟨G, 0, none⟩) ld c))
        have FF := hide ((unhide FL).setBx9 (unhide ZR) (.slice ea ls ec) (.slice (some ⟨G, 0, none⟩) ld c))
        have RO2 : Hid (ld ≤ c ∧ c ≤ 9223372036854775807) := by unfold maxLen at RO; unfold Hid; omega
        have LD3 := hide HLD2
        clear z2 HLD2 RO
        go_wp2
        generalize ((wr.setCell ⟨R, 0, none⟩ (.slice ea ls ec)).setCell ⟨R, 1, none⟩ (.slice (some ⟨G, 0, none⟩) ld c)) = w9 at *
        refine bodyPost_ret (v := .tuple #[.agg #[.slice ea ls ec, .slice (some ⟨G, 0, none⟩) ld c], .int .i64 0]) (by simp [results, Try.results14, go_sem, z0, z1]) rfl ⟨ds, by rw [(unhide HY).1, (unhide HY).2.1]; exact ⟨ea, ec, some ⟨G, 0, none⟩, c, by rw [unhide HLS, unhide LD3], by rw [unhide HLS]; exact (unhide HS).keep (unhide KF), by rw [unhide LD3]; exact unhide FF, by rw [unhide LD3]; exact (unhide RO2).1, (unhide RO2).2⟩, (unhide HY).2.2.symm, unhide KF⟩

theorem rhook_all (v : Value) (hs : List Hk) (sv dv : Value) (s : List Int) (d : List Nat) (w : World) (h : Hooks w v hs) (hs' : Ints w sv s) (hd : Flts w dv d) :
    Calls Try.prog 14 #[v, .agg #[sv, dv]] w fun e w' => ∃ ds, HandR e w' (hoS hs s d) ds (hoE hs s d) ∧ ds.map cn = hoD hs s d ∧ Kp w w' := by
  cases hm : mayH hs
  · have E := ho_may (s := s) (d := d) hm
    refine (rhook_no v hs sv dv w h hm).mono ?_
    rintro e w' ⟨rfl, k⟩
    exact ⟨[], by rw [E.1, E.2.1]; exact HandR.nil _ _, by rw [E.2.2]; rfl, k⟩
  · cases ht : mayT s d
    · have E := ho_ten hm ht
      refine (rhook_ten v hs sv dv s d w h hs' hd hm ht).mono ?_
      rintro e w' ⟨rfl, k⟩
      exact ⟨[], by rw [E.1, E.2.1]; exact HandR.nil _ _, by rw [E.2.2]; rfl, k⟩
    · exact rhook_yes v hs sv dv s d w h hs' hd hm ht

end Go.Proofs.Ytlfjclnocbohbaa
