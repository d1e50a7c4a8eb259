
/- The contract of Do: hooks and a tensor that may be. -/
import Derived.Test.YtlfjclnocbohbaaHokE
namespace Go.Proofs.Ytlfjclnocbohbaa
open Go.RowKit

theorem Bx.sls {w : World} {O b off n c n' c' : Nat} {a a' : Option Addr} {v : Value} (hb : Bx w O (.slice a n c) (.slice a' n' c')) (h : w.cell? ⟨b, off, none⟩ = some v) (hv : ∀ a n c, v ≠ .slice a n c) : b ≠ O := by
  rintro rfl
  unfold Bx at hb
  simp only [World.cell?, hb] at h
  match off, h with
  | 0, h => simp at h; exact hv _ _ _ h.symm
  | 1, h => simp at h; exact hv _ _ _ h.symm
  | off + 2, h => simp at h
theorem Ints.setBx9 {w : World} {O n c n' c' : Nat} {a a' : Option Addr} {v : Value} {xs : List Int} (h : Ints w v xs) (hb : Bx w O (.slice a n c) (.slice a' n' c')) (u u' : Value) : Ints ((w.setCell ⟨O, 0, none⟩ u).setCell ⟨O, 1, none⟩ u') v xs := by
  obtain ⟨h1, h2, h0, p, cap, rfl, h3⟩ := h
  refine ⟨h1, h2, h0, p, cap, rfl, fun hp => ?_⟩
  obtain ⟨b, off, rfl, hbl, hc⟩ := h3 hp
  have hne : ¬ b = O := hb.sls (hc 0 hp) (by intro a n c e; cases e)
  exact ⟨b, off, rfl, by simpa using hbl, fun i hi => ((cell_other hne _ _).trans (cell_other hne _ _)).trans (hc i hi)⟩
theorem Flts.setBx9 {w : World} {O n c n' c' : Nat} {a a' : Option Addr} {v : Value} {xs : List Nat} (h : Flts w v xs) (hb : Bx w O (.slice a n c) (.slice a' n' c')) (u u' : Value) : Flts ((w.setCell ⟨O, 0, none⟩ u).setCell ⟨O, 1, none⟩ u') v xs := by
  obtain ⟨h1, h2, h0, p, cap, rfl, h3⟩ := h
  refine ⟨h1, h2, h0, p, cap, rfl, fun hp => ?_⟩
  obtain ⟨b, off, rfl, hbl, hc⟩ := h3 hp
  have hne : ¬ b = O := hb.sls (hc 0 hp) (by intro a n c e; cases e)
  exact ⟨b, off, rfl, by simpa using hbl, fun i hi => ((cell_other hne _ _).trans (cell_other hne _ _)).trans (hc i hi)⟩
theorem Bx.setO9 {w : World} {R O : Nat} {x y : Value} (h : Bx w R x y) (hne : R ≠ O) (u u' : Value) : Bx ((w.setCell ⟨O, 0, none⟩ u).setCell ⟨O, 1, none⟩ u') R x y := by
  unfold Bx at h ⊢
  exact ((Below.heap_setCell _ ⟨O, 1, none⟩ u' R hne).trans (Below.heap_setCell w ⟨O, 0, none⟩ u R hne)).trans h

set_option maxHeartbeats 8000000 in
theorem do_yes (v : Value) (hs : List Hk) (sv dv : Value) (s : List Int) (d : List Nat) (w : World) (h : Hooks w v hs) (hs' : Ints w sv s) (hd : Flts w dv d) (hm : mayH hs = true) (ht : mayT s d = true) :
    Calls Try.prog 13 #[v, .agg #[sv, dv]] w fun e w' => ∃ ds, HandR e w' (hoS hs s d) ds (hoE hs s d) ∧ ds.map cn = hoD hs s d ∧ Kp w w' := by
  have H := hide h
  have HS := hide hs'
  have HD := hide hd
  have HM := hide hm
  have HT := hide ht
  have hr := h.room
  obtain ⟨la, lc, rfl, -⟩ := h.val
  clear h hm hs' hd ht
  obtain ⟨W, hW, x1, x2, k0⟩ := boxes_in w sv dv (.slice none 0 0) (.slice none 0 0)
  go_enter Try.func13, Try.ntmps13
  go_wp2_with fail
  rw [← hW]
  clear hW
  have X1 := hide x1
  have X2 := hide x2
  have K0 := hide k0
  have hRS : w.heap.size ≤ w.heap.size + 1 := Nat.le_succ _
  clear x1 x2 k0
  generalize w.heap.size + 1 = R at X2 hRS ⊢
  generalize w.heap.size = B at X1 ⊢
  refine (mayH_run _ hs W ((unhide H).keep (unhide K0))).mono ?_
  rw [unhide HM]
  rintro e w1 ⟨rfl, k1⟩
  have K1 := hide ((unhide K0).trans k1)
  have Y2 := hide ((unhide X2).keep k1)
  have Y1 := hide ((unhide X1).keep k1)
  obtain ⟨c0, c1, -, -, -⟩ := (unhide Y1).o
  clear k1 X1 X2
  go_wp2_with fail
  refine (mayT_any _ _ s d w1 ((unhide HS).keep (unhide K1)) ((unhide HD).keep (unhide K1))).mono ?_
  rw [unhide HT]
  rintro e w2 ⟨rfl, k2⟩
  have K2 := hide ((unhide K1).trans k2)
  have Z2 := hide ((unhide Y2).keep k2)
  clear c0 c1
  obtain ⟨c0, c1, -, -, -⟩ := ((unhide Y1).keep k2).o
  clear k2 Y1 Y2
  go_wp2_with fail
  refine (of_yes _ _ s d w2 ((unhide HS).keep (unhide K2)) ((unhide HD).keep (unhide K2)) (unhide HT)).mono ?_
  rintro e w3 ⟨a1, n1, c1', G, c, rfl, o, hG, og, k3⟩
  have II := hide (o.ints (unhide HS).wf (by have := (may_good (mayT_may (unhide HT))).1; omega))
  have FF := hide (og.flts (unhide HD).wf (by have := mayT_len (unhide HT); have := may_prod (mayT_may (unhide HT)); omega))
  have RO : Hid (Roomy (.slice (some ⟨G, 0, none⟩) d.length c)) := roomy _ _ _ og.room.1 (by have := og.room.2; unfold maxLen at this; omega)
  have e1 : n1 = s.length := by obtain ⟨a, cap, e, _⟩ := (unhide II).val; cases e; rfl
  subst e1
  have K3 := hide ((unhide K2).trans k3)
  have Z3 := hide ((unhide Z2).keep k3)
  clear o hG og k3 c0 c1
  go_upto_region 6 with fail
  have ka := Kp.alloc w3 (.cells #[.slice a1 s.length c1', .slice (some ⟨G, 0, none⟩) d.length c] 31)
  have XO := hide (Bx.made w3 (.slice a1 s.length c1') (.slice (some ⟨G, 0, none⟩) d.length c))
  have I4 := hide ((unhide II).keep ka)
  have F4 := hide ((unhide FF).keep ka)
  have K4 := hide ((unhide K3).trans ka)
  have Z4 := hide ((unhide Z3).keep ka)
  have hOS : w.heap.size ≤ w3.heap.size := (unhide K3).size
  have hRO : R ≠ w3.heap.size := by have := (unhide Z3).lt; omega
  clear ka II FF K3 Z3 K2 Z2 K1 K0
  generalize w3.alloc (.cells #[.slice a1 s.length c1', .slice (some ⟨G, 0, none⟩) d.length c] 31) = w4 at *
  generalize w3.heap.size = O at *
  generalize hn : hs.length = n at *
  have HN := hide hn
  clear hn
  go_wp2
  go_loopw [7, 28] (fun q i wr => ∃ (j : Nat) (a1 a2 : Option Addr) (c1 c2 : Nat) (ds : List Nat), j ≤ n ∧ q = .int .i64 0 ∧ i = .int .i64 j ∧ Hid (ds.length = d.length) ∧ Hid (Bx wr O (.slice a1 s.length c1) (.slice a2 ds.length c2)) ∧ Hid (Ints wr (.slice a1 s.length c1) s) ∧ Hid (Flts wr (.slice a2 ds.length c2) ds) ∧ Hid (Roomy (.slice a2 ds.length c2)) ∧ Hid (hkL (hs.take j) (d.map cn) = some (ds.map cn)) ∧ Hid (Bx wr R (.slice none 0 0) (.slice none 0 0)) ∧ Hid (Kp w wr)) (fun _ i _ => n - (intOf i).toNat)
  case atStart => exact ⟨0, _, _, _, _, d, Nat.zero_le _, rfl, rfl, rfl, unhide XO, unhide I4, unhide F4, unhide RO, rfl, unhide Z4, unhide K4⟩
  case round =>
    obtain ⟨j, b1, b2, e1, e2, ds, hj, rfl, rfl, LD, XR, IR, FR, RR, HL, ZR, KR⟩ := hrel
    clear XO I4 F4 RO Z4 K4
    by_cases hlt : j < n
    · have hltI : (j : Int) < (n : Int) := by omega
      have hjl : j < hs.length := by have := unhide HN; omega
      obtain ⟨lb, lo, rfl, hlb, h0, h1, -, hX⟩ := (unhide H).one (unhide KR) hjl
      have HNX := hide (st_next hjl (unhide HL))
      obtain ⟨g, hcall, hst, hstep⟩ := step_any (hs.getD j hnil) (mayH_at (unhide HM) hjl) hX
      have HST := hide hst
      have HSP := hide hstep
      clear hst hstep hX
      have MD := hide (mayT_same (unhide HT) (unhide LD))
      have hsf : ∀ (a : Addr) (x : Nat) (w : World), (store a (.float .f64 x)).run Try.prog w = stored Try.prog w a (.float .f64 x) .plain := fun a x w => run_store _ w a _ _ rfl
      generalize hs.getD j hnil = y at *
      go_upto_region 9 with fail
      obtain ⟨wH, hH, xh, kh⟩ := px_in 52 wr (.int .i64 y.k) (.float .f64 y.x)
      rw [← hH]
      have K5 := hide ((unhide KR).trans kh)
      have X5 := hide ((unhide XR).keep kh)
      have I5 := hide ((unhide IR).keep kh)
      have F5 := hide ((unhide FR).keep kh)
      have Z5 := hide ((unhide ZR).keep kh)
      clear hH kh XR IR FR ZR KR h0 h1 hlb
      generalize wr.heap.size = Q at *
      have q0 := xh.c0
      have q1 := xh.c1
      have C1 := hide (fun w0 (kp : Kp wH w0) => (unhide HSP w0).mono (R' := fun e w' => e = .returned (.func (.func g) #[.agg #[.int .i64 y.k, .float .f64 y.x]] #[]) ∧ Hid (Kp wH w') ∧ BxO w' O (.slice b1 s.length e1) (.slice b2 ds.length e2)) (by
        rintro e w' ⟨rfl, k'⟩
        exact ⟨rfl, kp.trans k', ((unhide X5).keep (kp.trans k')).o⟩))
      obtain ⟨o0, o1, o2, o3, o4⟩ := (unhide X5).o
      by_cases hbad : y.k = 4 ∧ anyB endB ds = true
      · have E := hide (st_bad (h := y) (s := s) (d := ds) hbad.1 hbad.2)
        have HNO := hide (ho_none (s := s) (unhide HM) (unhide HT) (hkL_none ((unhide HNX).trans (if_pos hbad))))
        clear hbad HNX
        have C2 := hide (fun w0 (kp : Kp wH w0) => (unhide HST _ _ s ds w0 ((unhide I5).keep kp) ((unhide F5).keep kp) (unhide RR) (unhide MD)).mono (R' := fun e w' => ∃ p1 q1 p2 q2, e = .returned (.tuple #[.agg #[.slice p1 0 q1, .slice p2 0 q2], .int .i64 8]) ∧ Hid (Kp wH w') ∧ BxO w' O (.slice b1 s.length e1) (.slice b2 ds.length e2)) (by
          rintro e w' ⟨ds', ⟨p1, q1, p2, q2, rfl, -, -, -, -⟩, hc, k'⟩
          rw [(unhide E).2.2] at hc
          have hd' : ds' = [] := List.map_eq_nil_iff.1 hc
          subst hd'
          refine ⟨p1, q1, p2, q2, ?_, kp.trans k', ((unhide X5).keep (kp.trans k')).o⟩
          rw [(unhide E).1, (unhide E).2.1]
          rfl))
        go_region_with (first
          | (go_at_call 33; refine ((unhide C1) _ ?_).mono ?_; (first | (exact unhide (by assumption)) | exact Kp.drew _ | exact Kp.refl _); rintro e w6 ⟨rfl, K6, ⟨r0, r1, r2, r3, r4⟩⟩)
          | (refine ((unhide C2) _ ?_).mono ?_; (first | (exact unhide (by assumption)) | exact Kp.drew _); rintro e w7 ⟨p1, q1', p2, q2', rfl, K7, ⟨t0, t1, t2, t3, t4⟩⟩))
        all_goals (
          have K8 := hide ((((unhide K5).trans (unhide K7)).set hOS (i := 0) (.slice p1 0 q1')).set hOS (i := 1) (.slice p2 0 q2'))
          have Z8 := hide (((unhide Z5).keep (unhide K7)).setO9 hRO (.slice p1 0 q1') (.slice p2 0 q2'))
          clear r0 r1 r2 r3 r4 t0 t1 t2 t3 t4 o0 o1 o2 o3 o4 q0 q1 K6 K7 C1 C2
          generalize ((w7.setCell ⟨O, 0, none⟩ (.slice p1 0 q1')).setCell ⟨O, 1, none⟩ (.slice p2 0 q2')) = w8 at *
          obtain ⟨d0, d1, d2, d3, -⟩ := (unhide Z8).o
          have z2 := (unhide Z8).set (.slice none 0 0) (.slice none 0 0)
          obtain ⟨z0, z1, -, -, -⟩ := z2.o
          have KF := hide (((unhide K8).set hRS (i := 0) (.slice none 0 0)).set hRS (i := 1) (.slice none 0 0))
          clear z2
          go_wp2
          generalize ((w8.setCell ⟨R, 0, none⟩ (.slice none 0 0)).setCell ⟨R, 1, none⟩ (.slice none 0 0)) = w9 at *
          refine bodyPost_ret (v := .tuple #[.agg #[.slice none 0 0, .slice none 0 0], .int .i64 8]) (by simp [results, Try.results13, go_sem, z0, z1]) rfl ⟨[], by rw [(unhide HNO).1, (unhide HNO).2.1]; exact HandR.nil _ _, by rw [(unhide HNO).2.2]; rfl, unhide KF⟩)
      · have hok : y.k ≠ 4 ∨ anyB endB ds = false := by
          by_cases h4 : y.k = 4
          · right
            cases hb : anyB endB ds
            · rfl
            · exact absurd ⟨h4, hb⟩ hbad
          · exact .inl h4
        have E := hide (st_ok (h := y) (s := s) (d := ds) hok)
        have HN2 := hide ((unhide HNX).trans (if_neg hbad))
        clear hbad HNX hok
        have C2 := hide (fun w0 (kp : Kp wH w0) => (unhide HST _ _ s ds w0 ((unhide I5).keep kp) ((unhide F5).keep kp) (unhide RR) (unhide MD)).mono (R' := fun e w' => ∃ p1 q1 p2 q2 ds', e = .returned (.tuple #[.agg #[.slice p1 s.length q1, .slice p2 ds'.length q2], .int .i64 0]) ∧ Hid (Ints w' (.slice p1 s.length q1) s ∧ Flts w' (.slice p2 ds'.length q2) ds' ∧ Roomy (.slice p2 ds'.length q2) ∧ ds'.map cn = ds.map (hkC y)) ∧ Hid (Kp wH w') ∧ BxO w' O (.slice b1 s.length e1) (.slice b2 ds.length e2)) (by
          rintro e w' ⟨ds', hh, hc, k'⟩
          rw [(unhide E).1, (unhide E).2.1] at hh
          rw [(unhide E).2.2] at hc
          obtain ⟨p1, q1, p2, q2, rfl, i1, f1, g1, g2⟩ := hh
          exact ⟨p1, q1, p2, q2, ds', rfl, ⟨i1, f1, roomy _ _ _ g1 g2, hc⟩, kp.trans k', ((unhide X5).keep (kp.trans k')).o⟩))
        go_region_with (first
          | (go_at_call 33; refine ((unhide C1) _ ?_).mono ?_; (first | (exact unhide (by assumption)) | exact Kp.drew _ | exact Kp.refl _); rintro e w6 ⟨rfl, K6, ⟨r0, r1, r2, r3, r4⟩⟩)
          | (refine ((unhide C2) _ ?_).mono ?_; (first | (exact unhide (by assumption)) | exact Kp.drew _); rintro e w7 ⟨p1, q1', p2, q2', ds', rfl, FF, K7, ⟨t0, t1, t2, t3, t4⟩⟩))
        all_goals (
          obtain ⟨i7, f7, ro7, hc7⟩ := unhide FF
          have x7 := (unhide X5).keep (unhide K7)
          have K8 := hide ((((unhide K5).trans (unhide K7)).set hOS (i := 0) (.slice p1 s.length q1')).set hOS (i := 1) (.slice p2 ds'.length q2'))
          have Z8 := hide (((unhide Z5).keep (unhide K7)).setO9 hRO (.slice p1 s.length q1') (.slice p2 ds'.length q2'))
          have I8 := hide (i7.setBx9 x7 (.slice p1 s.length q1') (.slice p2 ds'.length q2'))
          have F8 := hide (f7.setBx9 x7 (.slice p1 s.length q1') (.slice p2 ds'.length q2'))
          have X8 := hide (x7.set (.slice p1 s.length q1') (.slice p2 ds'.length q2'))
          have RO8 := hide ro7
          have LD8 : Hid (ds'.length = d.length) := by
            have := congrArg List.length hc7
            simp only [List.length_map] at this
            exact this.trans (unhide LD)
          rw [← hc7] at HN2
          clear i7 f7 ro7 hc7 x7 FF r0 r1 r2 r3 r4 t0 t1 t2 t3 t4 o0 o1 o2 o3 o4 q0 q1 K6 K7 C1 C2
          generalize ((w7.setCell ⟨O, 0, none⟩ (.slice p1 s.length q1')).setCell ⟨O, 1, none⟩ (.slice p2 ds'.length q2')) = w8 at *
          go_wp2
          go_roundw
          case rel => exact ⟨j + 1, _, _, _, _, ds', by omega, rfl, by go_num, unhide LD8, unhide X8, unhide I8, unhide F8, unhide RO8, unhide HN2, unhide Z8, unhide K8⟩
          case measure => simp [intOf]; omega)
    · have hltI : ¬ (j : Int) < (n : Int) := by omega
      have hjn : j = n := by omega
      have HY := hide (ho_some (s := s) (unhide HM) (unhide HT) (by have := unhide HL; rw [hjn, ← unhide HN, List.take_length] at this; exact this))
      obtain ⟨o0, o1, -, -, -⟩ := (unhide XR).o
      obtain ⟨d0, d1, d2, d3, -⟩ := (unhide ZR).o
      have z2 := (unhide ZR).set (.slice b1 s.length e1) (.slice b2 ds.length e2)
      obtain ⟨z0, z1, -, -, -⟩ := z2.o
      have KF := hide (((unhide KR).set hRS (i := 0) (.slice b1 s.length e1)).set hRS (i := 1) (.slice b2 ds.length e2))
      have IF := hide ((unhide IR).setBx9 (unhide ZR) (.slice b1 s.length e1) (.slice b2 ds.length e2))
      have FF := hide ((unhide FR).setBx9 (unhide ZR) (.slice b1 s.length e1) (.slice b2 ds.length e2))
      clear z2
      go_wp2
      generalize ((wr.setCell ⟨R, 0, none⟩ (.slice b1 s.length e1)).setCell ⟨R, 1, none⟩ (.slice b2 ds.length e2)) = w9 at *
      refine bodyPost_ret (v := .tuple #[.agg #[.slice b1 s.length e1, .slice b2 ds.length e2], .int .i64 0]) (by simp [results, Try.results13, go_sem, z0, z1]) rfl ⟨ds, by rw [(unhide HY).1, (unhide HY).2.1]; exact ⟨b1, e1, b2, e2, rfl, unhide IF, unhide FF, (unhide RR _ _ _ rfl).1, (unhide RR _ _ _ rfl).2⟩, (unhide HY).2.2.symm, unhide KF⟩

theorem do_all (v : Value) (hs : List Hk) (sv dv : Value) (s : List Int) (d : List Nat) (w : World) (h : Hooks w v hs) (hs' : Ints w sv s) (hd : Flts w dv d) :
    Calls Try.prog 13 #[v, .agg #[sv, dv]] w fun e w' => ∃ ds, HandR e w' (hoS hs s d) ds (hoE hs s d) ∧ ds.map cn = hoD hs s d ∧ Kp w w' := by
  cases hm : mayH hs
  · have E := ho_may (s := s) (d := d) hm
    refine (do_no v hs sv dv w h hm).mono ?_
    rintro e w' ⟨rfl, k⟩
    exact ⟨[], by rw [E.1, E.2.1]; exact HandR.nil _ _, by rw [E.2.2]; rfl, k⟩
  · cases ht : mayT s d
    · have E := ho_ten hm ht
      refine (do_ten v hs sv dv s d w h hs' hd hm ht).mono ?_
      rintro e w' ⟨rfl, k⟩
      exact ⟨[], by rw [E.1, E.2.1]; exact HandR.nil _ _, by rw [E.2.2]; rfl, k⟩
    · exact do_yes v hs sv dv s d w h hs' hd hm ht

end Go.Proofs.Ytlfjclnocbohbaa
