
/- The law MatrixMuls, walked. -/
import Derived.Test.YtgdmhmnmhfpkkaaMatK
import Derived.Test.YtgdmhmnmhfpkkaaMatL
import Derived.Test.YtgdmhmnmhfpkkaaOpn
namespace Go.Proofs.Ytgdmhmnmhfpkkaa
open Go.RowKit

set_option maxHeartbeats 4000000 in
theorem muls_walk (p p' r r' : Option Addr) (c c' o o' : Nat) (f g : List Int) (d e : List Nat) (w : World) (mf : f.length ≤ 9223372036854775807) (md : d.length ≤ 9223372036854775807) (mg : g.length ≤ 9223372036854775807) (me : e.length ≤ 9223372036854775807)
    (h0 : f.length ≤ 1000000 → Ints w (.slice p f.length c) f) (h1 : d.length ≤ 1000000 → Flts w (.slice p' d.length c') d) (h2 : g.length ≤ 1000000 → Ints w (.slice r g.length o) g) (h3 : e.length ≤ 1000000 → Flts w (.slice r' e.length o') e) (r0 : Roomy (.slice p' d.length c')) :
    Calls Try.prog 3 #[.agg #[.slice p f.length c, .slice p' d.length c'], .agg #[.slice r g.length o, .slice r' e.length o']] w fun e w' => e = .returned (.bool true) ∧ Kp w w' := by
  have R0 := hide r0
  clear r0
  by_cases gt : (decide (f.length ≤ 40) && decide (d.length ≤ 8192)) = true
  · have GT := hide gt
    simp only [Bool.and_eq_true, decide_eq_true_eq] at gt
    by_cases gu : (decide (g.length ≤ 40) && decide (e.length ≤ 8192)) = true
    · have GU := hide gu
      simp only [Bool.and_eq_true, decide_eq_true_eq] at gu
      have A_0 := hide (h0 (by omega))
      have D_0 := hide (h1 (by omega))
      have B_0 := hide (h2 (by omega))
      have E_0 := hide (h3 (by omega))
      clear h0 h1 h2 h3 gt gu
      go_enter Try.func3, Try.ntmps3
      go_wp2_with fail
      have X_1 := hide ((Bx.madeAt w (.slice p f.length c) (.slice p' d.length c') (w.heap.size) rfl).keep (Kp.alloc (w.alloc (.cells #[(.slice p f.length c), (.slice p' d.length c')] 25)) (.cells #[(.slice r g.length o), (.slice r' e.length o')] 25)))
      have Y_1 := hide (Bx.madeAt (w.alloc (.cells #[(.slice p f.length c), (.slice p' d.length c')] 25)) (.slice r g.length o) (.slice r' e.length o') (w.heap.size + 1) (by simp))
      have q1 := (Kp.alloc w (.cells #[(.slice p f.length c), (.slice p' d.length c')] 25)).trans (Kp.alloc (w.alloc (.cells #[(.slice p f.length c), (.slice p' d.length c')] 25)) (.cells #[(.slice r g.length o), (.slice r' e.length o')] 25))
      generalize ((w.alloc (.cells #[(.slice p f.length c), (.slice p' d.length c')] 25)).alloc (.cells #[(.slice r g.length o), (.slice r' e.length o')] 25)) = w1 at *
      have K1 := hide q1
      have A_1 := hide ((unhide A_0).keep q1)
      have D_1 := hide ((unhide D_0).keep q1)
      have B_1 := hide ((unhide B_0).keep q1)
      have E_1 := hide ((unhide E_0).keep q1)
      clear A_0 D_0 B_0 E_0
      clear q1
      generalize w.heap.size + 1 = B_Y at *
      generalize w.heap.size = B_X at *
      obtain ⟨X0_1, X1_1, -, -, X4_1⟩ := (unhide X_1).o
      obtain ⟨Y0_1, Y1_1, -, -, Y4_1⟩ := (unhide Y_1).o
      refine (awake5_any w1).mono ?_
      rintro e w2 ⟨rfl, k2⟩
      have K2 := hide ((unhide K1).trans k2)
      have A_2 := hide ((unhide A_1).keep k2)
      have D_2 := hide ((unhide D_1).keep k2)
      have B_2 := hide ((unhide B_1).keep k2)
      have E_2 := hide ((unhide E_1).keep k2)
      have X_2 := hide ((unhide X_1).keep k2)
      have Y_2 := hide ((unhide Y_1).keep k2)
      clear K1 A_1 D_1 B_1 E_1 X_1 X0_1 X1_1 X4_1 Y_1 Y0_1 Y1_1 Y4_1
      obtain ⟨X0_2, X1_2, -, -, X4_2⟩ := (unhide X_2).o
      obtain ⟨Y0_2, Y1_2, -, -, Y4_2⟩ := (unhide Y_2).o
      clear k2
      go_wp2_with fail
      refine (small_any p p' f.length c d.length c' w2 mf md).mono ?_
      rw [unhide GT]
      rintro e w3 ⟨rfl, k3⟩
      have K3 := hide ((unhide K2).trans k3)
      have A_3 := hide ((unhide A_2).keep k3)
      have D_3 := hide ((unhide D_2).keep k3)
      have B_3 := hide ((unhide B_2).keep k3)
      have E_3 := hide ((unhide E_2).keep k3)
      have X_3 := hide ((unhide X_2).keep k3)
      have Y_3 := hide ((unhide Y_2).keep k3)
      clear K2 A_2 D_2 B_2 E_2 X_2 X0_2 X1_2 X4_2 Y_2 Y0_2 Y1_2 Y4_2
      obtain ⟨X0_3, X1_3, -, -, X4_3⟩ := (unhide X_3).o
      obtain ⟨Y0_3, Y1_3, -, -, Y4_3⟩ := (unhide Y_3).o
      clear k3
      go_wp2_with fail
      refine (small_any r r' g.length o e.length o' w3 mg me).mono ?_
      rw [unhide GU]
      rintro e w4 ⟨rfl, k4⟩
      have K4 := hide ((unhide K3).trans k4)
      have A_4 := hide ((unhide A_3).keep k4)
      have D_4 := hide ((unhide D_3).keep k4)
      have B_4 := hide ((unhide B_3).keep k4)
      have E_4 := hide ((unhide E_3).keep k4)
      have X_4 := hide ((unhide X_3).keep k4)
      have Y_4 := hide ((unhide Y_3).keep k4)
      clear K3 A_3 D_3 B_3 E_3 X_3 X0_3 X1_3 X4_3 Y_3 Y0_3 Y1_3 Y4_3
      obtain ⟨X0_4, X1_4, -, -, X4_4⟩ := (unhide X_4).o
      obtain ⟨Y0_4, Y1_4, -, -, Y4_4⟩ := (unhide Y_4).o
      clear k4
      generalize hks : mulS f d g e = ks at *
      generalize hkd : mulD f d g e = kd at *
      generalize hke : mulE f d g e = ke at *
      generalize hts : turS f d = ts at *
      generalize htd : turL f d = td at *
      generalize hte : turE f d = te at *
      generalize hss : smS f d = ss at *
      generalize hsd : smL f d = sd at *
      generalize hse : smE f d = se at *
      have HK := hide (And.intro hks (And.intro hkd hke))
      clear hks hkd hke
      have HG := hide (And.intro hts (And.intro htd hte))
      clear hts htd hte
      have HS := hide (And.intro hss (And.intro hsd hse))
      clear hss hsd hse
      have C1 : Hid (∀ sv dv sv2 dv2 w, Ints w sv f → Flts w dv d → Roomy dv → Ints w sv2 g → Flts w dv2 e → Calls Try.prog 11 #[.agg #[sv, dv], .agg #[sv2, dv2]] w fun ee w' => ∃ ds, HandR ee w' ks ds ke ∧ ds.map cn = kd ∧ Kp w w') := by intro sv dv sv2 dv2 w h1 h2 h3 h4 h5; rw [← (unhide HK).1, ← (unhide HK).2.1, ← (unhide HK).2.2]; exact mul_all sv dv sv2 dv2 f g d e w h1 h2 h3 h4 h5
      have C2 : Hid (∀ sv dv sv2 dv2 w, Ints w sv f → Flts w dv d → Ints w sv2 g → Flts w dv2 e → Calls Try.prog 12 #[.agg #[sv, dv], .agg #[sv2, dv2]] w fun ee w' => ∃ ds, HandR ee w' ks ds ke ∧ ds.map cn = kd ∧ Kp w w') := by intro sv dv sv2 dv2 w h1 h2 h4 h5; rw [← (unhide HK).1, ← (unhide HK).2.1, ← (unhide HK).2.2]; exact rmul_all sv dv sv2 dv2 f g d e w h1 h2 h4 h5
      have C3 : Hid (∀ sv dv w, Ints w sv f → Flts w dv d → Calls Try.prog 13 #[.agg #[sv, dv]] w fun ee w' => HandR ee w' ts td te ∧ Kp w w') := by intro sv dv w h1 h2; rw [← (unhide HG).1, ← (unhide HG).2.1, ← (unhide HG).2.2]; exact turn_all sv dv f d w h1 h2
      have C4 : Hid (∀ sv dv w, Ints w sv f → Flts w dv d → Calls Try.prog 14 #[.agg #[sv, dv]] w fun ee w' => HandR ee w' ts td te ∧ Kp w w') := by intro sv dv w h1 h2; rw [← (unhide HG).1, ← (unhide HG).2.1, ← (unhide HG).2.2]; exact rturn_all sv dv f d w h1 h2
      have C5 : Hid (∀ sv dv w, Ints w sv f → Flts w dv d → Roomy dv → Calls Try.prog 15 #[.agg #[sv, dv]] w fun ee w' => ∃ ds, HandR ee w' ss ds se ∧ ds.map cn = sd ∧ Kp w w') := by intro sv dv w h1 h2 h3; rw [← (unhide HS).1, ← (unhide HS).2.1, ← (unhide HS).2.2]; exact sum_all sv dv f d w h1 h2 h3
      have C6 : Hid (∀ sv dv w, Ints w sv f → Flts w dv d → Roomy dv → Calls Try.prog 16 #[.agg #[sv, dv]] w fun ee w' => ∃ ds, HandR ee w' ss ds se ∧ ds.map cn = sd ∧ Kp w w') := by intro sv dv w h1 h2 h3; rw [← (unhide HS).1, ← (unhide HS).2.1, ← (unhide HS).2.2]; exact rsum_all sv dv f d w h1 h2 h3
      clear HK HG HS
      go_wp2_with fail
      refine (unhide C1 _ _ _ _ w4 (unhide A_4) (unhide D_4) (unhide R0) (unhide B_4) (unhide E_4)).mono ?_
      rintro e w5 ⟨lx, ⟨ax, cx, bx, dx, rfl, sx, fx, ux, vx⟩, hx, k5⟩
      have K5 := hide ((unhide K4).trans k5)
      have A_5 := hide ((unhide A_4).keep k5)
      have D_5 := hide ((unhide D_4).keep k5)
      have B_5 := hide ((unhide B_4).keep k5)
      have E_5 := hide ((unhide E_4).keep k5)
      have X_5 := hide ((unhide X_4).keep k5)
      have Y_5 := hide ((unhide Y_4).keep k5)
      clear K4 A_4 D_4 B_4 E_4 X_4 X0_4 X1_4 X4_4 Y_4 Y0_4 Y1_4 Y4_4
      obtain ⟨X0_5, X1_5, -, -, X4_5⟩ := (unhide X_5).o
      obtain ⟨Y0_5, Y1_5, -, -, Y4_5⟩ := (unhide Y_5).o
      clear k5
      have Hx := hide hx
      clear hx
      have Rx : Hid (Roomy (.slice bx lx.length dx)) := roomy _ _ _ ux vx
      clear ux vx
      have Sx_5 := hide sx
      have Dx_5 := hide fx
      clear sx fx
      go_wp2_with fail
      have Bx_6 := hide (Bx.madeAt w5 (.slice ax ks.length cx) (.slice bx lx.length dx) (w5.heap.size) rfl)
      have q6 := Kp.alloc w5 (.cells #[(.slice ax ks.length cx), (.slice bx lx.length dx)] 25)
      generalize (w5.alloc (.cells #[(.slice ax ks.length cx), (.slice bx lx.length dx)] 25)) = w6 at *
      have K6 := hide ((unhide K5).trans q6)
      have A_6 := hide ((unhide A_5).keep q6)
      have D_6 := hide ((unhide D_5).keep q6)
      have B_6 := hide ((unhide B_5).keep q6)
      have E_6 := hide ((unhide E_5).keep q6)
      have Sx_6 := hide ((unhide Sx_5).keep q6)
      have Dx_6 := hide ((unhide Dx_5).keep q6)
      have X_6 := hide ((unhide X_5).keep q6)
      have Y_6 := hide ((unhide Y_5).keep q6)
      clear K5 A_5 D_5 B_5 E_5 Sx_5 Dx_5 X_5 X0_5 X1_5 X4_5 Y_5 Y0_5 Y1_5 Y4_5
      obtain ⟨X0_6, X1_6, -, -, X4_6⟩ := (unhide X_6).o
      obtain ⟨Y0_6, Y1_6, -, -, Y4_6⟩ := (unhide Y_6).o
      clear q6
      generalize w5.heap.size = B_Bx at *
      obtain ⟨Bx0_6, Bx1_6, -, -, Bx4_6⟩ := (unhide Bx_6).o
      refine (unhide C2 _ _ _ _ w6 (unhide A_6) (unhide D_6) (unhide B_6) (unhide E_6)).mono ?_
      rintro e w7 ⟨lz, ⟨az, cz, bz, dz, rfl, sz, fz, uz, vz⟩, hz, k7⟩
      have K7 := hide ((unhide K6).trans k7)
      have A_7 := hide ((unhide A_6).keep k7)
      have D_7 := hide ((unhide D_6).keep k7)
      have B_7 := hide ((unhide B_6).keep k7)
      have E_7 := hide ((unhide E_6).keep k7)
      have Sx_7 := hide ((unhide Sx_6).keep k7)
      have Dx_7 := hide ((unhide Dx_6).keep k7)
      have X_7 := hide ((unhide X_6).keep k7)
      have Y_7 := hide ((unhide Y_6).keep k7)
      have Bx_7 := hide ((unhide Bx_6).keep k7)
      clear K6 A_6 D_6 B_6 E_6 Sx_6 Dx_6 X_6 X0_6 X1_6 X4_6 Y_6 Y0_6 Y1_6 Y4_6 Bx_6 Bx0_6 Bx1_6 Bx4_6
      obtain ⟨X0_7, X1_7, -, -, X4_7⟩ := (unhide X_7).o
      obtain ⟨Y0_7, Y1_7, -, -, Y4_7⟩ := (unhide Y_7).o
      obtain ⟨Bx0_7, Bx1_7, -, -, Bx4_7⟩ := (unhide Bx_7).o
      clear k7
      have Hz := hide hz
      clear hz
      have Rz : Hid (Roomy (.slice bz lz.length dz)) := roomy _ _ _ uz vz
      clear uz vz
      have Sz_7 := hide sz
      have Dz_7 := hide fz
      clear sz fz
      go_wp2_with fail
      have Bz_8 := hide (Bx.madeAt w7 (.slice az ks.length cz) (.slice bz lz.length dz) (w7.heap.size) rfl)
      have q8 := Kp.alloc w7 (.cells #[(.slice az ks.length cz), (.slice bz lz.length dz)] 25)
      generalize (w7.alloc (.cells #[(.slice az ks.length cz), (.slice bz lz.length dz)] 25)) = w8 at *
      have K8 := hide ((unhide K7).trans q8)
      have A_8 := hide ((unhide A_7).keep q8)
      have D_8 := hide ((unhide D_7).keep q8)
      have B_8 := hide ((unhide B_7).keep q8)
      have E_8 := hide ((unhide E_7).keep q8)
      have Sx_8 := hide ((unhide Sx_7).keep q8)
      have Dx_8 := hide ((unhide Dx_7).keep q8)
      have Sz_8 := hide ((unhide Sz_7).keep q8)
      have Dz_8 := hide ((unhide Dz_7).keep q8)
      have X_8 := hide ((unhide X_7).keep q8)
      have Y_8 := hide ((unhide Y_7).keep q8)
      have Bx_8 := hide ((unhide Bx_7).keep q8)
      clear K7 A_7 D_7 B_7 E_7 Sx_7 Dx_7 Sz_7 Dz_7 X_7 X0_7 X1_7 X4_7 Y_7 Y0_7 Y1_7 Y4_7 Bx_7 Bx0_7 Bx1_7 Bx4_7
      obtain ⟨X0_8, X1_8, -, -, X4_8⟩ := (unhide X_8).o
      obtain ⟨Y0_8, Y1_8, -, -, Y4_8⟩ := (unhide Y_8).o
      obtain ⟨Bx0_8, Bx1_8, -, -, Bx4_8⟩ := (unhide Bx_8).o
      clear q8
      generalize w7.heap.size = B_Bz at *
      obtain ⟨Bz0_8, Bz1_8, -, -, Bz4_8⟩ := (unhide Bz_8).o
      refine (unhide C3 _ _ w8 (unhide A_8) (unhide D_8)).mono ?_
      rintro e w9 ⟨⟨au, cu, bu, du, rfl, su, fu, uu, vu⟩, k9⟩
      have K9 := hide ((unhide K8).trans k9)
      have A_9 := hide ((unhide A_8).keep k9)
      have D_9 := hide ((unhide D_8).keep k9)
      have B_9 := hide ((unhide B_8).keep k9)
      have E_9 := hide ((unhide E_8).keep k9)
      have Sx_9 := hide ((unhide Sx_8).keep k9)
      have Dx_9 := hide ((unhide Dx_8).keep k9)
      have Sz_9 := hide ((unhide Sz_8).keep k9)
      have Dz_9 := hide ((unhide Dz_8).keep k9)
      have X_9 := hide ((unhide X_8).keep k9)
      have Y_9 := hide ((unhide Y_8).keep k9)
      have Bx_9 := hide ((unhide Bx_8).keep k9)
      have Bz_9 := hide ((unhide Bz_8).keep k9)
      clear K8 A_8 D_8 B_8 E_8 Sx_8 Dx_8 Sz_8 Dz_8 X_8 X0_8 X1_8 X4_8 Y_8 Y0_8 Y1_8 Y4_8 Bx_8 Bx0_8 Bx1_8 Bx4_8 Bz_8 Bz0_8 Bz1_8 Bz4_8
      obtain ⟨X0_9, X1_9, -, -, X4_9⟩ := (unhide X_9).o
      obtain ⟨Y0_9, Y1_9, -, -, Y4_9⟩ := (unhide Y_9).o
      obtain ⟨Bx0_9, Bx1_9, -, -, Bx4_9⟩ := (unhide Bx_9).o
      obtain ⟨Bz0_9, Bz1_9, -, -, Bz4_9⟩ := (unhide Bz_9).o
      clear k9
      have Ru : Hid (Roomy (.slice bu td.length du)) := roomy _ _ _ uu vu
      clear uu vu
      have Su_9 := hide su
      have Du_9 := hide fu
      clear su fu
      go_wp2_with fail
      have Bu_10 := hide (Bx.madeAt w9 (.slice au ts.length cu) (.slice bu td.length du) (w9.heap.size) rfl)
      have q10 := Kp.alloc w9 (.cells #[(.slice au ts.length cu), (.slice bu td.length du)] 25)
      generalize (w9.alloc (.cells #[(.slice au ts.length cu), (.slice bu td.length du)] 25)) = w10 at *
      have K10 := hide ((unhide K9).trans q10)
      have A_10 := hide ((unhide A_9).keep q10)
      have D_10 := hide ((unhide D_9).keep q10)
      have B_10 := hide ((unhide B_9).keep q10)
      have E_10 := hide ((unhide E_9).keep q10)
      have Sx_10 := hide ((unhide Sx_9).keep q10)
      have Dx_10 := hide ((unhide Dx_9).keep q10)
      have Sz_10 := hide ((unhide Sz_9).keep q10)
      have Dz_10 := hide ((unhide Dz_9).keep q10)
      have Su_10 := hide ((unhide Su_9).keep q10)
      have Du_10 := hide ((unhide Du_9).keep q10)
      have X_10 := hide ((unhide X_9).keep q10)
      have Y_10 := hide ((unhide Y_9).keep q10)
      have Bx_10 := hide ((unhide Bx_9).keep q10)
      have Bz_10 := hide ((unhide Bz_9).keep q10)
      clear K9 A_9 D_9 B_9 E_9 Sx_9 Dx_9 Sz_9 Dz_9 Su_9 Du_9 X_9 X0_9 X1_9 X4_9 Y_9 Y0_9 Y1_9 Y4_9 Bx_9 Bx0_9 Bx1_9 Bx4_9 Bz_9 Bz0_9 Bz1_9 Bz4_9
      obtain ⟨X0_10, X1_10, -, -, X4_10⟩ := (unhide X_10).o
      obtain ⟨Y0_10, Y1_10, -, -, Y4_10⟩ := (unhide Y_10).o
      obtain ⟨Bx0_10, Bx1_10, -, -, Bx4_10⟩ := (unhide Bx_10).o
      obtain ⟨Bz0_10, Bz1_10, -, -, Bz4_10⟩ := (unhide Bz_10).o
      clear q10
      generalize w9.heap.size = B_Bu at *
      obtain ⟨Bu0_10, Bu1_10, -, -, Bu4_10⟩ := (unhide Bu_10).o
      refine (unhide C4 _ _ w10 (unhide A_10) (unhide D_10)).mono ?_
      rintro e w11 ⟨⟨av, cv, bv, dv, rfl, sv, fv, uv, vv⟩, k11⟩
      have K11 := hide ((unhide K10).trans k11)
      have A_11 := hide ((unhide A_10).keep k11)
      have D_11 := hide ((unhide D_10).keep k11)
      have B_11 := hide ((unhide B_10).keep k11)
      have E_11 := hide ((unhide E_10).keep k11)
      have Sx_11 := hide ((unhide Sx_10).keep k11)
      have Dx_11 := hide ((unhide Dx_10).keep k11)
      have Sz_11 := hide ((unhide Sz_10).keep k11)
      have Dz_11 := hide ((unhide Dz_10).keep k11)
      have Su_11 := hide ((unhide Su_10).keep k11)
      have Du_11 := hide ((unhide Du_10).keep k11)
      have X_11 := hide ((unhide X_10).keep k11)
      have Y_11 := hide ((unhide Y_10).keep k11)
      have Bx_11 := hide ((unhide Bx_10).keep k11)
      have Bz_11 := hide ((unhide Bz_10).keep k11)
      have Bu_11 := hide ((unhide Bu_10).keep k11)
      clear K10 A_10 D_10 B_10 E_10 Sx_10 Dx_10 Sz_10 Dz_10 Su_10 Du_10 X_10 X0_10 X1_10 X4_10 Y_10 Y0_10 Y1_10 Y4_10 Bx_10 Bx0_10 Bx1_10 Bx4_10 Bz_10 Bz0_10 Bz1_10 Bz4_10 Bu_10 Bu0_10 Bu1_10 Bu4_10
      obtain ⟨X0_11, X1_11, -, -, X4_11⟩ := (unhide X_11).o
      obtain ⟨Y0_11, Y1_11, -, -, Y4_11⟩ := (unhide Y_11).o
      obtain ⟨Bx0_11, Bx1_11, -, -, Bx4_11⟩ := (unhide Bx_11).o
      obtain ⟨Bz0_11, Bz1_11, -, -, Bz4_11⟩ := (unhide Bz_11).o
      obtain ⟨Bu0_11, Bu1_11, -, -, Bu4_11⟩ := (unhide Bu_11).o
      clear k11
      have Rv : Hid (Roomy (.slice bv td.length dv)) := roomy _ _ _ uv vv
      clear uv vv
      have Sv_11 := hide sv
      have Dv_11 := hide fv
      clear sv fv
      go_wp2_with fail
      have Bv_12 := hide (Bx.madeAt w11 (.slice av ts.length cv) (.slice bv td.length dv) (w11.heap.size) rfl)
      have q12 := Kp.alloc w11 (.cells #[(.slice av ts.length cv), (.slice bv td.length dv)] 25)
      generalize (w11.alloc (.cells #[(.slice av ts.length cv), (.slice bv td.length dv)] 25)) = w12 at *
      have K12 := hide ((unhide K11).trans q12)
      have A_12 := hide ((unhide A_11).keep q12)
      have D_12 := hide ((unhide D_11).keep q12)
      have B_12 := hide ((unhide B_11).keep q12)
      have E_12 := hide ((unhide E_11).keep q12)
      have Sx_12 := hide ((unhide Sx_11).keep q12)
      have Dx_12 := hide ((unhide Dx_11).keep q12)
      have Sz_12 := hide ((unhide Sz_11).keep q12)
      have Dz_12 := hide ((unhide Dz_11).keep q12)
      have Su_12 := hide ((unhide Su_11).keep q12)
      have Du_12 := hide ((unhide Du_11).keep q12)
      have Sv_12 := hide ((unhide Sv_11).keep q12)
      have Dv_12 := hide ((unhide Dv_11).keep q12)
      have X_12 := hide ((unhide X_11).keep q12)
      have Y_12 := hide ((unhide Y_11).keep q12)
      have Bx_12 := hide ((unhide Bx_11).keep q12)
      have Bz_12 := hide ((unhide Bz_11).keep q12)
      have Bu_12 := hide ((unhide Bu_11).keep q12)
      clear K11 A_11 D_11 B_11 E_11 Sx_11 Dx_11 Sz_11 Dz_11 Su_11 Du_11 Sv_11 Dv_11 X_11 X0_11 X1_11 X4_11 Y_11 Y0_11 Y1_11 Y4_11 Bx_11 Bx0_11 Bx1_11 Bx4_11 Bz_11 Bz0_11 Bz1_11 Bz4_11 Bu_11 Bu0_11 Bu1_11 Bu4_11
      obtain ⟨X0_12, X1_12, -, -, X4_12⟩ := (unhide X_12).o
      obtain ⟨Y0_12, Y1_12, -, -, Y4_12⟩ := (unhide Y_12).o
      obtain ⟨Bx0_12, Bx1_12, -, -, Bx4_12⟩ := (unhide Bx_12).o
      obtain ⟨Bz0_12, Bz1_12, -, -, Bz4_12⟩ := (unhide Bz_12).o
      obtain ⟨Bu0_12, Bu1_12, -, -, Bu4_12⟩ := (unhide Bu_12).o
      clear q12
      generalize w11.heap.size = B_Bv at *
      obtain ⟨Bv0_12, Bv1_12, -, -, Bv4_12⟩ := (unhide Bv_12).o
      refine (unhide C5 _ _ w12 (unhide A_12) (unhide D_12) (unhide R0)).mono ?_
      rintro e w13 ⟨lm, ⟨am, cm, bm, dm, rfl, sm, fm, um, vm⟩, hm, k13⟩
      have K13 := hide ((unhide K12).trans k13)
      have A_13 := hide ((unhide A_12).keep k13)
      have D_13 := hide ((unhide D_12).keep k13)
      have B_13 := hide ((unhide B_12).keep k13)
      have E_13 := hide ((unhide E_12).keep k13)
      have Sx_13 := hide ((unhide Sx_12).keep k13)
      have Dx_13 := hide ((unhide Dx_12).keep k13)
      have Sz_13 := hide ((unhide Sz_12).keep k13)
      have Dz_13 := hide ((unhide Dz_12).keep k13)
      have Su_13 := hide ((unhide Su_12).keep k13)
      have Du_13 := hide ((unhide Du_12).keep k13)
      have Sv_13 := hide ((unhide Sv_12).keep k13)
      have Dv_13 := hide ((unhide Dv_12).keep k13)
      have X_13 := hide ((unhide X_12).keep k13)
      have Y_13 := hide ((unhide Y_12).keep k13)
      have Bx_13 := hide ((unhide Bx_12).keep k13)
      have Bz_13 := hide ((unhide Bz_12).keep k13)
      have Bu_13 := hide ((unhide Bu_12).keep k13)
      have Bv_13 := hide ((unhide Bv_12).keep k13)
      clear K12 A_12 D_12 B_12 E_12 Sx_12 Dx_12 Sz_12 Dz_12 Su_12 Du_12 Sv_12 Dv_12 X_12 X0_12 X1_12 X4_12 Y_12 Y0_12 Y1_12 Y4_12 Bx_12 Bx0_12 Bx1_12 Bx4_12 Bz_12 Bz0_12 Bz1_12 Bz4_12 Bu_12 Bu0_12 Bu1_12 Bu4_12 Bv_12 Bv0_12 Bv1_12 Bv4_12
      obtain ⟨X0_13, X1_13, -, -, X4_13⟩ := (unhide X_13).o
      obtain ⟨Y0_13, Y1_13, -, -, Y4_13⟩ := (unhide Y_13).o
      obtain ⟨Bx0_13, Bx1_13, -, -, Bx4_13⟩ := (unhide Bx_13).o
      obtain ⟨Bz0_13, Bz1_13, -, -, Bz4_13⟩ := (unhide Bz_13).o
      obtain ⟨Bu0_13, Bu1_13, -, -, Bu4_13⟩ := (unhide Bu_13).o
      obtain ⟨Bv0_13, Bv1_13, -, -, Bv4_13⟩ := (unhide Bv_13).o
      clear k13
      have Hm := hide hm
      clear hm
      have Rm : Hid (Roomy (.slice bm lm.length dm)) := roomy _ _ _ um vm
      clear um vm
      have Sm_13 := hide sm
      have Dm_13 := hide fm
      clear sm fm
      go_wp2_with fail
      have Bm_14 := hide (Bx.madeAt w13 (.slice am ss.length cm) (.slice bm lm.length dm) (w13.heap.size) rfl)
      have q14 := Kp.alloc w13 (.cells #[(.slice am ss.length cm), (.slice bm lm.length dm)] 25)
      generalize (w13.alloc (.cells #[(.slice am ss.length cm), (.slice bm lm.length dm)] 25)) = w14 at *
      have K14 := hide ((unhide K13).trans q14)
      have A_14 := hide ((unhide A_13).keep q14)
      have D_14 := hide ((unhide D_13).keep q14)
      have B_14 := hide ((unhide B_13).keep q14)
      have E_14 := hide ((unhide E_13).keep q14)
      have Sx_14 := hide ((unhide Sx_13).keep q14)
      have Dx_14 := hide ((unhide Dx_13).keep q14)
      have Sz_14 := hide ((unhide Sz_13).keep q14)
      have Dz_14 := hide ((unhide Dz_13).keep q14)
      have Su_14 := hide ((unhide Su_13).keep q14)
      have Du_14 := hide ((unhide Du_13).keep q14)
      have Sv_14 := hide ((unhide Sv_13).keep q14)
      have Dv_14 := hide ((unhide Dv_13).keep q14)
      have Sm_14 := hide ((unhide Sm_13).keep q14)
      have Dm_14 := hide ((unhide Dm_13).keep q14)
      have X_14 := hide ((unhide X_13).keep q14)
      have Y_14 := hide ((unhide Y_13).keep q14)
      have Bx_14 := hide ((unhide Bx_13).keep q14)
      have Bz_14 := hide ((unhide Bz_13).keep q14)
      have Bu_14 := hide ((unhide Bu_13).keep q14)
      have Bv_14 := hide ((unhide Bv_13).keep q14)
      clear K13 A_13 D_13 B_13 E_13 Sx_13 Dx_13 Sz_13 Dz_13 Su_13 Du_13 Sv_13 Dv_13 Sm_13 Dm_13 X_13 X0_13 X1_13 X4_13 Y_13 Y0_13 Y1_13 Y4_13 Bx_13 Bx0_13 Bx1_13 Bx4_13 Bz_13 Bz0_13 Bz1_13 Bz4_13 Bu_13 Bu0_13 Bu1_13 Bu4_13 Bv_13 Bv0_13 Bv1_13 Bv4_13
      obtain ⟨X0_14, X1_14, -, -, X4_14⟩ := (unhide X_14).o
      obtain ⟨Y0_14, Y1_14, -, -, Y4_14⟩ := (unhide Y_14).o
      obtain ⟨Bx0_14, Bx1_14, -, -, Bx4_14⟩ := (unhide Bx_14).o
      obtain ⟨Bz0_14, Bz1_14, -, -, Bz4_14⟩ := (unhide Bz_14).o
      obtain ⟨Bu0_14, Bu1_14, -, -, Bu4_14⟩ := (unhide Bu_14).o
      obtain ⟨Bv0_14, Bv1_14, -, -, Bv4_14⟩ := (unhide Bv_14).o
      clear q14
      generalize w13.heap.size = B_Bm at *
      obtain ⟨Bm0_14, Bm1_14, -, -, Bm4_14⟩ := (unhide Bm_14).o
      refine (unhide C6 _ _ w14 (unhide A_14) (unhide D_14) (unhide R0)).mono ?_
      rintro e w15 ⟨lq, ⟨aq, cq, bq, dq, rfl, sq, fq, uq, vq⟩, hq, k15⟩
      have K15 := hide ((unhide K14).trans k15)
      have A_15 := hide ((unhide A_14).keep k15)
      have D_15 := hide ((unhide D_14).keep k15)
      have B_15 := hide ((unhide B_14).keep k15)
      have E_15 := hide ((unhide E_14).keep k15)
      have Sx_15 := hide ((unhide Sx_14).keep k15)
      have Dx_15 := hide ((unhide Dx_14).keep k15)
      have Sz_15 := hide ((unhide Sz_14).keep k15)
      have Dz_15 := hide ((unhide Dz_14).keep k15)
      have Su_15 := hide ((unhide Su_14).keep k15)
      have Du_15 := hide ((unhide Du_14).keep k15)
      have Sv_15 := hide ((unhide Sv_14).keep k15)
      have Dv_15 := hide ((unhide Dv_14).keep k15)
      have Sm_15 := hide ((unhide Sm_14).keep k15)
      have Dm_15 := hide ((unhide Dm_14).keep k15)
      have X_15 := hide ((unhide X_14).keep k15)
      have Y_15 := hide ((unhide Y_14).keep k15)
      have Bx_15 := hide ((unhide Bx_14).keep k15)
      have Bz_15 := hide ((unhide Bz_14).keep k15)
      have Bu_15 := hide ((unhide Bu_14).keep k15)
      have Bv_15 := hide ((unhide Bv_14).keep k15)
      have Bm_15 := hide ((unhide Bm_14).keep k15)
      clear K14 A_14 D_14 B_14 E_14 Sx_14 Dx_14 Sz_14 Dz_14 Su_14 Du_14 Sv_14 Dv_14 Sm_14 Dm_14 X_14 X0_14 X1_14 X4_14 Y_14 Y0_14 Y1_14 Y4_14 Bx_14 Bx0_14 Bx1_14 Bx4_14 Bz_14 Bz0_14 Bz1_14 Bz4_14 Bu_14 Bu0_14 Bu1_14 Bu4_14 Bv_14 Bv0_14 Bv1_14 Bv4_14 Bm_14 Bm0_14 Bm1_14 Bm4_14
      obtain ⟨X0_15, X1_15, -, -, X4_15⟩ := (unhide X_15).o
      obtain ⟨Y0_15, Y1_15, -, -, Y4_15⟩ := (unhide Y_15).o
      obtain ⟨Bx0_15, Bx1_15, -, -, Bx4_15⟩ := (unhide Bx_15).o
      obtain ⟨Bz0_15, Bz1_15, -, -, Bz4_15⟩ := (unhide Bz_15).o
      obtain ⟨Bu0_15, Bu1_15, -, -, Bu4_15⟩ := (unhide Bu_15).o
      obtain ⟨Bv0_15, Bv1_15, -, -, Bv4_15⟩ := (unhide Bv_15).o
      obtain ⟨Bm0_15, Bm1_15, -, -, Bm4_15⟩ := (unhide Bm_15).o
      clear k15
      have Hq := hide hq
      clear hq
      have Rq : Hid (Roomy (.slice bq lq.length dq)) := roomy _ _ _ uq vq
      clear uq vq
      have Sq_15 := hide sq
      have Dq_15 := hide fq
      clear sq fq
      go_wp2_with fail
      have Bq_16 := hide (Bx.madeAt w15 (.slice aq ss.length cq) (.slice bq lq.length dq) (w15.heap.size) rfl)
      have q16 := Kp.alloc w15 (.cells #[(.slice aq ss.length cq), (.slice bq lq.length dq)] 25)
      generalize (w15.alloc (.cells #[(.slice aq ss.length cq), (.slice bq lq.length dq)] 25)) = w16 at *
      have K16 := hide ((unhide K15).trans q16)
      have A_16 := hide ((unhide A_15).keep q16)
      have D_16 := hide ((unhide D_15).keep q16)
      have B_16 := hide ((unhide B_15).keep q16)
      have E_16 := hide ((unhide E_15).keep q16)
      have Sx_16 := hide ((unhide Sx_15).keep q16)
      have Dx_16 := hide ((unhide Dx_15).keep q16)
      have Sz_16 := hide ((unhide Sz_15).keep q16)
      have Dz_16 := hide ((unhide Dz_15).keep q16)
      have Su_16 := hide ((unhide Su_15).keep q16)
      have Du_16 := hide ((unhide Du_15).keep q16)
      have Sv_16 := hide ((unhide Sv_15).keep q16)
      have Dv_16 := hide ((unhide Dv_15).keep q16)
      have Sm_16 := hide ((unhide Sm_15).keep q16)
      have Dm_16 := hide ((unhide Dm_15).keep q16)
      have Sq_16 := hide ((unhide Sq_15).keep q16)
      have Dq_16 := hide ((unhide Dq_15).keep q16)
      have X_16 := hide ((unhide X_15).keep q16)
      have Y_16 := hide ((unhide Y_15).keep q16)
      have Bx_16 := hide ((unhide Bx_15).keep q16)
      have Bz_16 := hide ((unhide Bz_15).keep q16)
      have Bu_16 := hide ((unhide Bu_15).keep q16)
      have Bv_16 := hide ((unhide Bv_15).keep q16)
      have Bm_16 := hide ((unhide Bm_15).keep q16)
      clear K15 A_15 D_15 B_15 E_15 Sx_15 Dx_15 Sz_15 Dz_15 Su_15 Du_15 Sv_15 Dv_15 Sm_15 Dm_15 Sq_15 Dq_15 X_15 X0_15 X1_15 X4_15 Y_15 Y0_15 Y1_15 Y4_15 Bx_15 Bx0_15 Bx1_15 Bx4_15 Bz_15 Bz0_15 Bz1_15 Bz4_15 Bu_15 Bu0_15 Bu1_15 Bu4_15 Bv_15 Bv0_15 Bv1_15 Bv4_15 Bm_15 Bm0_15 Bm1_15 Bm4_15
      obtain ⟨X0_16, X1_16, -, -, X4_16⟩ := (unhide X_16).o
      obtain ⟨Y0_16, Y1_16, -, -, Y4_16⟩ := (unhide Y_16).o
      obtain ⟨Bx0_16, Bx1_16, -, -, Bx4_16⟩ := (unhide Bx_16).o
      obtain ⟨Bz0_16, Bz1_16, -, -, Bz4_16⟩ := (unhide Bz_16).o
      obtain ⟨Bu0_16, Bu1_16, -, -, Bu4_16⟩ := (unhide Bu_16).o
      obtain ⟨Bv0_16, Bv1_16, -, -, Bv4_16⟩ := (unhide Bv_16).o
      obtain ⟨Bm0_16, Bm1_16, -, -, Bm4_16⟩ := (unhide Bm_16).o
      clear q16
      generalize w15.heap.size = B_Bq at *
      obtain ⟨Bq0_16, Bq1_16, -, -, Bq4_16⟩ := (unhide Bq_16).o
      clear C1 C2 C3 C4 C5 C6
      refine (same5_any _ _ _ _ ks lx lz ke w16 (unhide Sx_16) (unhide Dx_16) (unhide Sz_16) (unhide Dz_16) ((unhide Hx).trans (unhide Hz).symm)).mono ?_
      rintro e w17 ⟨rfl, k17⟩
      have K17 := hide ((unhide K16).trans k17)
      have A_17 := hide ((unhide A_16).keep k17)
      have D_17 := hide ((unhide D_16).keep k17)
      have B_17 := hide ((unhide B_16).keep k17)
      have E_17 := hide ((unhide E_16).keep k17)
      have Sx_17 := hide ((unhide Sx_16).keep k17)
      have Dx_17 := hide ((unhide Dx_16).keep k17)
      have Sz_17 := hide ((unhide Sz_16).keep k17)
      have Dz_17 := hide ((unhide Dz_16).keep k17)
      have Su_17 := hide ((unhide Su_16).keep k17)
      have Du_17 := hide ((unhide Du_16).keep k17)
      have Sv_17 := hide ((unhide Sv_16).keep k17)
      have Dv_17 := hide ((unhide Dv_16).keep k17)
      have Sm_17 := hide ((unhide Sm_16).keep k17)
      have Dm_17 := hide ((unhide Dm_16).keep k17)
      have Sq_17 := hide ((unhide Sq_16).keep k17)
      have Dq_17 := hide ((unhide Dq_16).keep k17)
      have X_17 := hide ((unhide X_16).keep k17)
      have Y_17 := hide ((unhide Y_16).keep k17)
      have Bx_17 := hide ((unhide Bx_16).keep k17)
      have Bz_17 := hide ((unhide Bz_16).keep k17)
      have Bu_17 := hide ((unhide Bu_16).keep k17)
      have Bv_17 := hide ((unhide Bv_16).keep k17)
      have Bm_17 := hide ((unhide Bm_16).keep k17)
      have Bq_17 := hide ((unhide Bq_16).keep k17)
      clear K16 A_16 D_16 B_16 E_16 Sx_16 Dx_16 Sz_16 Dz_16 Su_16 Du_16 Sv_16 Dv_16 Sm_16 Dm_16 Sq_16 Dq_16 X_16 X0_16 X1_16 X4_16 Y_16 Y0_16 Y1_16 Y4_16 Bx_16 Bx0_16 Bx1_16 Bx4_16 Bz_16 Bz0_16 Bz1_16 Bz4_16 Bu_16 Bu0_16 Bu1_16 Bu4_16 Bv_16 Bv0_16 Bv1_16 Bv4_16 Bm_16 Bm0_16 Bm1_16 Bm4_16 Bq_16 Bq0_16 Bq1_16 Bq4_16
      obtain ⟨X0_17, X1_17, -, -, X4_17⟩ := (unhide X_17).o
      obtain ⟨Y0_17, Y1_17, -, -, Y4_17⟩ := (unhide Y_17).o
      obtain ⟨Bx0_17, Bx1_17, -, -, Bx4_17⟩ := (unhide Bx_17).o
      obtain ⟨Bz0_17, Bz1_17, -, -, Bz4_17⟩ := (unhide Bz_17).o
      obtain ⟨Bu0_17, Bu1_17, -, -, Bu4_17⟩ := (unhide Bu_17).o
      obtain ⟨Bv0_17, Bv1_17, -, -, Bv4_17⟩ := (unhide Bv_17).o
      obtain ⟨Bm0_17, Bm1_17, -, -, Bm4_17⟩ := (unhide Bm_17).o
      obtain ⟨Bq0_17, Bq1_17, -, -, Bq4_17⟩ := (unhide Bq_17).o
      clear k17
      go_wp2_with fail
      refine (same5_any _ _ _ _ ts td td te w17 (unhide Su_17) (unhide Du_17) (unhide Sv_17) (unhide Dv_17) rfl).mono ?_
      rintro e w18 ⟨rfl, k18⟩
      have K18 := hide ((unhide K17).trans k18)
      have A_18 := hide ((unhide A_17).keep k18)
      have D_18 := hide ((unhide D_17).keep k18)
      have B_18 := hide ((unhide B_17).keep k18)
      have E_18 := hide ((unhide E_17).keep k18)
      have Sx_18 := hide ((unhide Sx_17).keep k18)
      have Dx_18 := hide ((unhide Dx_17).keep k18)
      have Sz_18 := hide ((unhide Sz_17).keep k18)
      have Dz_18 := hide ((unhide Dz_17).keep k18)
      have Su_18 := hide ((unhide Su_17).keep k18)
      have Du_18 := hide ((unhide Du_17).keep k18)
      have Sv_18 := hide ((unhide Sv_17).keep k18)
      have Dv_18 := hide ((unhide Dv_17).keep k18)
      have Sm_18 := hide ((unhide Sm_17).keep k18)
      have Dm_18 := hide ((unhide Dm_17).keep k18)
      have Sq_18 := hide ((unhide Sq_17).keep k18)
      have Dq_18 := hide ((unhide Dq_17).keep k18)
      have X_18 := hide ((unhide X_17).keep k18)
      have Y_18 := hide ((unhide Y_17).keep k18)
      have Bx_18 := hide ((unhide Bx_17).keep k18)
      have Bz_18 := hide ((unhide Bz_17).keep k18)
      have Bu_18 := hide ((unhide Bu_17).keep k18)
      have Bv_18 := hide ((unhide Bv_17).keep k18)
      have Bm_18 := hide ((unhide Bm_17).keep k18)
      have Bq_18 := hide ((unhide Bq_17).keep k18)
      clear K17 A_17 D_17 B_17 E_17 Sx_17 Dx_17 Sz_17 Dz_17 Su_17 Du_17 Sv_17 Dv_17 Sm_17 Dm_17 Sq_17 Dq_17 X_17 X0_17 X1_17 X4_17 Y_17 Y0_17 Y1_17 Y4_17 Bx_17 Bx0_17 Bx1_17 Bx4_17 Bz_17 Bz0_17 Bz1_17 Bz4_17 Bu_17 Bu0_17 Bu1_17 Bu4_17 Bv_17 Bv0_17 Bv1_17 Bv4_17 Bm_17 Bm0_17 Bm1_17 Bm4_17 Bq_17 Bq0_17 Bq1_17 Bq4_17
      obtain ⟨X0_18, X1_18, -, -, X4_18⟩ := (unhide X_18).o
      obtain ⟨Y0_18, Y1_18, -, -, Y4_18⟩ := (unhide Y_18).o
      obtain ⟨Bx0_18, Bx1_18, -, -, Bx4_18⟩ := (unhide Bx_18).o
      obtain ⟨Bz0_18, Bz1_18, -, -, Bz4_18⟩ := (unhide Bz_18).o
      obtain ⟨Bu0_18, Bu1_18, -, -, Bu4_18⟩ := (unhide Bu_18).o
      obtain ⟨Bv0_18, Bv1_18, -, -, Bv4_18⟩ := (unhide Bv_18).o
      obtain ⟨Bm0_18, Bm1_18, -, -, Bm4_18⟩ := (unhide Bm_18).o
      obtain ⟨Bq0_18, Bq1_18, -, -, Bq4_18⟩ := (unhide Bq_18).o
      clear k18
      go_wp2_with fail
      refine (same5_any _ _ _ _ ss lm lq se w18 (unhide Sm_18) (unhide Dm_18) (unhide Sq_18) (unhide Dq_18) ((unhide Hm).trans (unhide Hq).symm)).mono ?_
      rintro e w19 ⟨rfl, k19⟩
      have K19 := hide ((unhide K18).trans k19)
      have A_19 := hide ((unhide A_18).keep k19)
      have D_19 := hide ((unhide D_18).keep k19)
      have B_19 := hide ((unhide B_18).keep k19)
      have E_19 := hide ((unhide E_18).keep k19)
      have Sx_19 := hide ((unhide Sx_18).keep k19)
      have Dx_19 := hide ((unhide Dx_18).keep k19)
      have Sz_19 := hide ((unhide Sz_18).keep k19)
      have Dz_19 := hide ((unhide Dz_18).keep k19)
      have Su_19 := hide ((unhide Su_18).keep k19)
      have Du_19 := hide ((unhide Du_18).keep k19)
      have Sv_19 := hide ((unhide Sv_18).keep k19)
      have Dv_19 := hide ((unhide Dv_18).keep k19)
      have Sm_19 := hide ((unhide Sm_18).keep k19)
      have Dm_19 := hide ((unhide Dm_18).keep k19)
      have Sq_19 := hide ((unhide Sq_18).keep k19)
      have Dq_19 := hide ((unhide Dq_18).keep k19)
      have X_19 := hide ((unhide X_18).keep k19)
      have Y_19 := hide ((unhide Y_18).keep k19)
      have Bx_19 := hide ((unhide Bx_18).keep k19)
      have Bz_19 := hide ((unhide Bz_18).keep k19)
      have Bu_19 := hide ((unhide Bu_18).keep k19)
      have Bv_19 := hide ((unhide Bv_18).keep k19)
      have Bm_19 := hide ((unhide Bm_18).keep k19)
      have Bq_19 := hide ((unhide Bq_18).keep k19)
      clear K18 A_18 D_18 B_18 E_18 Sx_18 Dx_18 Sz_18 Dz_18 Su_18 Du_18 Sv_18 Dv_18 Sm_18 Dm_18 Sq_18 Dq_18 X_18 X0_18 X1_18 X4_18 Y_18 Y0_18 Y1_18 Y4_18 Bx_18 Bx0_18 Bx1_18 Bx4_18 Bz_18 Bz0_18 Bz1_18 Bz4_18 Bu_18 Bu0_18 Bu1_18 Bu4_18 Bv_18 Bv0_18 Bv1_18 Bv4_18 Bm_18 Bm0_18 Bm1_18 Bm4_18 Bq_18 Bq0_18 Bq1_18 Bq4_18
      obtain ⟨X0_19, X1_19, -, -, X4_19⟩ := (unhide X_19).o
      obtain ⟨Y0_19, Y1_19, -, -, Y4_19⟩ := (unhide Y_19).o
      obtain ⟨Bx0_19, Bx1_19, -, -, Bx4_19⟩ := (unhide Bx_19).o
      obtain ⟨Bz0_19, Bz1_19, -, -, Bz4_19⟩ := (unhide Bz_19).o
      obtain ⟨Bu0_19, Bu1_19, -, -, Bu4_19⟩ := (unhide Bu_19).o
      obtain ⟨Bv0_19, Bv1_19, -, -, Bv4_19⟩ := (unhide Bv_19).o
      obtain ⟨Bm0_19, Bm1_19, -, -, Bm4_19⟩ := (unhide Bm_19).o
      obtain ⟨Bq0_19, Bq1_19, -, -, Bq4_19⟩ := (unhide Bq_19).o
      clear k19
      go_wp2
      go_ret
      exact ⟨rfl, unhide K19⟩
    · have GU : Hid ((decide (g.length ≤ 40) && decide (e.length ≤ 8192)) = false) := eq_false_of_ne_true gu
      clear gu gt h0 h1 h2 h3
      go_enter Try.func3, Try.ntmps3
      go_wp2_with fail
      have X_1 := hide ((Bx.madeAt w (.slice p f.length c) (.slice p' d.length c') (w.heap.size) rfl).keep (Kp.alloc (w.alloc (.cells #[(.slice p f.length c), (.slice p' d.length c')] 25)) (.cells #[(.slice r g.length o), (.slice r' e.length o')] 25)))
      have Y_1 := hide (Bx.madeAt (w.alloc (.cells #[(.slice p f.length c), (.slice p' d.length c')] 25)) (.slice r g.length o) (.slice r' e.length o') (w.heap.size + 1) (by simp))
      have q1 := (Kp.alloc w (.cells #[(.slice p f.length c), (.slice p' d.length c')] 25)).trans (Kp.alloc (w.alloc (.cells #[(.slice p f.length c), (.slice p' d.length c')] 25)) (.cells #[(.slice r g.length o), (.slice r' e.length o')] 25))
      generalize ((w.alloc (.cells #[(.slice p f.length c), (.slice p' d.length c')] 25)).alloc (.cells #[(.slice r g.length o), (.slice r' e.length o')] 25)) = w1 at *
      have K1 := hide q1
      clear q1
      generalize w.heap.size + 1 = B_Y at *
      generalize w.heap.size = B_X at *
      obtain ⟨X0_1, X1_1, -, -, X4_1⟩ := (unhide X_1).o
      obtain ⟨Y0_1, Y1_1, -, -, Y4_1⟩ := (unhide Y_1).o
      refine (awake5_any w1).mono ?_
      rintro e w2 ⟨rfl, k2⟩
      have K2 := hide ((unhide K1).trans k2)
      have X_2 := hide ((unhide X_1).keep k2)
      have Y_2 := hide ((unhide Y_1).keep k2)
      clear K1 X_1 X0_1 X1_1 X4_1 Y_1 Y0_1 Y1_1 Y4_1
      obtain ⟨X0_2, X1_2, -, -, X4_2⟩ := (unhide X_2).o
      obtain ⟨Y0_2, Y1_2, -, -, Y4_2⟩ := (unhide Y_2).o
      clear k2
      go_wp2_with fail
      refine (small_any p p' f.length c d.length c' w2 mf md).mono ?_
      rw [unhide GT]
      rintro e w3 ⟨rfl, k3⟩
      have K3 := hide ((unhide K2).trans k3)
      have X_3 := hide ((unhide X_2).keep k3)
      have Y_3 := hide ((unhide Y_2).keep k3)
      clear K2 X_2 X0_2 X1_2 X4_2 Y_2 Y0_2 Y1_2 Y4_2
      obtain ⟨X0_3, X1_3, -, -, X4_3⟩ := (unhide X_3).o
      obtain ⟨Y0_3, Y1_3, -, -, Y4_3⟩ := (unhide Y_3).o
      clear k3
      go_wp2_with fail
      refine (small_any r r' g.length o e.length o' w3 mg me).mono ?_
      rw [unhide GU]
      rintro e w4 ⟨rfl, k4⟩
      have K4 := hide ((unhide K3).trans k4)
      have X_4 := hide ((unhide X_3).keep k4)
      have Y_4 := hide ((unhide Y_3).keep k4)
      clear K3 X_3 X0_3 X1_3 X4_3 Y_3 Y0_3 Y1_3 Y4_3
      obtain ⟨X0_4, X1_4, -, -, X4_4⟩ := (unhide X_4).o
      obtain ⟨Y0_4, Y1_4, -, -, Y4_4⟩ := (unhide Y_4).o
      clear k4
      go_wp2
      go_ret
      exact ⟨rfl, unhide K4⟩
  · have GT : Hid ((decide (f.length ≤ 40) && decide (d.length ≤ 8192)) = false) := eq_false_of_ne_true gt
    clear gt h0 h1 h2 h3
    go_enter Try.func3, Try.ntmps3
    go_wp2_with fail
    have X_1 := hide ((Bx.madeAt w (.slice p f.length c) (.slice p' d.length c') (w.heap.size) rfl).keep (Kp.alloc (w.alloc (.cells #[(.slice p f.length c), (.slice p' d.length c')] 25)) (.cells #[(.slice r g.length o), (.slice r' e.length o')] 25)))
    have Y_1 := hide (Bx.madeAt (w.alloc (.cells #[(.slice p f.length c), (.slice p' d.length c')] 25)) (.slice r g.length o) (.slice r' e.length o') (w.heap.size + 1) (by simp))
    have q1 := (Kp.alloc w (.cells #[(.slice p f.length c), (.slice p' d.length c')] 25)).trans (Kp.alloc (w.alloc (.cells #[(.slice p f.length c), (.slice p' d.length c')] 25)) (.cells #[(.slice r g.length o), (.slice r' e.length o')] 25))
    generalize ((w.alloc (.cells #[(.slice p f.length c), (.slice p' d.length c')] 25)).alloc (.cells #[(.slice r g.length o), (.slice r' e.length o')] 25)) = w1 at *
    have K1 := hide q1
    clear q1
    generalize w.heap.size + 1 = B_Y at *
    generalize w.heap.size = B_X at *
    obtain ⟨X0_1, X1_1, -, -, X4_1⟩ := (unhide X_1).o
    obtain ⟨Y0_1, Y1_1, -, -, Y4_1⟩ := (unhide Y_1).o
    refine (awake5_any w1).mono ?_
    rintro e w2 ⟨rfl, k2⟩
    have K2 := hide ((unhide K1).trans k2)
    have X_2 := hide ((unhide X_1).keep k2)
    have Y_2 := hide ((unhide Y_1).keep k2)
    clear K1 X_1 X0_1 X1_1 X4_1 Y_1 Y0_1 Y1_1 Y4_1
    obtain ⟨X0_2, X1_2, -, -, X4_2⟩ := (unhide X_2).o
    obtain ⟨Y0_2, Y1_2, -, -, Y4_2⟩ := (unhide Y_2).o
    clear k2
    go_wp2_with fail
    refine (small_any p p' f.length c d.length c' w2 mf md).mono ?_
    rw [unhide GT]
    rintro e w3 ⟨rfl, k3⟩
    have K3 := hide ((unhide K2).trans k3)
    have X_3 := hide ((unhide X_2).keep k3)
    have Y_3 := hide ((unhide Y_2).keep k3)
    clear K2 X_2 X0_2 X1_2 X4_2 Y_2 Y0_2 Y1_2 Y4_2
    obtain ⟨X0_3, X1_3, -, -, X4_3⟩ := (unhide X_3).o
    obtain ⟨Y0_3, Y1_3, -, -, Y4_3⟩ := (unhide Y_3).o
    clear k3
    go_wp2
    go_ret
    exact ⟨rfl, unhide K3⟩

end Go.Proofs.Ytgdmhmnmhfpkkaa
