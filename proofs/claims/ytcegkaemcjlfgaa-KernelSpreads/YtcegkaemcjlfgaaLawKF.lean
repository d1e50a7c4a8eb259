
/- The law KernelSpreads, walked. -/
import Derived.Test.YtcegkaemcjlfgaaKerN
import Derived.Test.YtcegkaemcjlfgaaOpn
namespace Go.Proofs.Ytcegkaemcjlfgaa
open Go.RowKit

set_option maxHeartbeats 4000000 in
theorem spreads_walk (p p' r : Option Addr) (c c' o : Nat) (f s : List Int) (d : List Nat) (w : World) (mf : f.length ≤ 9223372036854775807) (md : d.length ≤ 9223372036854775807) (ms : s.length ≤ 9223372036854775807)
    (h0 : f.length ≤ 1000000 → Ints w (.slice p f.length c) f) (h1 : d.length ≤ 1000000 → Flts w (.slice p' d.length c') d) (h2 : s.length ≤ 1000000 → Ints w (.slice r s.length o) s) :
    Calls Try.prog 3 #[.agg #[.slice p f.length c, .slice p' d.length c'], .slice r s.length o] w fun e w' => e = .returned (.bool true) ∧ Kp w w' := by
  by_cases gt : (decide (f.length ≤ 40) && decide (d.length ≤ 8192)) = true
  · have GT := hide gt
    simp only [Bool.and_eq_true, decide_eq_true_eq] at gt
    by_cases gs : s.length ≤ 40
    · have A_0 := hide (h0 (by omega))
      have D_0 := hide (h1 (by omega))
      have S_0 := hide (h2 (by omega))
      have gs1 : decide ((40 : Int) < (s.length : Int)) = false := decide_eq_false (by omega)
      have gs3 : ¬ ((40 : Int) < (s.length : Int)) := by omega
      clear h0 h1 h2 gt gs
      go_enter Try.func3, Try.ntmps3
      go_wp2_with fail
      have X_1 := hide (Bx.madeAt w (.slice p f.length c) (.slice p' d.length c') (w.heap.size) rfl)
      have q1 := Kp.alloc w (.cells #[(.slice p f.length c), (.slice p' d.length c')] 25)
      generalize (w.alloc (.cells #[(.slice p f.length c), (.slice p' d.length c')] 25)) = w1 at *
      have K1 := hide q1
      have A_1 := hide ((unhide A_0).keep q1)
      have D_1 := hide ((unhide D_0).keep q1)
      have S_1 := hide ((unhide S_0).keep q1)
      clear A_0 D_0 S_0
      clear q1
      generalize w.heap.size = B_X at *
      obtain ⟨X0_1, X1_1, -, -, X4_1⟩ := (unhide X_1).o
      refine (awake4_any w1).mono ?_
      rintro e w2 ⟨rfl, k2⟩
      have K2 := hide ((unhide K1).trans k2)
      have A_2 := hide ((unhide A_1).keep k2)
      have D_2 := hide ((unhide D_1).keep k2)
      have S_2 := hide ((unhide S_1).keep k2)
      have X_2 := hide ((unhide X_1).keep k2)
      clear K1 A_1 D_1 S_1 X_1 X0_1 X1_1 X4_1
      obtain ⟨X0_2, X1_2, -, -, X4_2⟩ := (unhide X_2).o
      clear k2
      go_wp2_with fail
      refine (small_any p p' f.length c d.length c' w2 mf md).mono ?_
      rw [unhide GT]
      rintro e w3 ⟨rfl, k3⟩
      have K3 := hide ((unhide K2).trans k3)
      have A_3 := hide ((unhide A_2).keep k3)
      have D_3 := hide ((unhide D_2).keep k3)
      have S_3 := hide ((unhide S_2).keep k3)
      have X_3 := hide ((unhide X_2).keep k3)
      clear K2 A_2 D_2 S_2 X_2 X0_2 X1_2 X4_2
      obtain ⟨X0_3, X1_3, -, -, X4_3⟩ := (unhide X_3).o
      clear k3
      generalize hk1 : kspS f d s = ks at *
      generalize hk2 : kspD f d s = kd at *
      generalize hk3 : kspE f d s = ke at *
      have HK := hide (And.intro hk1 (And.intro hk2 hk3))
      clear hk1 hk2 hk3
      generalize hg1 : gatS f d s = gs at *
      generalize hg2 : gatL f d s = gl at *
      generalize hg3 : gatE f d s = ge at *
      have HG := hide (And.intro hg1 (And.intro hg2 hg3))
      clear hg1 hg2 hg3
      generalize hr1 : rshS f d s = rs at *
      generalize hr2 : rshD f d s = rd at *
      generalize hr3 : rshE f d s = re at *
      have HR := hide (And.intro hr1 (And.intro hr2 hr3))
      clear hr1 hr2 hr3
      have C1 : Hid (∀ sv dv u w, Ints w sv f → Flts w dv d → Ints w u s → Calls Try.prog 8 #[.agg #[sv, dv], u] w fun e w' => Hands e w' ks kd ke ∧ Kp w w') := by intro sv dv u w h1 h2 h3; rw [← (unhide HK).1, ← (unhide HK).2.1, ← (unhide HK).2.2]; exact Kspread_all sv dv u f s d w h1 h2 h3
      have C2 : Hid (∀ sv dv u w, Ints w sv f → Flts w dv d → Ints w u s → Calls Try.prog 9 #[.agg #[sv, dv], u] w fun e w' => Hands e w' ks kd ke ∧ Kp w w') := by intro sv dv u w h1 h2 h3; rw [← (unhide HK).1, ← (unhide HK).2.1, ← (unhide HK).2.2]; exact rspr_all sv dv u f s d w h1 h2 h3
      have C3 : Hid (∀ sv dv u w, Ints w sv f → Flts w dv d → Ints w u s → Calls Try.prog 10 #[.agg #[sv, dv], u] w fun e w' => ∃ ds, Hands e w' gs ds ge ∧ ds.map cn = gl ∧ Kp w w') := by intro sv dv u w h1 h2 h3; rw [← (unhide HG).1, ← (unhide HG).2.1, ← (unhide HG).2.2]; exact Kgather_all sv dv u f s d w h1 h2 h3
      have C4 : Hid (∀ sv dv u w, Ints w sv f → Flts w dv d → Ints w u s → Calls Try.prog 11 #[.agg #[sv, dv], u] w fun e w' => ∃ ds, Hands e w' gs ds ge ∧ ds.map cn = gl ∧ Kp w w') := by intro sv dv u w h1 h2 h3; rw [← (unhide HG).1, ← (unhide HG).2.1, ← (unhide HG).2.2]; exact rgat_all sv dv u f s d w h1 h2 h3
      have C5 : Hid (∀ sv dv u w, Ints w sv f → Flts w dv d → Ints w u s → Calls Try.prog 12 #[.agg #[sv, dv], u] w fun e w' => Hands e w' rs rd re ∧ Kp w w') := by intro sv dv u w h1 h2 h3; rw [← (unhide HR).1, ← (unhide HR).2.1, ← (unhide HR).2.2]; exact reshape_all sv dv u f s d w h1 h2 h3
      have C6 : Hid (∀ sv dv u w, Ints w sv f → Flts w dv d → Ints w u s → Calls Try.prog 13 #[.agg #[sv, dv], u] w fun e w' => Hands e w' rs rd re ∧ Kp w w') := by intro sv dv u w h1 h2 h3; rw [← (unhide HR).1, ← (unhide HR).2.1, ← (unhide HR).2.2]; exact rreshape_all sv dv u f s d w h1 h2 h3
      clear HK HG HR
      go_wp2_with fail
      refine (unhide C1 _ _ _ w3 (unhide A_3) (unhide D_3) (unhide S_3)).mono ?_
      rintro e w4 ⟨⟨ax, cx, bx, dx, rfl, sx, fx⟩, k4⟩
      have K4 := hide ((unhide K3).trans k4)
      have A_4 := hide ((unhide A_3).keep k4)
      have D_4 := hide ((unhide D_3).keep k4)
      have S_4 := hide ((unhide S_3).keep k4)
      have X_4 := hide ((unhide X_3).keep k4)
      clear K3 A_3 D_3 S_3 X_3 X0_3 X1_3 X4_3
      obtain ⟨X0_4, X1_4, -, -, X4_4⟩ := (unhide X_4).o
      clear k4
      have Sx_4 := hide sx
      have Dx_4 := hide fx
      clear sx fx
      go_wp2_with fail
      have Bx_5 := hide (Bx.madeAt w4 (.slice ax ks.length cx) (.slice bx kd.length dx) (w4.heap.size) rfl)
      have q5 := Kp.alloc w4 (.cells #[(.slice ax ks.length cx), (.slice bx kd.length dx)] 25)
      generalize (w4.alloc (.cells #[(.slice ax ks.length cx), (.slice bx kd.length dx)] 25)) = w5 at *
      have K5 := hide ((unhide K4).trans q5)
      have A_5 := hide ((unhide A_4).keep q5)
      have D_5 := hide ((unhide D_4).keep q5)
      have S_5 := hide ((unhide S_4).keep q5)
      have Sx_5 := hide ((unhide Sx_4).keep q5)
      have Dx_5 := hide ((unhide Dx_4).keep q5)
      have X_5 := hide ((unhide X_4).keep q5)
      clear K4 A_4 D_4 S_4 Sx_4 Dx_4 X_4 X0_4 X1_4 X4_4
      obtain ⟨X0_5, X1_5, -, -, X4_5⟩ := (unhide X_5).o
      clear q5
      generalize w4.heap.size = B_Bx at *
      obtain ⟨Bx0_5, Bx1_5, -, -, Bx4_5⟩ := (unhide Bx_5).o
      refine (unhide C2 _ _ _ w5 (unhide A_5) (unhide D_5) (unhide S_5)).mono ?_
      rintro e w6 ⟨⟨az, cz, bz, dz, rfl, sz, fz⟩, k6⟩
      have K6 := hide ((unhide K5).trans k6)
      have A_6 := hide ((unhide A_5).keep k6)
      have D_6 := hide ((unhide D_5).keep k6)
      have S_6 := hide ((unhide S_5).keep k6)
      have Sx_6 := hide ((unhide Sx_5).keep k6)
      have Dx_6 := hide ((unhide Dx_5).keep k6)
      have X_6 := hide ((unhide X_5).keep k6)
      have Bx_6 := hide ((unhide Bx_5).keep k6)
      clear K5 A_5 D_5 S_5 Sx_5 Dx_5 X_5 X0_5 X1_5 X4_5 Bx_5 Bx0_5 Bx1_5 Bx4_5
      obtain ⟨X0_6, X1_6, -, -, X4_6⟩ := (unhide X_6).o
      obtain ⟨Bx0_6, Bx1_6, -, -, Bx4_6⟩ := (unhide Bx_6).o
      clear k6
      have Sz_6 := hide sz
      have Dz_6 := hide fz
      clear sz fz
      go_wp2_with fail
      have Bz_7 := hide (Bx.madeAt w6 (.slice az ks.length cz) (.slice bz kd.length dz) (w6.heap.size) rfl)
      have q7 := Kp.alloc w6 (.cells #[(.slice az ks.length cz), (.slice bz kd.length dz)] 25)
      generalize (w6.alloc (.cells #[(.slice az ks.length cz), (.slice bz kd.length dz)] 25)) = w7 at *
      have K7 := hide ((unhide K6).trans q7)
      have A_7 := hide ((unhide A_6).keep q7)
      have D_7 := hide ((unhide D_6).keep q7)
      have S_7 := hide ((unhide S_6).keep q7)
      have Sx_7 := hide ((unhide Sx_6).keep q7)
      have Dx_7 := hide ((unhide Dx_6).keep q7)
      have Sz_7 := hide ((unhide Sz_6).keep q7)
      have Dz_7 := hide ((unhide Dz_6).keep q7)
      have X_7 := hide ((unhide X_6).keep q7)
      have Bx_7 := hide ((unhide Bx_6).keep q7)
      clear K6 A_6 D_6 S_6 Sx_6 Dx_6 Sz_6 Dz_6 X_6 X0_6 X1_6 X4_6 Bx_6 Bx0_6 Bx1_6 Bx4_6
      obtain ⟨X0_7, X1_7, -, -, X4_7⟩ := (unhide X_7).o
      obtain ⟨Bx0_7, Bx1_7, -, -, Bx4_7⟩ := (unhide Bx_7).o
      clear q7
      generalize w6.heap.size = B_Bz at *
      obtain ⟨Bz0_7, Bz1_7, -, -, Bz4_7⟩ := (unhide Bz_7).o
      refine (unhide C3 _ _ _ w7 (unhide A_7) (unhide D_7) (unhide S_7)).mono ?_
      rintro e w8 ⟨lu, ⟨au, cu, bu, du, rfl, su, fu⟩, hu, k8⟩
      have K8 := hide ((unhide K7).trans k8)
      have A_8 := hide ((unhide A_7).keep k8)
      have D_8 := hide ((unhide D_7).keep k8)
      have S_8 := hide ((unhide S_7).keep k8)
      have Sx_8 := hide ((unhide Sx_7).keep k8)
      have Dx_8 := hide ((unhide Dx_7).keep k8)
      have Sz_8 := hide ((unhide Sz_7).keep k8)
      have Dz_8 := hide ((unhide Dz_7).keep k8)
      have X_8 := hide ((unhide X_7).keep k8)
      have Bx_8 := hide ((unhide Bx_7).keep k8)
      have Bz_8 := hide ((unhide Bz_7).keep k8)
      clear K7 A_7 D_7 S_7 Sx_7 Dx_7 Sz_7 Dz_7 X_7 X0_7 X1_7 X4_7 Bx_7 Bx0_7 Bx1_7 Bx4_7 Bz_7 Bz0_7 Bz1_7 Bz4_7
      obtain ⟨X0_8, X1_8, -, -, X4_8⟩ := (unhide X_8).o
      obtain ⟨Bx0_8, Bx1_8, -, -, Bx4_8⟩ := (unhide Bx_8).o
      obtain ⟨Bz0_8, Bz1_8, -, -, Bz4_8⟩ := (unhide Bz_8).o
      clear k8
      have Hu := hide hu
      clear hu
      have Su_8 := hide su
      have Du_8 := hide fu
      clear su fu
      go_wp2_with fail
      have Bu_9 := hide (Bx.madeAt w8 (.slice au gs.length cu) (.slice bu lu.length du) (w8.heap.size) rfl)
      have q9 := Kp.alloc w8 (.cells #[(.slice au gs.length cu), (.slice bu lu.length du)] 25)
      generalize (w8.alloc (.cells #[(.slice au gs.length cu), (.slice bu lu.length du)] 25)) = w9 at *
      have K9 := hide ((unhide K8).trans q9)
      have A_9 := hide ((unhide A_8).keep q9)
      have D_9 := hide ((unhide D_8).keep q9)
      have S_9 := hide ((unhide S_8).keep q9)
      have Sx_9 := hide ((unhide Sx_8).keep q9)
      have Dx_9 := hide ((unhide Dx_8).keep q9)
      have Sz_9 := hide ((unhide Sz_8).keep q9)
      have Dz_9 := hide ((unhide Dz_8).keep q9)
      have Su_9 := hide ((unhide Su_8).keep q9)
      have Du_9 := hide ((unhide Du_8).keep q9)
      have X_9 := hide ((unhide X_8).keep q9)
      have Bx_9 := hide ((unhide Bx_8).keep q9)
      have Bz_9 := hide ((unhide Bz_8).keep q9)
      clear K8 A_8 D_8 S_8 Sx_8 Dx_8 Sz_8 Dz_8 Su_8 Du_8 X_8 X0_8 X1_8 X4_8 Bx_8 Bx0_8 Bx1_8 Bx4_8 Bz_8 Bz0_8 Bz1_8 Bz4_8
      obtain ⟨X0_9, X1_9, -, -, X4_9⟩ := (unhide X_9).o
      obtain ⟨Bx0_9, Bx1_9, -, -, Bx4_9⟩ := (unhide Bx_9).o
      obtain ⟨Bz0_9, Bz1_9, -, -, Bz4_9⟩ := (unhide Bz_9).o
      clear q9
      generalize w8.heap.size = B_Bu at *
      obtain ⟨Bu0_9, Bu1_9, -, -, Bu4_9⟩ := (unhide Bu_9).o
      refine (unhide C4 _ _ _ w9 (unhide A_9) (unhide D_9) (unhide S_9)).mono ?_
      rintro e w10 ⟨lv, ⟨av, cv, bv, dv, rfl, sv, fv⟩, hv, k10⟩
      have K10 := hide ((unhide K9).trans k10)
      have A_10 := hide ((unhide A_9).keep k10)
      have D_10 := hide ((unhide D_9).keep k10)
      have S_10 := hide ((unhide S_9).keep k10)
      have Sx_10 := hide ((unhide Sx_9).keep k10)
      have Dx_10 := hide ((unhide Dx_9).keep k10)
      have Sz_10 := hide ((unhide Sz_9).keep k10)
      have Dz_10 := hide ((unhide Dz_9).keep k10)
      have Su_10 := hide ((unhide Su_9).keep k10)
      have Du_10 := hide ((unhide Du_9).keep k10)
      have X_10 := hide ((unhide X_9).keep k10)
      have Bx_10 := hide ((unhide Bx_9).keep k10)
      have Bz_10 := hide ((unhide Bz_9).keep k10)
      have Bu_10 := hide ((unhide Bu_9).keep k10)
      clear K9 A_9 D_9 S_9 Sx_9 Dx_9 Sz_9 Dz_9 Su_9 Du_9 X_9 X0_9 X1_9 X4_9 Bx_9 Bx0_9 Bx1_9 Bx4_9 Bz_9 Bz0_9 Bz1_9 Bz4_9 Bu_9 Bu0_9 Bu1_9 Bu4_9
      obtain ⟨X0_10, X1_10, -, -, X4_10⟩ := (unhide X_10).o
      obtain ⟨Bx0_10, Bx1_10, -, -, Bx4_10⟩ := (unhide Bx_10).o
      obtain ⟨Bz0_10, Bz1_10, -, -, Bz4_10⟩ := (unhide Bz_10).o
      obtain ⟨Bu0_10, Bu1_10, -, -, Bu4_10⟩ := (unhide Bu_10).o
      clear k10
      have Hv := hide hv
      clear hv
      have Sv_10 := hide sv
      have Dv_10 := hide fv
      clear sv fv
      go_wp2_with fail
      have Bv_11 := hide (Bx.madeAt w10 (.slice av gs.length cv) (.slice bv lv.length dv) (w10.heap.size) rfl)
      have q11 := Kp.alloc w10 (.cells #[(.slice av gs.length cv), (.slice bv lv.length dv)] 25)
      generalize (w10.alloc (.cells #[(.slice av gs.length cv), (.slice bv lv.length dv)] 25)) = w11 at *
      have K11 := hide ((unhide K10).trans q11)
      have A_11 := hide ((unhide A_10).keep q11)
      have D_11 := hide ((unhide D_10).keep q11)
      have S_11 := hide ((unhide S_10).keep q11)
      have Sx_11 := hide ((unhide Sx_10).keep q11)
      have Dx_11 := hide ((unhide Dx_10).keep q11)
      have Sz_11 := hide ((unhide Sz_10).keep q11)
      have Dz_11 := hide ((unhide Dz_10).keep q11)
      have Su_11 := hide ((unhide Su_10).keep q11)
      have Du_11 := hide ((unhide Du_10).keep q11)
      have Sv_11 := hide ((unhide Sv_10).keep q11)
      have Dv_11 := hide ((unhide Dv_10).keep q11)
      have X_11 := hide ((unhide X_10).keep q11)
      have Bx_11 := hide ((unhide Bx_10).keep q11)
      have Bz_11 := hide ((unhide Bz_10).keep q11)
      have Bu_11 := hide ((unhide Bu_10).keep q11)
      clear K10 A_10 D_10 S_10 Sx_10 Dx_10 Sz_10 Dz_10 Su_10 Du_10 Sv_10 Dv_10 X_10 X0_10 X1_10 X4_10 Bx_10 Bx0_10 Bx1_10 Bx4_10 Bz_10 Bz0_10 Bz1_10 Bz4_10 Bu_10 Bu0_10 Bu1_10 Bu4_10
      obtain ⟨X0_11, X1_11, -, -, X4_11⟩ := (unhide X_11).o
      obtain ⟨Bx0_11, Bx1_11, -, -, Bx4_11⟩ := (unhide Bx_11).o
      obtain ⟨Bz0_11, Bz1_11, -, -, Bz4_11⟩ := (unhide Bz_11).o
      obtain ⟨Bu0_11, Bu1_11, -, -, Bu4_11⟩ := (unhide Bu_11).o
      clear q11
      generalize w10.heap.size = B_Bv at *
      obtain ⟨Bv0_11, Bv1_11, -, -, Bv4_11⟩ := (unhide Bv_11).o
      refine (unhide C5 _ _ _ w11 (unhide A_11) (unhide D_11) (unhide S_11)).mono ?_
      rintro e w12 ⟨⟨am, cm, bm, dm, rfl, sm, fm⟩, k12⟩
      have K12 := hide ((unhide K11).trans k12)
      have A_12 := hide ((unhide A_11).keep k12)
      have D_12 := hide ((unhide D_11).keep k12)
      have S_12 := hide ((unhide S_11).keep k12)
      have Sx_12 := hide ((unhide Sx_11).keep k12)
      have Dx_12 := hide ((unhide Dx_11).keep k12)
      have Sz_12 := hide ((unhide Sz_11).keep k12)
      have Dz_12 := hide ((unhide Dz_11).keep k12)
      have Su_12 := hide ((unhide Su_11).keep k12)
      have Du_12 := hide ((unhide Du_11).keep k12)
      have Sv_12 := hide ((unhide Sv_11).keep k12)
      have Dv_12 := hide ((unhide Dv_11).keep k12)
      have X_12 := hide ((unhide X_11).keep k12)
      have Bx_12 := hide ((unhide Bx_11).keep k12)
      have Bz_12 := hide ((unhide Bz_11).keep k12)
      have Bu_12 := hide ((unhide Bu_11).keep k12)
      have Bv_12 := hide ((unhide Bv_11).keep k12)
      clear K11 A_11 D_11 S_11 Sx_11 Dx_11 Sz_11 Dz_11 Su_11 Du_11 Sv_11 Dv_11 X_11 X0_11 X1_11 X4_11 Bx_11 Bx0_11 Bx1_11 Bx4_11 Bz_11 Bz0_11 Bz1_11 Bz4_11 Bu_11 Bu0_11 Bu1_11 Bu4_11 Bv_11 Bv0_11 Bv1_11 Bv4_11
      obtain ⟨X0_12, X1_12, -, -, X4_12⟩ := (unhide X_12).o
      obtain ⟨Bx0_12, Bx1_12, -, -, Bx4_12⟩ := (unhide Bx_12).o
      obtain ⟨Bz0_12, Bz1_12, -, -, Bz4_12⟩ := (unhide Bz_12).o
      obtain ⟨Bu0_12, Bu1_12, -, -, Bu4_12⟩ := (unhide Bu_12).o
      obtain ⟨Bv0_12, Bv1_12, -, -, Bv4_12⟩ := (unhide Bv_12).o
      clear k12
      have Sm_12 := hide sm
      have Dm_12 := hide fm
      clear sm fm
      go_wp2_with fail
      have Bm_13 := hide (Bx.madeAt w12 (.slice am rs.length cm) (.slice bm rd.length dm) (w12.heap.size) rfl)
      have q13 := Kp.alloc w12 (.cells #[(.slice am rs.length cm), (.slice bm rd.length dm)] 25)
      generalize (w12.alloc (.cells #[(.slice am rs.length cm), (.slice bm rd.length dm)] 25)) = w13 at *
      have K13 := hide ((unhide K12).trans q13)
      have A_13 := hide ((unhide A_12).keep q13)
      have D_13 := hide ((unhide D_12).keep q13)
      have S_13 := hide ((unhide S_12).keep q13)
      have Sx_13 := hide ((unhide Sx_12).keep q13)
      have Dx_13 := hide ((unhide Dx_12).keep q13)
      have Sz_13 := hide ((unhide Sz_12).keep q13)
      have Dz_13 := hide ((unhide Dz_12).keep q13)
      have Su_13 := hide ((unhide Su_12).keep q13)
      have Du_13 := hide ((unhide Du_12).keep q13)
      have Sv_13 := hide ((unhide Sv_12).keep q13)
      have Dv_13 := hide ((unhide Dv_12).keep q13)
      have Sm_13 := hide ((unhide Sm_12).keep q13)
      have Dm_13 := hide ((unhide Dm_12).keep q13)
      have X_13 := hide ((unhide X_12).keep q13)
      have Bx_13 := hide ((unhide Bx_12).keep q13)
      have Bz_13 := hide ((unhide Bz_12).keep q13)
      have Bu_13 := hide ((unhide Bu_12).keep q13)
      have Bv_13 := hide ((unhide Bv_12).keep q13)
      clear K12 A_12 D_12 S_12 Sx_12 Dx_12 Sz_12 Dz_12 Su_12 Du_12 Sv_12 Dv_12 Sm_12 Dm_12 X_12 X0_12 X1_12 X4_12 Bx_12 Bx0_12 Bx1_12 Bx4_12 Bz_12 Bz0_12 Bz1_12 Bz4_12 Bu_12 Bu0_12 Bu1_12 Bu4_12 Bv_12 Bv0_12 Bv1_12 Bv4_12
      obtain ⟨X0_13, X1_13, -, -, X4_13⟩ := (unhide X_13).o
      obtain ⟨Bx0_13, Bx1_13, -, -, Bx4_13⟩ := (unhide Bx_13).o
      obtain ⟨Bz0_13, Bz1_13, -, -, Bz4_13⟩ := (unhide Bz_13).o
      obtain ⟨Bu0_13, Bu1_13, -, -, Bu4_13⟩ := (unhide Bu_13).o
      obtain ⟨Bv0_13, Bv1_13, -, -, Bv4_13⟩ := (unhide Bv_13).o
      clear q13
      generalize w12.heap.size = B_Bm at *
      obtain ⟨Bm0_13, Bm1_13, -, -, Bm4_13⟩ := (unhide Bm_13).o
      refine (unhide C6 _ _ _ w13 (unhide A_13) (unhide D_13) (unhide S_13)).mono ?_
      rintro e w14 ⟨⟨aq, cq, bq, dq, rfl, sq, fq⟩, k14⟩
      have K14 := hide ((unhide K13).trans k14)
      have A_14 := hide ((unhide A_13).keep k14)
      have D_14 := hide ((unhide D_13).keep k14)
      have S_14 := hide ((unhide S_13).keep k14)
      have Sx_14 := hide ((unhide Sx_13).keep k14)
      have Dx_14 := hide ((unhide Dx_13).keep k14)
      have Sz_14 := hide ((unhide Sz_13).keep k14)
      have Dz_14 := hide ((unhide Dz_13).keep k14)
      have Su_14 := hide ((unhide Su_13).keep k14)
      have Du_14 := hide ((unhide Du_13).keep k14)
      have Sv_14 := hide ((unhide Sv_13).keep k14)
      have Dv_14 := hide ((unhide Dv_13).keep k14)
      have Sm_14 := hide ((unhide Sm_13).keep k14)
      have Dm_14 := hide ((unhide Dm_13).keep k14)
      have X_14 := hide ((unhide X_13).keep k14)
      have Bx_14 := hide ((unhide Bx_13).keep k14)
      have Bz_14 := hide ((unhide Bz_13).keep k14)
      have Bu_14 := hide ((unhide Bu_13).keep k14)
      have Bv_14 := hide ((unhide Bv_13).keep k14)
      have Bm_14 := hide ((unhide Bm_13).keep k14)
      clear K13 A_13 D_13 S_13 Sx_13 Dx_13 Sz_13 Dz_13 Su_13 Du_13 Sv_13 Dv_13 Sm_13 Dm_13 X_13 X0_13 X1_13 X4_13 Bx_13 Bx0_13 Bx1_13 Bx4_13 Bz_13 Bz0_13 Bz1_13 Bz4_13 Bu_13 Bu0_13 Bu1_13 Bu4_13 Bv_13 Bv0_13 Bv1_13 Bv4_13 Bm_13 Bm0_13 Bm1_13 Bm4_13
      obtain ⟨X0_14, X1_14, -, -, X4_14⟩ := (unhide X_14).o
      obtain ⟨Bx0_14, Bx1_14, -, -, Bx4_14⟩ := (unhide Bx_14).o
      obtain ⟨Bz0_14, Bz1_14, -, -, Bz4_14⟩ := (unhide Bz_14).o
      obtain ⟨Bu0_14, Bu1_14, -, -, Bu4_14⟩ := (unhide Bu_14).o
      obtain ⟨Bv0_14, Bv1_14, -, -, Bv4_14⟩ := (unhide Bv_14).o
      obtain ⟨Bm0_14, Bm1_14, -, -, Bm4_14⟩ := (unhide Bm_14).o
      clear k14
      have Sq_14 := hide sq
      have Dq_14 := hide fq
      clear sq fq
      go_wp2_with fail
      have Bq_15 := hide (Bx.madeAt w14 (.slice aq rs.length cq) (.slice bq rd.length dq) (w14.heap.size) rfl)
      have q15 := Kp.alloc w14 (.cells #[(.slice aq rs.length cq), (.slice bq rd.length dq)] 25)
      generalize (w14.alloc (.cells #[(.slice aq rs.length cq), (.slice bq rd.length dq)] 25)) = w15 at *
      have K15 := hide ((unhide K14).trans q15)
      have A_15 := hide ((unhide A_14).keep q15)
      have D_15 := hide ((unhide D_14).keep q15)
      have S_15 := hide ((unhide S_14).keep q15)
      have Sx_15 := hide ((unhide Sx_14).keep q15)
      have Dx_15 := hide ((unhide Dx_14).keep q15)
      have Sz_15 := hide ((unhide Sz_14).keep q15)
      have Dz_15 := hide ((unhide Dz_14).keep q15)
      have Su_15 := hide ((unhide Su_14).keep q15)
      have Du_15 := hide ((unhide Du_14).keep q15)
      have Sv_15 := hide ((unhide Sv_14).keep q15)
      have Dv_15 := hide ((unhide Dv_14).keep q15)
      have Sm_15 := hide ((unhide Sm_14).keep q15)
      have Dm_15 := hide ((unhide Dm_14).keep q15)
      have Sq_15 := hide ((unhide Sq_14).keep q15)
      have Dq_15 := hide ((unhide Dq_14).keep q15)
      have X_15 := hide ((unhide X_14).keep q15)
      have Bx_15 := hide ((unhide Bx_14).keep q15)
      have Bz_15 := hide ((unhide Bz_14).keep q15)
      have Bu_15 := hide ((unhide Bu_14).keep q15)
      have Bv_15 := hide ((unhide Bv_14).keep q15)
      have Bm_15 := hide ((unhide Bm_14).keep q15)
      clear K14 A_14 D_14 S_14 Sx_14 Dx_14 Sz_14 Dz_14 Su_14 Du_14 Sv_14 Dv_14 Sm_14 Dm_14 Sq_14 Dq_14 X_14 X0_14 X1_14 X4_14 Bx_14 Bx0_14 Bx1_14 Bx4_14 Bz_14 Bz0_14 Bz1_14 Bz4_14 Bu_14 Bu0_14 Bu1_14 Bu4_14 Bv_14 Bv0_14 Bv1_14 Bv4_14 Bm_14 Bm0_14 Bm1_14 Bm4_14
      obtain ⟨X0_15, X1_15, -, -, X4_15⟩ := (unhide X_15).o
      obtain ⟨Bx0_15, Bx1_15, -, -, Bx4_15⟩ := (unhide Bx_15).o
      obtain ⟨Bz0_15, Bz1_15, -, -, Bz4_15⟩ := (unhide Bz_15).o
      obtain ⟨Bu0_15, Bu1_15, -, -, Bu4_15⟩ := (unhide Bu_15).o
      obtain ⟨Bv0_15, Bv1_15, -, -, Bv4_15⟩ := (unhide Bv_15).o
      obtain ⟨Bm0_15, Bm1_15, -, -, Bm4_15⟩ := (unhide Bm_15).o
      clear q15
      generalize w14.heap.size = B_Bq at *
      obtain ⟨Bq0_15, Bq1_15, -, -, Bq4_15⟩ := (unhide Bq_15).o
      clear C1 C2 C3 C4 C5 C6
      refine (same4_any _ _ _ _ ks kd kd ke w15 (unhide Sx_15) (unhide Dx_15) (unhide Sz_15) (unhide Dz_15) rfl).mono ?_
      rintro e w16 ⟨rfl, k16⟩
      have K16 := hide ((unhide K15).trans k16)
      have A_16 := hide ((unhide A_15).keep k16)
      have D_16 := hide ((unhide D_15).keep k16)
      have S_16 := hide ((unhide S_15).keep k16)
      have Sx_16 := hide ((unhide Sx_15).keep k16)
      have Dx_16 := hide ((unhide Dx_15).keep k16)
      have Sz_16 := hide ((unhide Sz_15).keep k16)
      have Dz_16 := hide ((unhide Dz_15).keep k16)
      have Su_16 := hide ((unhide Su_15).keep k16)
      have Du_16 := hide ((unhide Du_15).keep k16)
      have Sv_16 := hide ((unhide Sv_15).keep k16)
      have Dv_16 := hide ((unhide Dv_15).keep k16)
      have Sm_16 := hide ((unhide Sm_15).keep k16)
      have Dm_16 := hide ((unhide Dm_15).keep k16)
      have Sq_16 := hide ((unhide Sq_15).keep k16)
      have Dq_16 := hide ((unhide Dq_15).keep k16)
      have X_16 := hide ((unhide X_15).keep k16)
      have Bx_16 := hide ((unhide Bx_15).keep k16)
      have Bz_16 := hide ((unhide Bz_15).keep k16)
      have Bu_16 := hide ((unhide Bu_15).keep k16)
      have Bv_16 := hide ((unhide Bv_15).keep k16)
      have Bm_16 := hide ((unhide Bm_15).keep k16)
      have Bq_16 := hide ((unhide Bq_15).keep k16)
      clear K15 A_15 D_15 S_15 Sx_15 Dx_15 Sz_15 Dz_15 Su_15 Du_15 Sv_15 Dv_15 Sm_15 Dm_15 Sq_15 Dq_15 X_15 X0_15 X1_15 X4_15 Bx_15 Bx0_15 Bx1_15 Bx4_15 Bz_15 Bz0_15 Bz1_15 Bz4_15 Bu_15 Bu0_15 Bu1_15 Bu4_15 Bv_15 Bv0_15 Bv1_15 Bv4_15 Bm_15 Bm0_15 Bm1_15 Bm4_15 Bq_15 Bq0_15 Bq1_15 Bq4_15
      obtain ⟨X0_16, X1_16, -, -, X4_16⟩ := (unhide X_16).o
      obtain ⟨Bx0_16, Bx1_16, -, -, Bx4_16⟩ := (unhide Bx_16).o
      obtain ⟨Bz0_16, Bz1_16, -, -, Bz4_16⟩ := (unhide Bz_16).o
      obtain ⟨Bu0_16, Bu1_16, -, -, Bu4_16⟩ := (unhide Bu_16).o
      obtain ⟨Bv0_16, Bv1_16, -, -, Bv4_16⟩ := (unhide Bv_16).o
      obtain ⟨Bm0_16, Bm1_16, -, -, Bm4_16⟩ := (unhide Bm_16).o
      obtain ⟨Bq0_16, Bq1_16, -, -, Bq4_16⟩ := (unhide Bq_16).o
      clear k16
      go_wp2_with fail
      refine (same4_any _ _ _ _ gs lu lv ge w16 (unhide Su_16) (unhide Du_16) (unhide Sv_16) (unhide Dv_16) ((unhide Hu).trans (unhide Hv).symm)).mono ?_
      rintro e w17 ⟨rfl, k17⟩
      have K17 := hide ((unhide K16).trans k17)
      have A_17 := hide ((unhide A_16).keep k17)
      have D_17 := hide ((unhide D_16).keep k17)
      have S_17 := hide ((unhide S_16).keep k17)
      have Sx_17 := hide ((unhide Sx_16).keep k17)
      have Dx_17 := hide ((unhide Dx_16).keep k17)
      have Sz_17 := hide ((unhide Sz_16).keep k17)
      have Dz_17 := hide ((unhide Dz_16).keep k17)
      have Su_17 := hide ((unhide Su_16).keep k17)
      have Du_17 := hide ((unhide Du_16).keep k17)
      have Sv_17 := hide ((unhide Sv_16).keep k17)
      have Dv_17 := hide ((unhide Dv_16).keep k17)
      have Sm_17 := hide ((unhide Sm_16).keep k17)
      have Dm_17 := hide ((unhide Dm_16).keep k17)
      have Sq_17 := hide ((unhide Sq_16).keep k17)
      have Dq_17 := hide ((unhide Dq_16).keep k17)
      have X_17 := hide ((unhide X_16).keep k17)
      have Bx_17 := hide ((unhide Bx_16).keep k17)
      have Bz_17 := hide ((unhide Bz_16).keep k17)
      have Bu_17 := hide ((unhide Bu_16).keep k17)
      have Bv_17 := hide ((unhide Bv_16).keep k17)
      have Bm_17 := hide ((unhide Bm_16).keep k17)
      have Bq_17 := hide ((unhide Bq_16).keep k17)
      clear K16 A_16 D_16 S_16 Sx_16 Dx_16 Sz_16 Dz_16 Su_16 Du_16 Sv_16 Dv_16 Sm_16 Dm_16 Sq_16 Dq_16 X_16 X0_16 X1_16 X4_16 Bx_16 Bx0_16 Bx1_16 Bx4_16 Bz_16 Bz0_16 Bz1_16 Bz4_16 Bu_16 Bu0_16 Bu1_16 Bu4_16 Bv_16 Bv0_16 Bv1_16 Bv4_16 Bm_16 Bm0_16 Bm1_16 Bm4_16 Bq_16 Bq0_16 Bq1_16 Bq4_16
      obtain ⟨X0_17, X1_17, -, -, X4_17⟩ := (unhide X_17).o
      obtain ⟨Bx0_17, Bx1_17, -, -, Bx4_17⟩ := (unhide Bx_17).o
      obtain ⟨Bz0_17, Bz1_17, -, -, Bz4_17⟩ := (unhide Bz_17).o
      obtain ⟨Bu0_17, Bu1_17, -, -, Bu4_17⟩ := (unhide Bu_17).o
      obtain ⟨Bv0_17, Bv1_17, -, -, Bv4_17⟩ := (unhide Bv_17).o
      obtain ⟨Bm0_17, Bm1_17, -, -, Bm4_17⟩ := (unhide Bm_17).o
      obtain ⟨Bq0_17, Bq1_17, -, -, Bq4_17⟩ := (unhide Bq_17).o
      clear k17
      go_wp2_with fail
      refine (same4_any _ _ _ _ rs rd rd re w17 (unhide Sm_17) (unhide Dm_17) (unhide Sq_17) (unhide Dq_17) rfl).mono ?_
      rintro e w18 ⟨rfl, k18⟩
      have K18 := hide ((unhide K17).trans k18)
      have A_18 := hide ((unhide A_17).keep k18)
      have D_18 := hide ((unhide D_17).keep k18)
      have S_18 := hide ((unhide S_17).keep k18)
      have Sx_18 := hide ((unhide Sx_17).keep k18)
      have Dx_18 := hide ((unhide Dx_17).keep k18)
      have Sz_18 := hide ((unhide Sz_17).keep k18)
      have Dz_18 := hide ((unhide Dz_17).keep k18)
      have Su_18 := hide ((unhide Su_17).keep k18)
      have Du_18 := hide ((unhide Du_17).keep k18)
      have Sv_18 := hide ((unhide Sv_17).keep k18)
      have Dv_18 := hide ((unhide Dv_17).keep k18)
      have Sm_18 := hide ((unhide Sm_17).keep k18)
      have Dm_18 := hide ((unhide Dm_17).keep k18)
      have Sq_18 := hide ((unhide Sq_17).keep k18)
      have Dq_18 := hide ((unhide Dq_17).keep k18)
      have X_18 := hide ((unhide X_17).keep k18)
      have Bx_18 := hide ((unhide Bx_17).keep k18)
      have Bz_18 := hide ((unhide Bz_17).keep k18)
      have Bu_18 := hide ((unhide Bu_17).keep k18)
      have Bv_18 := hide ((unhide Bv_17).keep k18)
      have Bm_18 := hide ((unhide Bm_17).keep k18)
      have Bq_18 := hide ((unhide Bq_17).keep k18)
      clear K17 A_17 D_17 S_17 Sx_17 Dx_17 Sz_17 Dz_17 Su_17 Du_17 Sv_17 Dv_17 Sm_17 Dm_17 Sq_17 Dq_17 X_17 X0_17 X1_17 X4_17 Bx_17 Bx0_17 Bx1_17 Bx4_17 Bz_17 Bz0_17 Bz1_17 Bz4_17 Bu_17 Bu0_17 Bu1_17 Bu4_17 Bv_17 Bv0_17 Bv1_17 Bv4_17 Bm_17 Bm0_17 Bm1_17 Bm4_17 Bq_17 Bq0_17 Bq1_17 Bq4_17
      obtain ⟨X0_18, X1_18, -, -, X4_18⟩ := (unhide X_18).o
      obtain ⟨Bx0_18, Bx1_18, -, -, Bx4_18⟩ := (unhide Bx_18).o
      obtain ⟨Bz0_18, Bz1_18, -, -, Bz4_18⟩ := (unhide Bz_18).o
      obtain ⟨Bu0_18, Bu1_18, -, -, Bu4_18⟩ := (unhide Bu_18).o
      obtain ⟨Bv0_18, Bv1_18, -, -, Bv4_18⟩ := (unhide Bv_18).o
      obtain ⟨Bm0_18, Bm1_18, -, -, Bm4_18⟩ := (unhide Bm_18).o
      obtain ⟨Bq0_18, Bq1_18, -, -, Bq4_18⟩ := (unhide Bq_18).o
      clear k18
      go_wp2
      go_ret
      exact ⟨rfl, unhide K18⟩
    · have gs1 : decide ((40 : Int) < (s.length : Int)) = true := decide_eq_true (by omega)
      have gs3 : ((40 : Int) < (s.length : Int)) := by omega
      clear gs gt h0 h1 h2
      go_enter Try.func3, Try.ntmps3
      go_wp2_with fail
      have X_1 := hide (Bx.madeAt w (.slice p f.length c) (.slice p' d.length c') (w.heap.size) rfl)
      have q1 := Kp.alloc w (.cells #[(.slice p f.length c), (.slice p' d.length c')] 25)
      generalize (w.alloc (.cells #[(.slice p f.length c), (.slice p' d.length c')] 25)) = w1 at *
      have K1 := hide q1
      clear q1
      generalize w.heap.size = B_X at *
      obtain ⟨X0_1, X1_1, -, -, X4_1⟩ := (unhide X_1).o
      refine (awake4_any w1).mono ?_
      rintro e w2 ⟨rfl, k2⟩
      have K2 := hide ((unhide K1).trans k2)
      have X_2 := hide ((unhide X_1).keep k2)
      clear K1 X_1 X0_1 X1_1 X4_1
      obtain ⟨X0_2, X1_2, -, -, X4_2⟩ := (unhide X_2).o
      clear k2
      go_wp2_with fail
      refine (small_any p p' f.length c d.length c' w2 mf md).mono ?_
      rw [unhide GT]
      rintro e w3 ⟨rfl, k3⟩
      have K3 := hide ((unhide K2).trans k3)
      have X_3 := hide ((unhide X_2).keep k3)
      clear K2 X_2 X0_2 X1_2 X4_2
      obtain ⟨X0_3, X1_3, -, -, X4_3⟩ := (unhide X_3).o
      clear k3
      go_wp2
      go_ret
      exact ⟨rfl, unhide K3⟩
  · have GT : Hid ((decide (f.length ≤ 40) && decide (d.length ≤ 8192)) = false) := eq_false_of_ne_true gt
    clear gt h0 h1 h2
    go_enter Try.func3, Try.ntmps3
    go_wp2_with fail
    have X_1 := hide (Bx.madeAt w (.slice p f.length c) (.slice p' d.length c') (w.heap.size) rfl)
    have q1 := Kp.alloc w (.cells #[(.slice p f.length c), (.slice p' d.length c')] 25)
    generalize (w.alloc (.cells #[(.slice p f.length c), (.slice p' d.length c')] 25)) = w1 at *
    have K1 := hide q1
    clear q1
    generalize w.heap.size = B_X at *
    obtain ⟨X0_1, X1_1, -, -, X4_1⟩ := (unhide X_1).o
    refine (awake4_any w1).mono ?_
    rintro e w2 ⟨rfl, k2⟩
    have K2 := hide ((unhide K1).trans k2)
    have X_2 := hide ((unhide X_1).keep k2)
    clear K1 X_1 X0_1 X1_1 X4_1
    obtain ⟨X0_2, X1_2, -, -, X4_2⟩ := (unhide X_2).o
    clear k2
    go_wp2_with fail
    refine (small_any p p' f.length c d.length c' w2 mf md).mono ?_
    rw [unhide GT]
    rintro e w3 ⟨rfl, k3⟩
    have K3 := hide ((unhide K2).trans k3)
    have X_3 := hide ((unhide X_2).keep k3)
    clear K2 X_2 X0_2 X1_2 X4_2
    obtain ⟨X0_3, X1_3, -, -, X4_3⟩ := (unhide X_3).o
    clear k3
    go_wp2
    go_ret
    exact ⟨rfl, unhide K3⟩

end Go.Proofs.Ytcegkaemcjlfgaa
