
/- The law KernelShapes, walked. -/
import Derived.Test.YtcegkaemcjlfgabKerG
import Derived.Test.YtcegkaemcjlfgabOpn
namespace Go.Proofs.Ytcegkaemcjlfgab
open Go.RowKit

theorem sameT_refl4 (s : List Int) (d : List Nat) : sameT s d s d = true := by
  unfold sameT sameB allB sameF
  simp
theorem rsh_same {f s t : List Int} {d : List Nat} (h1 : mayT f d = true) (h2 : mayT s d = true) : rshS s d t = rshS f d t ∧ rshD s d t = rshD f d t ∧ rshE s d t = rshE f d t := by
  refine ⟨?_, ?_, ?_⟩
  · unfold rshS; rw [h1, h2]
  · unfold rshD; rw [h1, h2]
  · unfold rshE; rw [h1, h2]

set_option maxHeartbeats 2000000 in
theorem shapes_walk (p p' q r : Option Addr) (c c' g o : Nat) (f s t : List Int) (d : List Nat) (w : World) (mf : f.length ≤ 9223372036854775807) (md : d.length ≤ 9223372036854775807) (ms : s.length ≤ 9223372036854775807) (mt : t.length ≤ 9223372036854775807)
    (h0 : f.length ≤ 1000000 → Ints w (.slice p f.length c) f) (h1 : d.length ≤ 1000000 → Flts w (.slice p' d.length c') d) (h2 : s.length ≤ 1000000 → Ints w (.slice q s.length g) s) (h3 : t.length ≤ 1000000 → Ints w (.slice r t.length o) t) :
    Calls Try.prog 3 #[.agg #[.slice p f.length c, .slice p' d.length c'], .slice q s.length g, .slice r t.length o] w fun e w' => e = .returned (.bool true) ∧ Kp w w' := by
  by_cases gt : (decide (f.length ≤ 40) && decide (d.length ≤ 8192)) = true
  · have GT := hide gt
    simp only [Bool.and_eq_true, decide_eq_true_eq] at gt
    by_cases gs : s.length ≤ 40 ∧ t.length ≤ 40
    · have A_0 := hide (h0 (by omega))
      have D_0 := hide (h1 (by omega))
      have S_0 := hide (h2 (by omega))
      have T_0 := hide (h3 (by omega))
      have gs1 : decide ((40 : Int) < (s.length : Int)) = false := decide_eq_false (by omega)
      have gs2 : decide ((40 : Int) < (t.length : Int)) = false := decide_eq_false (by omega)
      have gs3 : ¬ ((40 : Int) < (s.length : Int)) := by omega
      have gs4 : ¬ ((40 : Int) < (t.length : Int)) := by omega
      clear h0 h1 h2 h3 gt gs
      cases hm : (mayT f d && mayT s d)
      · obtain ⟨e1, e2, e3⟩ := rsh_no hm
        have E1 := hide e2
        have hne : (rshE f d s != 0) = true := by rw [bne_iff_ne]; exact e3
        clear e1 e2 e3 hm
        go_enter Try.func3, Try.ntmps3
        go_wp2_with fail
        have X_1 := hide (Bx.madeAt w (.slice p f.length c) (.slice p' d.length c') (w.heap.size) rfl)
        have q1 := Kp.alloc w (.cells #[(.slice p f.length c), (.slice p' d.length c')] 25)
        generalize (w.alloc (.cells #[(.slice p f.length c), (.slice p' d.length c')] 25)) = w1 at *
        have K1 := hide q1
        have A_1 := hide ((unhide A_0).keep q1)
        have D_1 := hide ((unhide D_0).keep q1)
        have S_1 := hide ((unhide S_0).keep q1)
        have T_1 := hide ((unhide T_0).keep q1)
        clear A_0 D_0 S_0 T_0
        clear q1
        generalize w.heap.size = B_X at *
        obtain ⟨X0_1, X1_1, -, -, X4_1⟩ := (unhide X_1).o
        refine (awake4_any w1).mono ?_
        rintro e w2 ⟨rfl, k2⟩
        have K2 := hide ((unhide K1).trans k2)
        have A_2 := hide ((unhide A_1).keep k2)
        have D_2 := hide ((unhide D_1).keep k2)
        have S_2 := hide ((unhide S_1).keep k2)
        have T_2 := hide ((unhide T_1).keep k2)
        have X_2 := hide ((unhide X_1).keep k2)
        clear K1 A_1 D_1 S_1 T_1 X_1 X0_1 X1_1 X4_1
        obtain ⟨X0_2, X1_2, -, -, X4_2⟩ := (unhide X_2).o
        clear k2
        go_wp2_with fail
        refine (small_any p p' f.length c d.length c' w2 mf md).mono ?_
        rw [unhide GT]
        rintro e w3 ⟨rfl, k3⟩
        have K3 := hide ((unhide K2).trans k3)
        have A_3 := hide ((unhide A_2).keep k3)
        have D_3 := hide ((unhide D_2).keep k3)
        have S_3 := hide ((unhide S_2).keep k3)
        have T_3 := hide ((unhide T_2).keep k3)
        have X_3 := hide ((unhide X_2).keep k3)
        clear K2 A_2 D_2 S_2 T_2 X_2 X0_2 X1_2 X4_2
        obtain ⟨X0_3, X1_3, -, -, X4_3⟩ := (unhide X_3).o
        clear k3
        go_wp2_with fail
        refine (reshape_all _ _ _ f s d w3 (unhide A_3) (unhide D_3) (unhide S_3)).mono ?_
        rw [unhide E1]
        rintro e w4 ⟨⟨ab, cb, bb, db, rfl, sb, fb⟩, k4⟩
        have K4 := hide ((unhide K3).trans k4)
        have A_4 := hide ((unhide A_3).keep k4)
        have D_4 := hide ((unhide D_3).keep k4)
        have S_4 := hide ((unhide S_3).keep k4)
        have T_4 := hide ((unhide T_3).keep k4)
        have X_4 := hide ((unhide X_3).keep k4)
        clear K3 A_3 D_3 S_3 T_3 X_3 X0_3 X1_3 X4_3
        obtain ⟨X0_4, X1_4, -, -, X4_4⟩ := (unhide X_4).o
        clear k4
        have Sb_4 := hide sb
        have Db_4 := hide fb
        clear sb fb
        generalize rshE f d s = q at *
        go_upto_region 6 with fail
        have Y_5 := hide (Bx.madeAt w4 (.slice ab (rshS f d s).length cb) (.slice bb 0 db) (w4.heap.size) rfl)
        have q5 := Kp.alloc w4 (.cells #[(.slice ab (rshS f d s).length cb), (.slice bb 0 db)] 25)
        generalize (w4.alloc (.cells #[(.slice ab (rshS f d s).length cb), (.slice bb 0 db)] 25)) = w5 at *
        have K5 := hide ((unhide K4).trans q5)
        have A_5 := hide ((unhide A_4).keep q5)
        have D_5 := hide ((unhide D_4).keep q5)
        have S_5 := hide ((unhide S_4).keep q5)
        have T_5 := hide ((unhide T_4).keep q5)
        have Sb_5 := hide ((unhide Sb_4).keep q5)
        have Db_5 := hide ((unhide Db_4).keep q5)
        have X_5 := hide ((unhide X_4).keep q5)
        clear K4 A_4 D_4 S_4 T_4 Sb_4 Db_4 X_4 X0_4 X1_4 X4_4
        obtain ⟨X0_5, X1_5, -, -, X4_5⟩ := (unhide X_5).o
        clear q5
        generalize w4.heap.size = B_Y at *
        obtain ⟨Y0_5, Y1_5, -, -, Y4_5⟩ := (unhide Y_5).o
        go_wp2
        go_ret
        exact ⟨rfl, unhide K5⟩
      · have E1 := hide (rsh_yes hm)
        simp only [Bool.and_eq_true] at hm
        have E2 := hide (rsh_yes (f := s) (t := f) (d := d) (by rw [hm.1, hm.2]; rfl))
        have E3 := hide (rsh_same (t := t) hm.1 hm.2).1
        have E4 := hide (rsh_same (t := t) hm.1 hm.2).2.1
        have E5 := hide (rsh_same (t := t) hm.1 hm.2).2.2
        clear hm
        go_enter Try.func3, Try.ntmps3
        go_wp2_with fail
        have X_1 := hide (Bx.madeAt w (.slice p f.length c) (.slice p' d.length c') (w.heap.size) rfl)
        have q1 := Kp.alloc w (.cells #[(.slice p f.length c), (.slice p' d.length c')] 25)
        generalize (w.alloc (.cells #[(.slice p f.length c), (.slice p' d.length c')] 25)) = w1 at *
        have K1 := hide q1
        have A_1 := hide ((unhide A_0).keep q1)
        have D_1 := hide ((unhide D_0).keep q1)
        have S_1 := hide ((unhide S_0).keep q1)
        have T_1 := hide ((unhide T_0).keep q1)
        clear A_0 D_0 S_0 T_0
        clear q1
        generalize w.heap.size = B_X at *
        obtain ⟨X0_1, X1_1, -, -, X4_1⟩ := (unhide X_1).o
        refine (awake4_any w1).mono ?_
        rintro e w2 ⟨rfl, k2⟩
        have K2 := hide ((unhide K1).trans k2)
        have A_2 := hide ((unhide A_1).keep k2)
        have D_2 := hide ((unhide D_1).keep k2)
        have S_2 := hide ((unhide S_1).keep k2)
        have T_2 := hide ((unhide T_1).keep k2)
        have X_2 := hide ((unhide X_1).keep k2)
        clear K1 A_1 D_1 S_1 T_1 X_1 X0_1 X1_1 X4_1
        obtain ⟨X0_2, X1_2, -, -, X4_2⟩ := (unhide X_2).o
        clear k2
        go_wp2_with fail
        refine (small_any p p' f.length c d.length c' w2 mf md).mono ?_
        rw [unhide GT]
        rintro e w3 ⟨rfl, k3⟩
        have K3 := hide ((unhide K2).trans k3)
        have A_3 := hide ((unhide A_2).keep k3)
        have D_3 := hide ((unhide D_2).keep k3)
        have S_3 := hide ((unhide S_2).keep k3)
        have T_3 := hide ((unhide T_2).keep k3)
        have X_3 := hide ((unhide X_2).keep k3)
        clear K2 A_2 D_2 S_2 T_2 X_2 X0_2 X1_2 X4_2
        obtain ⟨X0_3, X1_3, -, -, X4_3⟩ := (unhide X_3).o
        clear k3
        go_wp2_with fail
        refine (reshape_all _ _ _ f s d w3 (unhide A_3) (unhide D_3) (unhide S_3)).mono ?_
        rw [(unhide E1).1, (unhide E1).2.1, (unhide E1).2.2]
        rintro e w4 ⟨⟨ab, cb, bb, db, rfl, sb, fb⟩, k4⟩
        have K4 := hide ((unhide K3).trans k4)
        have A_4 := hide ((unhide A_3).keep k4)
        have D_4 := hide ((unhide D_3).keep k4)
        have S_4 := hide ((unhide S_3).keep k4)
        have T_4 := hide ((unhide T_3).keep k4)
        have X_4 := hide ((unhide X_3).keep k4)
        clear K3 A_3 D_3 S_3 T_3 X_3 X0_3 X1_3 X4_3
        obtain ⟨X0_4, X1_4, -, -, X4_4⟩ := (unhide X_4).o
        clear k4
        have Sb_4 := hide sb
        have Db_4 := hide fb
        clear sb fb
        go_wp2_with fail
        have Y_5 := hide (Bx.madeAt w4 (.slice ab s.length cb) (.slice bb d.length db) (w4.heap.size) rfl)
        have q5 := Kp.alloc w4 (.cells #[(.slice ab s.length cb), (.slice bb d.length db)] 25)
        generalize (w4.alloc (.cells #[(.slice ab s.length cb), (.slice bb d.length db)] 25)) = w5 at *
        have K5 := hide ((unhide K4).trans q5)
        have A_5 := hide ((unhide A_4).keep q5)
        have D_5 := hide ((unhide D_4).keep q5)
        have S_5 := hide ((unhide S_4).keep q5)
        have T_5 := hide ((unhide T_4).keep q5)
        have Sb_5 := hide ((unhide Sb_4).keep q5)
        have Db_5 := hide ((unhide Db_4).keep q5)
        have X_5 := hide ((unhide X_4).keep q5)
        clear K4 A_4 D_4 S_4 T_4 Sb_4 Db_4 X_4 X0_4 X1_4 X4_4
        obtain ⟨X0_5, X1_5, -, -, X4_5⟩ := (unhide X_5).o
        clear q5
        generalize w4.heap.size = B_Y at *
        obtain ⟨Y0_5, Y1_5, -, -, Y4_5⟩ := (unhide Y_5).o
        refine (reshape_all _ _ _ s f d w5 (unhide Sb_5) (unhide Db_5) (unhide A_5)).mono ?_
        rw [(unhide E2).1, (unhide E2).2.1, (unhide E2).2.2]
        rintro e w6 ⟨⟨ac, cc, bc, dc, rfl, sc, fc⟩, k6⟩
        have K6 := hide ((unhide K5).trans k6)
        have A_6 := hide ((unhide A_5).keep k6)
        have D_6 := hide ((unhide D_5).keep k6)
        have S_6 := hide ((unhide S_5).keep k6)
        have T_6 := hide ((unhide T_5).keep k6)
        have Sb_6 := hide ((unhide Sb_5).keep k6)
        have Db_6 := hide ((unhide Db_5).keep k6)
        have X_6 := hide ((unhide X_5).keep k6)
        have Y_6 := hide ((unhide Y_5).keep k6)
        clear K5 A_5 D_5 S_5 T_5 Sb_5 Db_5 X_5 X0_5 X1_5 X4_5 Y_5 Y0_5 Y1_5 Y4_5
        obtain ⟨X0_6, X1_6, -, -, X4_6⟩ := (unhide X_6).o
        obtain ⟨Y0_6, Y1_6, -, -, Y4_6⟩ := (unhide Y_6).o
        clear k6
        have Sc_6 := hide sc
        have Dc_6 := hide fc
        clear sc fc
        go_wp2_with fail
        have Z_7 := hide (Bx.madeAt w6 (.slice ac f.length cc) (.slice bc d.length dc) (w6.heap.size) rfl)
        have q7 := Kp.alloc w6 (.cells #[(.slice ac f.length cc), (.slice bc d.length dc)] 25)
        generalize (w6.alloc (.cells #[(.slice ac f.length cc), (.slice bc d.length dc)] 25)) = w7 at *
        have K7 := hide ((unhide K6).trans q7)
        have A_7 := hide ((unhide A_6).keep q7)
        have D_7 := hide ((unhide D_6).keep q7)
        have S_7 := hide ((unhide S_6).keep q7)
        have T_7 := hide ((unhide T_6).keep q7)
        have Sb_7 := hide ((unhide Sb_6).keep q7)
        have Db_7 := hide ((unhide Db_6).keep q7)
        have Sc_7 := hide ((unhide Sc_6).keep q7)
        have Dc_7 := hide ((unhide Dc_6).keep q7)
        have X_7 := hide ((unhide X_6).keep q7)
        have Y_7 := hide ((unhide Y_6).keep q7)
        clear K6 A_6 D_6 S_6 T_6 Sb_6 Db_6 Sc_6 Dc_6 X_6 X0_6 X1_6 X4_6 Y_6 Y0_6 Y1_6 Y4_6
        obtain ⟨X0_7, X1_7, -, -, X4_7⟩ := (unhide X_7).o
        obtain ⟨Y0_7, Y1_7, -, -, Y4_7⟩ := (unhide Y_7).o
        clear q7
        generalize w6.heap.size = B_Z at *
        obtain ⟨Z0_7, Z1_7, -, -, Z4_7⟩ := (unhide Z_7).o
        refine (reshape_all _ _ _ f t d w7 (unhide A_7) (unhide D_7) (unhide T_7)).mono ?_
        rintro e w8 ⟨⟨ae, ce, be, de, rfl, se, fe⟩, k8⟩
        have K8 := hide ((unhide K7).trans k8)
        have A_8 := hide ((unhide A_7).keep k8)
        have D_8 := hide ((unhide D_7).keep k8)
        have S_8 := hide ((unhide S_7).keep k8)
        have T_8 := hide ((unhide T_7).keep k8)
        have Sb_8 := hide ((unhide Sb_7).keep k8)
        have Db_8 := hide ((unhide Db_7).keep k8)
        have Sc_8 := hide ((unhide Sc_7).keep k8)
        have Dc_8 := hide ((unhide Dc_7).keep k8)
        have X_8 := hide ((unhide X_7).keep k8)
        have Y_8 := hide ((unhide Y_7).keep k8)
        have Z_8 := hide ((unhide Z_7).keep k8)
        clear K7 A_7 D_7 S_7 T_7 Sb_7 Db_7 Sc_7 Dc_7 X_7 X0_7 X1_7 X4_7 Y_7 Y0_7 Y1_7 Y4_7 Z_7 Z0_7 Z1_7 Z4_7
        obtain ⟨X0_8, X1_8, -, -, X4_8⟩ := (unhide X_8).o
        obtain ⟨Y0_8, Y1_8, -, -, Y4_8⟩ := (unhide Y_8).o
        obtain ⟨Z0_8, Z1_8, -, -, Z4_8⟩ := (unhide Z_8).o
        clear k8
        have Se_8 := hide se
        have De_8 := hide fe
        clear se fe
        go_wp2_with fail
        have U_9 := hide (Bx.madeAt w8 (.slice ae (rshS f d t).length ce) (.slice be (rshD f d t).length de) (w8.heap.size) rfl)
        have q9 := Kp.alloc w8 (.cells #[(.slice ae (rshS f d t).length ce), (.slice be (rshD f d t).length de)] 25)
        generalize (w8.alloc (.cells #[(.slice ae (rshS f d t).length ce), (.slice be (rshD f d t).length de)] 25)) = w9 at *
        have K9 := hide ((unhide K8).trans q9)
        have A_9 := hide ((unhide A_8).keep q9)
        have D_9 := hide ((unhide D_8).keep q9)
        have S_9 := hide ((unhide S_8).keep q9)
        have T_9 := hide ((unhide T_8).keep q9)
        have Sb_9 := hide ((unhide Sb_8).keep q9)
        have Db_9 := hide ((unhide Db_8).keep q9)
        have Sc_9 := hide ((unhide Sc_8).keep q9)
        have Dc_9 := hide ((unhide Dc_8).keep q9)
        have Se_9 := hide ((unhide Se_8).keep q9)
        have De_9 := hide ((unhide De_8).keep q9)
        have X_9 := hide ((unhide X_8).keep q9)
        have Y_9 := hide ((unhide Y_8).keep q9)
        have Z_9 := hide ((unhide Z_8).keep q9)
        clear K8 A_8 D_8 S_8 T_8 Sb_8 Db_8 Sc_8 Dc_8 Se_8 De_8 X_8 X0_8 X1_8 X4_8 Y_8 Y0_8 Y1_8 Y4_8 Z_8 Z0_8 Z1_8 Z4_8
        obtain ⟨X0_9, X1_9, -, -, X4_9⟩ := (unhide X_9).o
        obtain ⟨Y0_9, Y1_9, -, -, Y4_9⟩ := (unhide Y_9).o
        obtain ⟨Z0_9, Z1_9, -, -, Z4_9⟩ := (unhide Z_9).o
        clear q9
        generalize w8.heap.size = B_U at *
        obtain ⟨U0_9, U1_9, -, -, U4_9⟩ := (unhide U_9).o
        refine (reshape_all _ _ _ s t d w9 (unhide Sb_9) (unhide Db_9) (unhide T_9)).mono ?_
        rw [unhide E3, unhide E4, unhide E5]
        rintro e w10 ⟨⟨ag, cg, bg, dg, rfl, sg, fg⟩, k10⟩
        have K10 := hide ((unhide K9).trans k10)
        have A_10 := hide ((unhide A_9).keep k10)
        have D_10 := hide ((unhide D_9).keep k10)
        have S_10 := hide ((unhide S_9).keep k10)
        have T_10 := hide ((unhide T_9).keep k10)
        have Sb_10 := hide ((unhide Sb_9).keep k10)
        have Db_10 := hide ((unhide Db_9).keep k10)
        have Sc_10 := hide ((unhide Sc_9).keep k10)
        have Dc_10 := hide ((unhide Dc_9).keep k10)
        have Se_10 := hide ((unhide Se_9).keep k10)
        have De_10 := hide ((unhide De_9).keep k10)
        have X_10 := hide ((unhide X_9).keep k10)
        have Y_10 := hide ((unhide Y_9).keep k10)
        have Z_10 := hide ((unhide Z_9).keep k10)
        have U_10 := hide ((unhide U_9).keep k10)
        clear K9 A_9 D_9 S_9 T_9 Sb_9 Db_9 Sc_9 Dc_9 Se_9 De_9 X_9 X0_9 X1_9 X4_9 Y_9 Y0_9 Y1_9 Y4_9 Z_9 Z0_9 Z1_9 Z4_9 U_9 U0_9 U1_9 U4_9
        obtain ⟨X0_10, X1_10, -, -, X4_10⟩ := (unhide X_10).o
        obtain ⟨Y0_10, Y1_10, -, -, Y4_10⟩ := (unhide Y_10).o
        obtain ⟨Z0_10, Z1_10, -, -, Z4_10⟩ := (unhide Z_10).o
        obtain ⟨U0_10, U1_10, -, -, U4_10⟩ := (unhide U_10).o
        clear k10
        have Sg_10 := hide sg
        have Dg_10 := hide fg
        clear sg fg
        have hqq : (rshE f d t == rshE f d t) = true := by simp
        generalize rshE f d t = q at *
        generalize rshS f d t = rs at *
        generalize rshD f d t = rd at *
        go_wp2_with fail
        have V_11 := hide (Bx.madeAt w10 (.slice ag rs.length cg) (.slice bg rd.length dg) (w10.heap.size) rfl)
        have q11 := Kp.alloc w10 (.cells #[(.slice ag rs.length cg), (.slice bg rd.length dg)] 25)
        generalize (w10.alloc (.cells #[(.slice ag rs.length cg), (.slice bg rd.length dg)] 25)) = w11 at *
        have K11 := hide ((unhide K10).trans q11)
        have A_11 := hide ((unhide A_10).keep q11)
        have D_11 := hide ((unhide D_10).keep q11)
        have S_11 := hide ((unhide S_10).keep q11)
        have T_11 := hide ((unhide T_10).keep q11)
        have Sb_11 := hide ((unhide Sb_10).keep q11)
        have Db_11 := hide ((unhide Db_10).keep q11)
        have Sc_11 := hide ((unhide Sc_10).keep q11)
        have Dc_11 := hide ((unhide Dc_10).keep q11)
        have Se_11 := hide ((unhide Se_10).keep q11)
        have De_11 := hide ((unhide De_10).keep q11)
        have Sg_11 := hide ((unhide Sg_10).keep q11)
        have Dg_11 := hide ((unhide Dg_10).keep q11)
        have X_11 := hide ((unhide X_10).keep q11)
        have Y_11 := hide ((unhide Y_10).keep q11)
        have Z_11 := hide ((unhide Z_10).keep q11)
        have U_11 := hide ((unhide U_10).keep q11)
        clear K10 A_10 D_10 S_10 T_10 Sb_10 Db_10 Sc_10 Dc_10 Se_10 De_10 Sg_10 Dg_10 X_10 X0_10 X1_10 X4_10 Y_10 Y0_10 Y1_10 Y4_10 Z_10 Z0_10 Z1_10 Z4_10 U_10 U0_10 U1_10 U4_10
        obtain ⟨X0_11, X1_11, -, -, X4_11⟩ := (unhide X_11).o
        obtain ⟨Y0_11, Y1_11, -, -, Y4_11⟩ := (unhide Y_11).o
        obtain ⟨Z0_11, Z1_11, -, -, Z4_11⟩ := (unhide Z_11).o
        obtain ⟨U0_11, U1_11, -, -, U4_11⟩ := (unhide U_11).o
        clear q11
        generalize w10.heap.size = B_V at *
        obtain ⟨V0_11, V1_11, -, -, V4_11⟩ := (unhide V_11).o
        refine (rsameT_any _ _ _ _ f d f d w11 (unhide Sc_11) (unhide Dc_11) (unhide A_11) (unhide D_11)).mono ?_
        rw [sameT_refl4]
        rintro e w12 ⟨rfl, k12⟩
        have K12 := hide ((unhide K11).trans k12)
        have A_12 := hide ((unhide A_11).keep k12)
        have D_12 := hide ((unhide D_11).keep k12)
        have S_12 := hide ((unhide S_11).keep k12)
        have T_12 := hide ((unhide T_11).keep k12)
        have Sb_12 := hide ((unhide Sb_11).keep k12)
        have Db_12 := hide ((unhide Db_11).keep k12)
        have Sc_12 := hide ((unhide Sc_11).keep k12)
        have Dc_12 := hide ((unhide Dc_11).keep k12)
        have Se_12 := hide ((unhide Se_11).keep k12)
        have De_12 := hide ((unhide De_11).keep k12)
        have Sg_12 := hide ((unhide Sg_11).keep k12)
        have Dg_12 := hide ((unhide Dg_11).keep k12)
        have X_12 := hide ((unhide X_11).keep k12)
        have Y_12 := hide ((unhide Y_11).keep k12)
        have Z_12 := hide ((unhide Z_11).keep k12)
        have U_12 := hide ((unhide U_11).keep k12)
        have V_12 := hide ((unhide V_11).keep k12)
        clear K11 A_11 D_11 S_11 T_11 Sb_11 Db_11 Sc_11 Dc_11 Se_11 De_11 Sg_11 Dg_11 X_11 X0_11 X1_11 X4_11 Y_11 Y0_11 Y1_11 Y4_11 Z_11 Z0_11 Z1_11 Z4_11 U_11 U0_11 U1_11 U4_11 V_11 V0_11 V1_11 V4_11
        obtain ⟨X0_12, X1_12, -, -, X4_12⟩ := (unhide X_12).o
        obtain ⟨Y0_12, Y1_12, -, -, Y4_12⟩ := (unhide Y_12).o
        obtain ⟨Z0_12, Z1_12, -, -, Z4_12⟩ := (unhide Z_12).o
        obtain ⟨U0_12, U1_12, -, -, U4_12⟩ := (unhide U_12).o
        obtain ⟨V0_12, V1_12, -, -, V4_12⟩ := (unhide V_12).o
        clear k12
        go_wp2_with fail
        refine (rsameT_any _ _ _ _ rs rd rs rd w12 (unhide Se_12) (unhide De_12) (unhide Sg_12) (unhide Dg_12)).mono ?_
        rw [sameT_refl4]
        rintro e w13 ⟨rfl, k13⟩
        have K13 := hide ((unhide K12).trans k13)
        have A_13 := hide ((unhide A_12).keep k13)
        have D_13 := hide ((unhide D_12).keep k13)
        have S_13 := hide ((unhide S_12).keep k13)
        have T_13 := hide ((unhide T_12).keep k13)
        have Sb_13 := hide ((unhide Sb_12).keep k13)
        have Db_13 := hide ((unhide Db_12).keep k13)
        have Sc_13 := hide ((unhide Sc_12).keep k13)
        have Dc_13 := hide ((unhide Dc_12).keep k13)
        have Se_13 := hide ((unhide Se_12).keep k13)
        have De_13 := hide ((unhide De_12).keep k13)
        have Sg_13 := hide ((unhide Sg_12).keep k13)
        have Dg_13 := hide ((unhide Dg_12).keep k13)
        have X_13 := hide ((unhide X_12).keep k13)
        have Y_13 := hide ((unhide Y_12).keep k13)
        have Z_13 := hide ((unhide Z_12).keep k13)
        have U_13 := hide ((unhide U_12).keep k13)
        have V_13 := hide ((unhide V_12).keep k13)
        clear K12 A_12 D_12 S_12 T_12 Sb_12 Db_12 Sc_12 Dc_12 Se_12 De_12 Sg_12 Dg_12 X_12 X0_12 X1_12 X4_12 Y_12 Y0_12 Y1_12 Y4_12 Z_12 Z0_12 Z1_12 Z4_12 U_12 U0_12 U1_12 U4_12 V_12 V0_12 V1_12 V4_12
        obtain ⟨X0_13, X1_13, -, -, X4_13⟩ := (unhide X_13).o
        obtain ⟨Y0_13, Y1_13, -, -, Y4_13⟩ := (unhide Y_13).o
        obtain ⟨Z0_13, Z1_13, -, -, Z4_13⟩ := (unhide Z_13).o
        obtain ⟨U0_13, U1_13, -, -, U4_13⟩ := (unhide U_13).o
        obtain ⟨V0_13, V1_13, -, -, V4_13⟩ := (unhide V_13).o
        clear k13
        go_wp2
        go_ret
        exact ⟨rfl, unhide K13⟩
    · have gs0 : s.length ≤ 40 ∨ ¬ s.length ≤ 40 := by omega
      clear h0 h1 h2 h3
      rcases gs0 with g1 | g1
      · have gs1 : decide ((40 : Int) < (s.length : Int)) = false := decide_eq_false (by omega)
        have gs2 : decide ((40 : Int) < (t.length : Int)) = true := decide_eq_true (by omega)
        have gs3 : ¬ ((40 : Int) < (s.length : Int)) := by omega
        have gs4 : ((40 : Int) < (t.length : Int)) := by omega
        clear gs gt
        go_enter Try.func3, Try.ntmps3
        go_wp2_with fail
        have X_1 := hide (Bx.madeAt w (.slice p f.length c) (.slice p' d.length c') (w.heap.size) rfl)
        have q1 := Kp.alloc w (.cells #[(.slice p f.length c), (.slice p' d.length c')] 25)
        generalize (w.alloc (.cells #[(.slice p f.length c), (.slice p' d.length c')] 25)) = w1 at *
        have K1 := hide q1
        clear q1
        generalize w.heap.size = B_X at *
        obtain ⟨X0_1, X1_1, -, -, X4_1⟩ := (unhide X_1).o
        refine (awake4_any w1).mono ?_
        rintro e w2 ⟨rfl, k2⟩
        have K2 := hide ((unhide K1).trans k2)
        have X_2 := hide ((unhide X_1).keep k2)
        clear K1 X_1 X0_1 X1_1 X4_1
        obtain ⟨X0_2, X1_2, -, -, X4_2⟩ := (unhide X_2).o
        clear k2
        go_wp2_with fail
        refine (small_any p p' f.length c d.length c' w2 mf md).mono ?_
        rw [unhide GT]
        rintro e w3 ⟨rfl, k3⟩
        have K3 := hide ((unhide K2).trans k3)
        have X_3 := hide ((unhide X_2).keep k3)
        clear K2 X_2 X0_2 X1_2 X4_2
        obtain ⟨X0_3, X1_3, -, -, X4_3⟩ := (unhide X_3).o
        clear k3
        go_wp2
        go_ret
        exact ⟨rfl, unhide K3⟩
      · have gs1 : decide ((40 : Int) < (s.length : Int)) = true := decide_eq_true (by omega)
        have gs3 : ((40 : Int) < (s.length : Int)) := by omega
        clear gs gt
        go_enter Try.func3, Try.ntmps3
        go_wp2_with fail
        have X_1 := hide (Bx.madeAt w (.slice p f.length c) (.slice p' d.length c') (w.heap.size) rfl)
        have q1 := Kp.alloc w (.cells #[(.slice p f.length c), (.slice p' d.length c')] 25)
        generalize (w.alloc (.cells #[(.slice p f.length c), (.slice p' d.length c')] 25)) = w1 at *
        have K1 := hide q1
        clear q1
        generalize w.heap.size = B_X at *
        obtain ⟨X0_1, X1_1, -, -, X4_1⟩ := (unhide X_1).o
        refine (awake4_any w1).mono ?_
        rintro e w2 ⟨rfl, k2⟩
        have K2 := hide ((unhide K1).trans k2)
        have X_2 := hide ((unhide X_1).keep k2)
        clear K1 X_1 X0_1 X1_1 X4_1
        obtain ⟨X0_2, X1_2, -, -, X4_2⟩ := (unhide X_2).o
        clear k2
        go_wp2_with fail
        refine (small_any p p' f.length c d.length c' w2 mf md).mono ?_
        rw [unhide GT]
        rintro e w3 ⟨rfl, k3⟩
        have K3 := hide ((unhide K2).trans k3)
        have X_3 := hide ((unhide X_2).keep k3)
        clear K2 X_2 X0_2 X1_2 X4_2
        obtain ⟨X0_3, X1_3, -, -, X4_3⟩ := (unhide X_3).o
        clear k3
        go_wp2
        go_ret
        exact ⟨rfl, unhide K3⟩
  · have GN : Hid ((decide (f.length ≤ 40) && decide (d.length ≤ 8192)) = false) := eq_false_of_ne_true gt
    clear gt h0 h1 h2 h3
    go_enter Try.func3, Try.ntmps3
    go_wp2_with fail
    have X_1 := hide (Bx.madeAt w (.slice p f.length c) (.slice p' d.length c') (w.heap.size) rfl)
    have q1 := Kp.alloc w (.cells #[(.slice p f.length c), (.slice p' d.length c')] 25)
    generalize (w.alloc (.cells #[(.slice p f.length c), (.slice p' d.length c')] 25)) = w1 at *
    have K1 := hide q1
    clear q1
    generalize w.heap.size = B_X at *
    obtain ⟨X0_1, X1_1, -, -, X4_1⟩ := (unhide X_1).o
    refine (awake4_any w1).mono ?_
    rintro e w2 ⟨rfl, k2⟩
    have K2 := hide ((unhide K1).trans k2)
    have X_2 := hide ((unhide X_1).keep k2)
    clear K1 X_1 X0_1 X1_1 X4_1
    obtain ⟨X0_2, X1_2, -, -, X4_2⟩ := (unhide X_2).o
    clear k2
    go_wp2_with fail
    refine (small_any p p' f.length c d.length c' w2 mf md).mono ?_
    rintro e w3 ⟨rfl, k3⟩
    have K3 := hide ((unhide K2).trans k3)
    have X_3 := hide ((unhide X_2).keep k3)
    clear K2 X_2 X0_2 X1_2 X4_2
    obtain ⟨X0_3, X1_3, -, -, X4_3⟩ := (unhide X_3).o
    clear k3
    rw [unhide GN]
    go_wp2
    go_ret
    exact ⟨rfl, unhide K3⟩

end Go.Proofs.Ytcegkaemcjlfgab
