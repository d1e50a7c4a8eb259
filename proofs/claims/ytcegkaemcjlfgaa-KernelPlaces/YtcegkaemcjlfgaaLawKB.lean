
/- The law KernelPlaces, walked. -/
import Derived.Test.YtcegkaemcjlfgaaLawKA
import Derived.Deep.RegionHeld
namespace Go.Proofs.Ytcegkaemcjlfgaa
open Go.RowKit

set_option maxHeartbeats 4000000 in
theorem places_walk (p p' q q' : Option Addr) (c c' o o' : Nat) (f g : List Int) (d e : List Nat) (w : World) (mf : f.length ≤ 9223372036854775807) (md : d.length ≤ 9223372036854775807) (mg : g.length ≤ 9223372036854775807) (me : e.length ≤ 9223372036854775807)
    (h0 : f.length ≤ 1000000 → Ints w (.slice p f.length c) f) (h1 : d.length ≤ 1000000 → Flts w (.slice p' d.length c') d) (h2 : g.length ≤ 1000000 → Ints w (.slice q g.length o) g) (h3 : e.length ≤ 1000000 → Flts w (.slice q' e.length o') e) :
    Calls Try.prog 5 #[.agg #[.slice p f.length c, .slice p' d.length c'], .agg #[.slice q g.length o, .slice q' e.length o']] w fun e w' => e = .returned (.bool true) ∧ Kp w w' := by
  by_cases gt : (decide (f.length ≤ 40) && decide (d.length ≤ 8192)) = true
  · have GT := hide gt
    simp only [Bool.and_eq_true, decide_eq_true_eq] at gt
    by_cases gu : (decide (g.length ≤ 40) && decide (e.length ≤ 8192)) = true
    · have GU := hide gu
      simp only [Bool.and_eq_true, decide_eq_true_eq] at gu
      have A_0 := hide (h0 (by omega))
      have D_0 := hide (h1 (by omega))
      have B_0 := hide (h2 (by omega))
      have E_0 := hide (h3 (by omega))
      clear h0 h1 h2 h3 gt gu
      by_cases he : twoE f d g e = 0
      · have hm : (mayT f d && mayT g e) = true := by
          cases h : (mayT f d && mayT g e)
          · unfold twoE at he; rw [h] at he; simp at he
          · rfl
        have HE : Hid (sprE f g = 0) := by unfold twoE at he; rw [if_pos hm] at he; exact he
        simp only [Bool.and_eq_true] at hm
        have M1 := hide hm.1
        have M2 := hide hm.2
        have I1 := hide (spr_into (unhide HE)).1
        have I2 := hide (spr_into (unhide HE)).2
        have P1 : Hid (kspS f d (sprL f g) = sprL f g ∧ kspD f d (sprL f g) = sprD f (sprL f g) d ∧ kspE f d (sprL f g) = 0) := ksp_yes (by rw [unhide M1, unhide I1]; rfl)
        have P2 : Hid (kspS g e (sprL f g) = sprL f g ∧ kspD g e (sprL f g) = sprD g (sprL f g) e ∧ kspE g e (sprL f g) = 0) := ksp_yes (by rw [unhide M2, unhide I2]; rfl)
        clear he hm
        go_enter Try.func5, Try.ntmps5
        go_wp2_with fail
        have X_1 := hide ((Bx.madeAt w (.slice p f.length c) (.slice p' d.length c') (w.heap.size) rfl).keep (Kp.alloc (w.alloc (.cells #[(.slice p f.length c), (.slice p' d.length c')] 25)) (.cells #[(.slice q g.length o), (.slice q' e.length o')] 25)))
        have Y_1 := hide (Bx.madeAt (w.alloc (.cells #[(.slice p f.length c), (.slice p' d.length c')] 25)) (.slice q g.length o) (.slice q' e.length o') (w.heap.size + 1) (by simp))
        have q1 := (Kp.alloc w (.cells #[(.slice p f.length c), (.slice p' d.length c')] 25)).trans (Kp.alloc (w.alloc (.cells #[(.slice p f.length c), (.slice p' d.length c')] 25)) (.cells #[(.slice q g.length o), (.slice q' e.length o')] 25))
        generalize ((w.alloc (.cells #[(.slice p f.length c), (.slice p' d.length c')] 25)).alloc (.cells #[(.slice q g.length o), (.slice q' e.length o')] 25)) = w1 at *
        have K1 := hide q1
        have A_1 := hide ((unhide A_0).keep q1)
        have D_1 := hide ((unhide D_0).keep q1)
        have B_1 := hide ((unhide B_0).keep q1)
        have E_1 := hide ((unhide E_0).keep q1)
        clear A_0 D_0 B_0 E_0
        clear q1
        generalize w.heap.size + 1 = B_Y at *
        generalize w.heap.size = B_X at *
        obtain ⟨X0_1, X1_1, -, -, X4_1⟩ := (unhide X_1).o
        obtain ⟨Y0_1, Y1_1, -, -, Y4_1⟩ := (unhide Y_1).o
        refine (awake4_any w1).mono ?_
        rintro e w2 ⟨rfl, k2⟩
        have K2 := hide ((unhide K1).trans k2)
        have A_2 := hide ((unhide A_1).keep k2)
        have D_2 := hide ((unhide D_1).keep k2)
        have B_2 := hide ((unhide B_1).keep k2)
        have E_2 := hide ((unhide E_1).keep k2)
        have X_2 := hide ((unhide X_1).keep k2)
        have Y_2 := hide ((unhide Y_1).keep k2)
        clear K1 A_1 D_1 B_1 E_1 X_1 X0_1 X1_1 X4_1 Y_1 Y0_1 Y1_1 Y4_1
        obtain ⟨X0_2, X1_2, -, -, X4_2⟩ := (unhide X_2).o
        obtain ⟨Y0_2, Y1_2, -, -, Y4_2⟩ := (unhide Y_2).o
        clear k2
        go_wp2_with fail
        refine (small_any p p' f.length c d.length c' w2 mf md).mono ?_
        rw [unhide GT]
        rintro e w3 ⟨rfl, k3⟩
        have K3 := hide ((unhide K2).trans k3)
        have A_3 := hide ((unhide A_2).keep k3)
        have D_3 := hide ((unhide D_2).keep k3)
        have B_3 := hide ((unhide B_2).keep k3)
        have E_3 := hide ((unhide E_2).keep k3)
        have X_3 := hide ((unhide X_2).keep k3)
        have Y_3 := hide ((unhide Y_2).keep k3)
        clear K2 A_2 D_2 B_2 E_2 X_2 X0_2 X1_2 X4_2 Y_2 Y0_2 Y1_2 Y4_2
        obtain ⟨X0_3, X1_3, -, -, X4_3⟩ := (unhide X_3).o
        obtain ⟨Y0_3, Y1_3, -, -, Y4_3⟩ := (unhide Y_3).o
        clear k3
        go_wp2_with fail
        refine (small_any q q' g.length o e.length o' w3 mg me).mono ?_
        rw [unhide GU]
        rintro e w4 ⟨rfl, k4⟩
        have K4 := hide ((unhide K3).trans k4)
        have A_4 := hide ((unhide A_3).keep k4)
        have D_4 := hide ((unhide D_3).keep k4)
        have B_4 := hide ((unhide B_3).keep k4)
        have E_4 := hide ((unhide E_3).keep k4)
        have X_4 := hide ((unhide X_3).keep k4)
        have Y_4 := hide ((unhide Y_3).keep k4)
        clear K3 A_3 D_3 B_3 E_3 X_3 X0_3 X1_3 X4_3 Y_3 Y0_3 Y1_3 Y4_3
        obtain ⟨X0_4, X1_4, -, -, X4_4⟩ := (unhide X_4).o
        obtain ⟨Y0_4, Y1_4, -, -, Y4_4⟩ := (unhide Y_4).o
        clear k4
        go_wp2_with fail
        refine (two_add _ _ _ _ f g d e w4 (unhide A_4) (unhide D_4) (unhide B_4) (unhide E_4) (unhide M1) (unhide M2) (unhide HE)).mono ?_
        rintro e w5 ⟨ds, ⟨at1, ct, bt, dt, rfl, st, ft⟩, hmt, hr, k5⟩
        have K5 := hide ((unhide K4).trans k5)
        have A_5 := hide ((unhide A_4).keep k5)
        have D_5 := hide ((unhide D_4).keep k5)
        have B_5 := hide ((unhide B_4).keep k5)
        have E_5 := hide ((unhide E_4).keep k5)
        have X_5 := hide ((unhide X_4).keep k5)
        have Y_5 := hide ((unhide Y_4).keep k5)
        clear K4 A_4 D_4 B_4 E_4 X_4 X0_4 X1_4 X4_4 Y_4 Y0_4 Y1_4 Y4_4
        obtain ⟨X0_5, X1_5, -, -, X4_5⟩ := (unhide X_5).o
        obtain ⟨Y0_5, Y1_5, -, -, Y4_5⟩ := (unhide Y_5).o
        clear k5
        have St_5 := hide st
        have Dt_5 := hide ft
        have MT := hide hmt
        have HR := hide hr
        clear st ft hmt hr
        generalize hT : sprL f g = t at *
        have LT : Hid (ds.length = (sprD f t d).length) := by have := mayT_len (unhide MT); have := mayT_len (sprD_may (d := d) (unhide I1)); unfold Hid; omega
        have LU : Hid (ds.length = (sprD g t e).length) := by have := mayT_len (unhide MT); have := mayT_len (sprD_may (d := e) (unhide I2)); unfold Hid; omega
        clear hT
        go_wp2_with fail
        have T_6 := hide (Bx.madeAt w5 (.slice at1 t.length ct) (.slice bt ds.length dt) (w5.heap.size) rfl)
        have q6 := Kp.alloc w5 (.cells #[(.slice at1 t.length ct), (.slice bt ds.length dt)] 25)
        generalize (w5.alloc (.cells #[(.slice at1 t.length ct), (.slice bt ds.length dt)] 25)) = w6 at *
        have K6 := hide ((unhide K5).trans q6)
        have A_6 := hide ((unhide A_5).keep q6)
        have D_6 := hide ((unhide D_5).keep q6)
        have B_6 := hide ((unhide B_5).keep q6)
        have E_6 := hide ((unhide E_5).keep q6)
        have St_6 := hide ((unhide St_5).keep q6)
        have Dt_6 := hide ((unhide Dt_5).keep q6)
        have X_6 := hide ((unhide X_5).keep q6)
        have Y_6 := hide ((unhide Y_5).keep q6)
        clear K5 A_5 D_5 B_5 E_5 St_5 Dt_5 X_5 X0_5 X1_5 X4_5 Y_5 Y0_5 Y1_5 Y4_5
        obtain ⟨X0_6, X1_6, -, -, X4_6⟩ := (unhide X_6).o
        obtain ⟨Y0_6, Y1_6, -, -, Y4_6⟩ := (unhide Y_6).o
        clear q6
        generalize w5.heap.size = B_T at *
        obtain ⟨T0_6, T1_6, -, -, T4_6⟩ := (unhide T_6).o
        refine (Kspread_all _ _ _ f t d w6 (unhide A_6) (unhide D_6) (unhide St_6)).mono ?_
        rw [(unhide P1).1, (unhide P1).2.1, (unhide P1).2.2]
        rintro e w7 ⟨⟨au, cu, bu, du, rfl, su, fu⟩, k7⟩
        have K7 := hide ((unhide K6).trans k7)
        have A_7 := hide ((unhide A_6).keep k7)
        have D_7 := hide ((unhide D_6).keep k7)
        have B_7 := hide ((unhide B_6).keep k7)
        have E_7 := hide ((unhide E_6).keep k7)
        have St_7 := hide ((unhide St_6).keep k7)
        have Dt_7 := hide ((unhide Dt_6).keep k7)
        have X_7 := hide ((unhide X_6).keep k7)
        have Y_7 := hide ((unhide Y_6).keep k7)
        have T_7 := hide ((unhide T_6).keep k7)
        clear K6 A_6 D_6 B_6 E_6 St_6 Dt_6 X_6 X0_6 X1_6 X4_6 Y_6 Y0_6 Y1_6 Y4_6 T_6 T0_6 T1_6 T4_6
        obtain ⟨X0_7, X1_7, -, -, X4_7⟩ := (unhide X_7).o
        obtain ⟨Y0_7, Y1_7, -, -, Y4_7⟩ := (unhide Y_7).o
        obtain ⟨T0_7, T1_7, -, -, T4_7⟩ := (unhide T_7).o
        clear k7
        have Du_7 := hide fu
        clear su fu
        go_wp2_with fail
        have U_8 := hide (Bx.madeAt w7 (.slice au t.length cu) (.slice bu (sprD f t d).length du) (w7.heap.size) rfl)
        have q8 := Kp.alloc w7 (.cells #[(.slice au t.length cu), (.slice bu (sprD f t d).length du)] 25)
        generalize (w7.alloc (.cells #[(.slice au t.length cu), (.slice bu (sprD f t d).length du)] 25)) = w8 at *
        have K8 := hide ((unhide K7).trans q8)
        have A_8 := hide ((unhide A_7).keep q8)
        have D_8 := hide ((unhide D_7).keep q8)
        have B_8 := hide ((unhide B_7).keep q8)
        have E_8 := hide ((unhide E_7).keep q8)
        have St_8 := hide ((unhide St_7).keep q8)
        have Dt_8 := hide ((unhide Dt_7).keep q8)
        have Du_8 := hide ((unhide Du_7).keep q8)
        have X_8 := hide ((unhide X_7).keep q8)
        have Y_8 := hide ((unhide Y_7).keep q8)
        have T_8 := hide ((unhide T_7).keep q8)
        clear K7 A_7 D_7 B_7 E_7 St_7 Dt_7 Du_7 X_7 X0_7 X1_7 X4_7 Y_7 Y0_7 Y1_7 Y4_7 T_7 T0_7 T1_7 T4_7
        obtain ⟨X0_8, X1_8, -, -, X4_8⟩ := (unhide X_8).o
        obtain ⟨Y0_8, Y1_8, -, -, Y4_8⟩ := (unhide Y_8).o
        obtain ⟨T0_8, T1_8, -, -, T4_8⟩ := (unhide T_8).o
        clear q8
        generalize w7.heap.size = B_U at *
        obtain ⟨U0_8, U1_8, -, -, U4_8⟩ := (unhide U_8).o
        refine (Kspread_all _ _ _ g t e w8 (unhide B_8) (unhide E_8) (unhide St_8)).mono ?_
        rw [(unhide P2).1, (unhide P2).2.1, (unhide P2).2.2]
        rintro e w9 ⟨⟨av, cv, bv, dv, rfl, sv, fv⟩, k9⟩
        have K9 := hide ((unhide K8).trans k9)
        have A_9 := hide ((unhide A_8).keep k9)
        have D_9 := hide ((unhide D_8).keep k9)
        have B_9 := hide ((unhide B_8).keep k9)
        have E_9 := hide ((unhide E_8).keep k9)
        have St_9 := hide ((unhide St_8).keep k9)
        have Dt_9 := hide ((unhide Dt_8).keep k9)
        have Du_9 := hide ((unhide Du_8).keep k9)
        have X_9 := hide ((unhide X_8).keep k9)
        have Y_9 := hide ((unhide Y_8).keep k9)
        have T_9 := hide ((unhide T_8).keep k9)
        have U_9 := hide ((unhide U_8).keep k9)
        clear K8 A_8 D_8 B_8 E_8 St_8 Dt_8 Du_8 X_8 X0_8 X1_8 X4_8 Y_8 Y0_8 Y1_8 Y4_8 T_8 T0_8 T1_8 T4_8 U_8 U0_8 U1_8 U4_8
        obtain ⟨X0_9, X1_9, -, -, X4_9⟩ := (unhide X_9).o
        obtain ⟨Y0_9, Y1_9, -, -, Y4_9⟩ := (unhide Y_9).o
        obtain ⟨T0_9, T1_9, -, -, T4_9⟩ := (unhide T_9).o
        obtain ⟨U0_9, U1_9, -, -, U4_9⟩ := (unhide U_9).o
        clear k9
        have Dv_9 := hide fv
        clear sv fv
        go_upto_region 10 with fail
        have V_10 := hide (Bx.madeAt w9 (.slice av t.length cv) (.slice bv (sprD g t e).length dv) (w9.heap.size) rfl)
        have q10 := Kp.alloc w9 (.cells #[(.slice av t.length cv), (.slice bv (sprD g t e).length dv)] 25)
        generalize (w9.alloc (.cells #[(.slice av t.length cv), (.slice bv (sprD g t e).length dv)] 25)) = w10 at *
        have K10 := hide ((unhide K9).trans q10)
        have A_10 := hide ((unhide A_9).keep q10)
        have D_10 := hide ((unhide D_9).keep q10)
        have B_10 := hide ((unhide B_9).keep q10)
        have E_10 := hide ((unhide E_9).keep q10)
        have St_10 := hide ((unhide St_9).keep q10)
        have Dt_10 := hide ((unhide Dt_9).keep q10)
        have Du_10 := hide ((unhide Du_9).keep q10)
        have Dv_10 := hide ((unhide Dv_9).keep q10)
        have X_10 := hide ((unhide X_9).keep q10)
        have Y_10 := hide ((unhide Y_9).keep q10)
        have T_10 := hide ((unhide T_9).keep q10)
        have U_10 := hide ((unhide U_9).keep q10)
        clear K9 A_9 D_9 B_9 E_9 St_9 Dt_9 Du_9 Dv_9 X_9 X0_9 X1_9 X4_9 Y_9 Y0_9 Y1_9 Y4_9 T_9 T0_9 T1_9 T4_9 U_9 U0_9 U1_9 U4_9
        obtain ⟨X0_10, X1_10, -, -, X4_10⟩ := (unhide X_10).o
        obtain ⟨Y0_10, Y1_10, -, -, Y4_10⟩ := (unhide Y_10).o
        obtain ⟨T0_10, T1_10, -, -, T4_10⟩ := (unhide T_10).o
        obtain ⟨U0_10, U1_10, -, -, U4_10⟩ := (unhide U_10).o
        clear q10
        generalize w9.heap.size = B_V at *
        obtain ⟨V0_10, V1_10, -, -, V4_10⟩ := (unhide V_10).o
        have hq1 : (((sprD f t d).length : Int) != (ds.length : Int)) = false := by have := unhide LT; simp; omega
        have hq2 : (((sprD g t e).length : Int) != (ds.length : Int)) = false := by have := unhide LU; simp; omega
        have hdp : 0 < ds.length := mayT_pos (unhide MT)
        have hdm : ds.length ≤ 4096 := by have := mayT_len (unhide MT); have := may_prod (mayT_may (unhide MT)); omega
        obtain ⟨kDt, oDt, rfl, hDt, cDt⟩ := flts_at (unhide Dt_10) hdp
        have CDt := hide cDt
        clear cDt
        obtain ⟨kDu, oDu, rfl, hDu, cDu⟩ := flts_at (unhide Du_10) (by have := unhide LT; omega)
        have CDu := hide cDu
        clear cDu
        obtain ⟨kDv, oDv, rfl, hDv, cDv⟩ := flts_at (unhide Dv_10) (by have := unhide LU; omega)
        have CDv := hide cDv
        clear cDv
        go_wp2_with fail
        clear X0_10 X1_10 X4_10 Y0_10 Y1_10 Y4_10 T0_10 T1_10 T4_10 U0_10 U1_10 U4_10 V0_10 V1_10 V4_10
        go_loopw [11] (fun i wr => ∃ j : Nat, j ≤ ds.length ∧ i = .int .i64 j ∧ Hid (Kp w10 wr)) (fun i _ => ds.length - (intOf i).toNat)
        case atStart => exact ⟨0, Nat.zero_le _, rfl, Kp.refl _⟩
        case round wr =>
          obtain ⟨j, hj, rfl, KR⟩ := hrel
          obtain ⟨T0_r, T1_r, -, -, T4_r⟩ := ((unhide T_10).keep (unhide KR)).o
          obtain ⟨U0_r, U1_r, -, -, U4_r⟩ := ((unhide U_10).keep (unhide KR)).o
          obtain ⟨V0_r, V1_r, -, -, V4_r⟩ := ((unhide V_10).keep (unhide KR)).o
          by_cases hlt : j < ds.length
          · have c1 := (Below.cell (unhide KR) (p := ⟨kDt, oDt + j, none⟩) hDt).trans (unhide CDt j hlt)
            have c2 := (Below.cell (unhide KR) (p := ⟨kDu, oDu + j, none⟩) hDu).trans (unhide CDu j (by have := unhide LT; omega))
            have c3 := (Below.cell (unhide KR) (p := ⟨kDv, oDv + j, none⟩) hDv).trans (unhide CDv j (by have := unhide LU; omega))
            have RJ := hide (unhide HR j hlt)
            generalize ds.getD j 0 = x at *
            generalize (sprD f t d).getD j 0 = y at *
            generalize (sprD g t e).getD j 0 = z at *
            have hop := fun t w => run_add_any (P := Try.prog) w t y z
            have hcw : ∀ (w : World) (a : Addr), (flW .add w y z).cell? a = w.cell? a := fun w a => by unfold World.cell?; rw [flW_heap]
            have CS := hide (fun w0 r (h : cn r = adC y z) => (frsame_any x r w0).mono (R' := fun e w' => e = .returned (.bool true) ∧ w' = w0) (by rintro e w' ⟨rfl, rfl⟩; exact ⟨ret_bool (sameF_iff.2 ((unhide RJ).trans h.symm)), rfl⟩))
            have hjd : (j : Int) < (ds.length : Int) := by omega
            have hj1 : j < (sprD f t d).length := by have := unhide LT; omega
            have hj2 : j < (sprD g t e).length := by have := unhide LU; omega
            have hj3 : (j : Int) < ((sprD f t d).length : Int) := by omega
            have hj4 : (j : Int) < ((sprD g t e).length : Int) := by omega
            go_wp2_with fail
            go_region_held (fun w' => w'.cell? ⟨B_T, 1, none⟩ = some (.slice (some ⟨kDt, oDt, none⟩) ds.length dt) ∧ w'.cell? ⟨B_U, 1, none⟩ = some (.slice (some ⟨kDu, oDu, none⟩) (sprD f t d).length du) ∧ w'.cell? ⟨B_V, 1, none⟩ = some (.slice (some ⟨kDv, oDv, none⟩) (sprD g t e).length dv) ∧ w'.cell? ⟨kDt, oDt + j, none⟩ = some (.float .f64 x) ∧ w'.cell? ⟨kDu, oDu + j, none⟩ = some (.float .f64 y) ∧ w'.cell? ⟨kDv, oDv + j, none⟩ = some (.float .f64 z)) (go_keep)
              (first
                | (go_at_call 17; refine ((unhide CS) _ _ ?_).mono ?_; (exact (flR_add _ _ _).1); rintro e x1 ⟨rfl, rfl⟩))
            have KZ := hide ((unhide KR).trans ((Kp.drew wr).trans (flW_kp .add wr.drew y z)))
            go_wp2
            go_roundw
            case rel => exact ⟨j + 1, by omega, by go_num, unhide KZ⟩
            case measure => simp [intOf]; omega
          · go_wp2
            go_ret
            exact ⟨rfl, (unhide K10).trans (unhide KR)⟩
      · have HE := hide he
        have hne : (twoE f d g e != 0) = true := by rw [bne_iff_ne]; exact he
        clear he
        go_enter Try.func5, Try.ntmps5
        go_wp2_with fail
        have X_1 := hide ((Bx.madeAt w (.slice p f.length c) (.slice p' d.length c') (w.heap.size) rfl).keep (Kp.alloc (w.alloc (.cells #[(.slice p f.length c), (.slice p' d.length c')] 25)) (.cells #[(.slice q g.length o), (.slice q' e.length o')] 25)))
        have Y_1 := hide (Bx.madeAt (w.alloc (.cells #[(.slice p f.length c), (.slice p' d.length c')] 25)) (.slice q g.length o) (.slice q' e.length o') (w.heap.size + 1) (by simp))
        have q1 := (Kp.alloc w (.cells #[(.slice p f.length c), (.slice p' d.length c')] 25)).trans (Kp.alloc (w.alloc (.cells #[(.slice p f.length c), (.slice p' d.length c')] 25)) (.cells #[(.slice q g.length o), (.slice q' e.length o')] 25))
        generalize ((w.alloc (.cells #[(.slice p f.length c), (.slice p' d.length c')] 25)).alloc (.cells #[(.slice q g.length o), (.slice q' e.length o')] 25)) = w1 at *
        have K1 := hide q1
        have A_1 := hide ((unhide A_0).keep q1)
        have D_1 := hide ((unhide D_0).keep q1)
        have B_1 := hide ((unhide B_0).keep q1)
        have E_1 := hide ((unhide E_0).keep q1)
        clear A_0 D_0 B_0 E_0
        clear q1
        generalize w.heap.size + 1 = B_Y at *
        generalize w.heap.size = B_X at *
        obtain ⟨X0_1, X1_1, -, -, X4_1⟩ := (unhide X_1).o
        obtain ⟨Y0_1, Y1_1, -, -, Y4_1⟩ := (unhide Y_1).o
        refine (awake4_any w1).mono ?_
        rintro e w2 ⟨rfl, k2⟩
        have K2 := hide ((unhide K1).trans k2)
        have A_2 := hide ((unhide A_1).keep k2)
        have D_2 := hide ((unhide D_1).keep k2)
        have B_2 := hide ((unhide B_1).keep k2)
        have E_2 := hide ((unhide E_1).keep k2)
        have X_2 := hide ((unhide X_1).keep k2)
        have Y_2 := hide ((unhide Y_1).keep k2)
        clear K1 A_1 D_1 B_1 E_1 X_1 X0_1 X1_1 X4_1 Y_1 Y0_1 Y1_1 Y4_1
        obtain ⟨X0_2, X1_2, -, -, X4_2⟩ := (unhide X_2).o
        obtain ⟨Y0_2, Y1_2, -, -, Y4_2⟩ := (unhide Y_2).o
        clear k2
        go_wp2_with fail
        refine (small_any p p' f.length c d.length c' w2 mf md).mono ?_
        rw [unhide GT]
        rintro e w3 ⟨rfl, k3⟩
        have K3 := hide ((unhide K2).trans k3)
        have A_3 := hide ((unhide A_2).keep k3)
        have D_3 := hide ((unhide D_2).keep k3)
        have B_3 := hide ((unhide B_2).keep k3)
        have E_3 := hide ((unhide E_2).keep k3)
        have X_3 := hide ((unhide X_2).keep k3)
        have Y_3 := hide ((unhide Y_2).keep k3)
        clear K2 A_2 D_2 B_2 E_2 X_2 X0_2 X1_2 X4_2 Y_2 Y0_2 Y1_2 Y4_2
        obtain ⟨X0_3, X1_3, -, -, X4_3⟩ := (unhide X_3).o
        obtain ⟨Y0_3, Y1_3, -, -, Y4_3⟩ := (unhide Y_3).o
        clear k3
        go_wp2_with fail
        refine (small_any q q' g.length o e.length o' w3 mg me).mono ?_
        rw [unhide GU]
        rintro e w4 ⟨rfl, k4⟩
        have K4 := hide ((unhide K3).trans k4)
        have A_4 := hide ((unhide A_3).keep k4)
        have D_4 := hide ((unhide D_3).keep k4)
        have B_4 := hide ((unhide B_3).keep k4)
        have E_4 := hide ((unhide E_3).keep k4)
        have X_4 := hide ((unhide X_3).keep k4)
        have Y_4 := hide ((unhide Y_3).keep k4)
        clear K3 A_3 D_3 B_3 E_3 X_3 X0_3 X1_3 X4_3 Y_3 Y0_3 Y1_3 Y4_3
        obtain ⟨X0_4, X1_4, -, -, X4_4⟩ := (unhide X_4).o
        obtain ⟨Y0_4, Y1_4, -, -, Y4_4⟩ := (unhide Y_4).o
        clear k4
        go_wp2_with fail
        refine (two_add_no _ _ _ _ f g d e w4 (unhide A_4) (unhide D_4) (unhide B_4) (unhide E_4) (unhide HE)).mono ?_
        rintro e w5 ⟨rfl, k5⟩
        have K5 := hide ((unhide K4).trans k5)
        have A_5 := hide ((unhide A_4).keep k5)
        have D_5 := hide ((unhide D_4).keep k5)
        have B_5 := hide ((unhide B_4).keep k5)
        have E_5 := hide ((unhide E_4).keep k5)
        have X_5 := hide ((unhide X_4).keep k5)
        have Y_5 := hide ((unhide Y_4).keep k5)
        clear K4 A_4 D_4 B_4 E_4 X_4 X0_4 X1_4 X4_4 Y_4 Y0_4 Y1_4 Y4_4
        obtain ⟨X0_5, X1_5, -, -, X4_5⟩ := (unhide X_5).o
        obtain ⟨Y0_5, Y1_5, -, -, Y4_5⟩ := (unhide Y_5).o
        clear k5
        generalize twoE f d g e = z at *
        go_upto_region 6 with fail
        have T_6 := hide (Bx.madeAt w5 (.slice none 0 0) (.slice none 0 0) (w5.heap.size) rfl)
        have q6 := Kp.alloc w5 (.cells #[(.slice none 0 0), (.slice none 0 0)] 25)
        generalize (w5.alloc (.cells #[(.slice none 0 0), (.slice none 0 0)] 25)) = w6 at *
        have K6 := hide ((unhide K5).trans q6)
        have A_6 := hide ((unhide A_5).keep q6)
        have D_6 := hide ((unhide D_5).keep q6)
        have B_6 := hide ((unhide B_5).keep q6)
        have E_6 := hide ((unhide E_5).keep q6)
        have X_6 := hide ((unhide X_5).keep q6)
        have Y_6 := hide ((unhide Y_5).keep q6)
        clear K5 A_5 D_5 B_5 E_5 X_5 X0_5 X1_5 X4_5 Y_5 Y0_5 Y1_5 Y4_5
        obtain ⟨X0_6, X1_6, -, -, X4_6⟩ := (unhide X_6).o
        obtain ⟨Y0_6, Y1_6, -, -, Y4_6⟩ := (unhide Y_6).o
        clear q6
        generalize w5.heap.size = B_T at *
        obtain ⟨T0_6, T1_6, -, -, T4_6⟩ := (unhide T_6).o
        go_wp2
        go_ret
        exact ⟨rfl, unhide K6⟩
    · have GU : Hid ((decide (g.length ≤ 40) && decide (e.length ≤ 8192)) = false) := eq_false_of_ne_true gu
      clear gt gu h0 h1 h2 h3
      go_enter Try.func5, Try.ntmps5
      go_wp2_with fail
      have X_1 := hide ((Bx.madeAt w (.slice p f.length c) (.slice p' d.length c') (w.heap.size) rfl).keep (Kp.alloc (w.alloc (.cells #[(.slice p f.length c), (.slice p' d.length c')] 25)) (.cells #[(.slice q g.length o), (.slice q' e.length o')] 25)))
      have Y_1 := hide (Bx.madeAt (w.alloc (.cells #[(.slice p f.length c), (.slice p' d.length c')] 25)) (.slice q g.length o) (.slice q' e.length o') (w.heap.size + 1) (by simp))
      have q1 := (Kp.alloc w (.cells #[(.slice p f.length c), (.slice p' d.length c')] 25)).trans (Kp.alloc (w.alloc (.cells #[(.slice p f.length c), (.slice p' d.length c')] 25)) (.cells #[(.slice q g.length o), (.slice q' e.length o')] 25))
      generalize ((w.alloc (.cells #[(.slice p f.length c), (.slice p' d.length c')] 25)).alloc (.cells #[(.slice q g.length o), (.slice q' e.length o')] 25)) = w1 at *
      have K1 := hide q1
      clear q1
      generalize w.heap.size + 1 = B_Y at *
      generalize w.heap.size = B_X at *
      obtain ⟨X0_1, X1_1, -, -, X4_1⟩ := (unhide X_1).o
      obtain ⟨Y0_1, Y1_1, -, -, Y4_1⟩ := (unhide Y_1).o
      refine (awake4_any w1).mono ?_
      rintro e w2 ⟨rfl, k2⟩
      have K2 := hide ((unhide K1).trans k2)
      have X_2 := hide ((unhide X_1).keep k2)
      have Y_2 := hide ((unhide Y_1).keep k2)
      clear K1 X_1 X0_1 X1_1 X4_1 Y_1 Y0_1 Y1_1 Y4_1
      obtain ⟨X0_2, X1_2, -, -, X4_2⟩ := (unhide X_2).o
      obtain ⟨Y0_2, Y1_2, -, -, Y4_2⟩ := (unhide Y_2).o
      clear k2
      go_wp2_with fail
      refine (small_any p p' f.length c d.length c' w2 mf md).mono ?_
      rw [unhide GT]
      rintro e w3 ⟨rfl, k3⟩
      have K3 := hide ((unhide K2).trans k3)
      have X_3 := hide ((unhide X_2).keep k3)
      have Y_3 := hide ((unhide Y_2).keep k3)
      clear K2 X_2 X0_2 X1_2 X4_2 Y_2 Y0_2 Y1_2 Y4_2
      obtain ⟨X0_3, X1_3, -, -, X4_3⟩ := (unhide X_3).o
      obtain ⟨Y0_3, Y1_3, -, -, Y4_3⟩ := (unhide Y_3).o
      clear k3
      go_wp2_with fail
      refine (small_any q q' g.length o e.length o' w3 mg me).mono ?_
      rw [unhide GU]
      rintro e w4 ⟨rfl, k4⟩
      have K4 := hide ((unhide K3).trans k4)
      have X_4 := hide ((unhide X_3).keep k4)
      have Y_4 := hide ((unhide Y_3).keep k4)
      clear K3 X_3 X0_3 X1_3 X4_3 Y_3 Y0_3 Y1_3 Y4_3
      obtain ⟨X0_4, X1_4, -, -, X4_4⟩ := (unhide X_4).o
      obtain ⟨Y0_4, Y1_4, -, -, Y4_4⟩ := (unhide Y_4).o
      clear k4
      go_wp2
      go_ret
      exact ⟨rfl, unhide K4⟩
  · have GT : Hid ((decide (f.length ≤ 40) && decide (d.length ≤ 8192)) = false) := eq_false_of_ne_true gt
    clear gt h0 h1 h2 h3
    go_enter Try.func5, Try.ntmps5
    go_wp2_with fail
    have X_1 := hide ((Bx.madeAt w (.slice p f.length c) (.slice p' d.length c') (w.heap.size) rfl).keep (Kp.alloc (w.alloc (.cells #[(.slice p f.length c), (.slice p' d.length c')] 25)) (.cells #[(.slice q g.length o), (.slice q' e.length o')] 25)))
    have Y_1 := hide (Bx.madeAt (w.alloc (.cells #[(.slice p f.length c), (.slice p' d.length c')] 25)) (.slice q g.length o) (.slice q' e.length o') (w.heap.size + 1) (by simp))
    have q1 := (Kp.alloc w (.cells #[(.slice p f.length c), (.slice p' d.length c')] 25)).trans (Kp.alloc (w.alloc (.cells #[(.slice p f.length c), (.slice p' d.length c')] 25)) (.cells #[(.slice q g.length o), (.slice q' e.length o')] 25))
    generalize ((w.alloc (.cells #[(.slice p f.length c), (.slice p' d.length c')] 25)).alloc (.cells #[(.slice q g.length o), (.slice q' e.length o')] 25)) = w1 at *
    have K1 := hide q1
    clear q1
    generalize w.heap.size + 1 = B_Y at *
    generalize w.heap.size = B_X at *
    obtain ⟨X0_1, X1_1, -, -, X4_1⟩ := (unhide X_1).o
    obtain ⟨Y0_1, Y1_1, -, -, Y4_1⟩ := (unhide Y_1).o
    refine (awake4_any w1).mono ?_
    rintro e w2 ⟨rfl, k2⟩
    have K2 := hide ((unhide K1).trans k2)
    have X_2 := hide ((unhide X_1).keep k2)
    have Y_2 := hide ((unhide Y_1).keep k2)
    clear K1 X_1 X0_1 X1_1 X4_1 Y_1 Y0_1 Y1_1 Y4_1
    obtain ⟨X0_2, X1_2, -, -, X4_2⟩ := (unhide X_2).o
    obtain ⟨Y0_2, Y1_2, -, -, Y4_2⟩ := (unhide Y_2).o
    clear k2
    go_wp2_with fail
    refine (small_any p p' f.length c d.length c' w2 mf md).mono ?_
    rw [unhide GT]
    rintro e w3 ⟨rfl, k3⟩
    have K3 := hide ((unhide K2).trans k3)
    have X_3 := hide ((unhide X_2).keep k3)
    have Y_3 := hide ((unhide Y_2).keep k3)
    clear K2 X_2 X0_2 X1_2 X4_2 Y_2 Y0_2 Y1_2 Y4_2
    obtain ⟨X0_3, X1_3, -, -, X4_3⟩ := (unhide X_3).o
    obtain ⟨Y0_3, Y1_3, -, -, Y4_3⟩ := (unhide Y_3).o
    clear k3
    go_wp2
    go_ret
    exact ⟨rfl, unhide K3⟩

end Go.Proofs.Ytcegkaemcjlfgaa
