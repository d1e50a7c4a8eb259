
/- The law MatrixRows, walked. -/
import Derived.Test.YtgdmhmnmhfpkkaaMatG
import Derived.Test.YtgdmhmnmhfpkkaaMatL
import Derived.Test.YtgdmhmnmhfpkkaaMatN
import Derived.Test.YtgdmhmnmhfpkkaaMatP
import Derived.BigQuiet
namespace Go.Proofs.Ytgdmhmnmhfpkkaa
open Go.RowKit

set_option maxRecDepth 10000 in
set_option maxHeartbeats 8000000 in
theorem rows_walk (p p' r r' : Option Addr) (c c' o o' : Nat) (f g : List Int) (d e : List Nat) (x0 x1 : Int) (w : World) (mf : f.length ≤ 9223372036854775807) (md : d.length ≤ 9223372036854775807) (mg : g.length ≤ 9223372036854775807) (me : e.length ≤ 9223372036854775807)
    (h0 : f.length ≤ 1000000 → Ints w (.slice p f.length c) f) (h1 : d.length ≤ 1000000 → Flts w (.slice p' d.length c') d) (h2 : g.length ≤ 1000000 → Ints w (.slice r g.length o) g) (h3 : e.length ≤ 1000000 → Flts w (.slice r' e.length o') e) (r0 : Roomy (.slice p' d.length c')) (hx0 : 0 ≤ x0 ∧ x0 ≤ 255) (hx1 : 0 ≤ x1 ∧ x1 ≤ 255) :
    Calls Try.prog 7 #[.agg #[.slice p f.length c, .slice p' d.length c'], .agg #[.slice r g.length o, .slice r' e.length o'], .agg #[.int .u8 x0, .int .u8 x1]] w fun e w' => e = .returned (.bool true) ∧ Kp w w' := by
  have R0 := hide r0
  clear r0
  by_cases gt : (decide (f.length ≤ 40) && decide (d.length ≤ 8192)) = true
  · have GT := hide gt
    simp only [Bool.and_eq_true, decide_eq_true_eq] at gt
    by_cases gu : (decide (g.length ≤ 40) && decide (e.length ≤ 8192)) = true
    · have GU := hide gu
      simp only [Bool.and_eq_true, decide_eq_true_eq] at gu
      have A_0 := hide (h0 (by omega))
      have D_0 := hide (h1 (by omega))
      have B_0 := hide (h2 (by omega))
      have E_0 := hide (h3 (by omega))
      clear h0 h1 h2 h3 gt gu
      cases hm : fitB f d g e
      · have NF := hide (mul_nofit hm)
        clear hm
        go_enter Try.func7, Try.ntmps7
        go_wp2_with fail
        have X_1 := hide (((Bx.madeAt w (.slice p f.length c) (.slice p' d.length c') (w.heap.size) rfl).keep (Kp.alloc (w.alloc (.cells #[(.slice p f.length c), (.slice p' d.length c')] 25)) (.cells #[(.slice r g.length o), (.slice r' e.length o')] 25))).keep (Kp.alloc ((w.alloc (.cells #[(.slice p f.length c), (.slice p' d.length c')] 25)).alloc (.cells #[(.slice r g.length o), (.slice r' e.length o')] 25)) (.cells #[(.int .u8 x0), (.int .u8 x1)] 44)))
        have Y_1 := hide ((Bx.madeAt (w.alloc (.cells #[(.slice p f.length c), (.slice p' d.length c')] 25)) (.slice r g.length o) (.slice r' e.length o') (w.heap.size + 1) (by simp)).keep (Kp.alloc ((w.alloc (.cells #[(.slice p f.length c), (.slice p' d.length c')] 25)).alloc (.cells #[(.slice r g.length o), (.slice r' e.length o')] 25)) (.cells #[(.int .u8 x0), (.int .u8 x1)] 44)))
        have V_1 := hide (Pr.madeAt ((w.alloc (.cells #[(.slice p f.length c), (.slice p' d.length c')] 25)).alloc (.cells #[(.slice r g.length o), (.slice r' e.length o')] 25)) (.int .u8 x0) (.int .u8 x1) 44 (w.heap.size + 2) (by simp))
        have q1 := ((Kp.alloc w (.cells #[(.slice p f.length c), (.slice p' d.length c')] 25)).trans (Kp.alloc (w.alloc (.cells #[(.slice p f.length c), (.slice p' d.length c')] 25)) (.cells #[(.slice r g.length o), (.slice r' e.length o')] 25))).trans (Kp.alloc ((w.alloc (.cells #[(.slice p f.length c), (.slice p' d.length c')] 25)).alloc (.cells #[(.slice r g.length o), (.slice r' e.length o')] 25)) (.cells #[(.int .u8 x0), (.int .u8 x1)] 44))
        generalize (((w.alloc (.cells #[(.slice p f.length c), (.slice p' d.length c')] 25)).alloc (.cells #[(.slice r g.length o), (.slice r' e.length o')] 25)).alloc (.cells #[(.int .u8 x0), (.int .u8 x1)] 44)) = w1 at *
        have K1 := hide q1
        have A_1 := hide ((unhide A_0).keep q1)
        have D_1 := hide ((unhide D_0).keep q1)
        have B_1 := hide ((unhide B_0).keep q1)
        have E_1 := hide ((unhide E_0).keep q1)
        clear A_0 D_0 B_0 E_0
        clear q1
        generalize w.heap.size + 2 = B_V at *
        generalize w.heap.size + 1 = B_Y at *
        generalize w.heap.size = B_X at *
        obtain ⟨X0_1, X1_1, -, -, X4_1⟩ := (unhide X_1).o
        obtain ⟨Y0_1, Y1_1, -, -, Y4_1⟩ := (unhide Y_1).o
        obtain ⟨V0_1, V1_1, -, -, V4_1⟩ := (unhide V_1).o
        refine (awake5_any w1).mono ?_
        rintro e w2 ⟨rfl, k2⟩
        have K2 := hide ((unhide K1).trans k2)
        have A_2 := hide ((unhide A_1).keep k2)
        have D_2 := hide ((unhide D_1).keep k2)
        have B_2 := hide ((unhide B_1).keep k2)
        have E_2 := hide ((unhide E_1).keep k2)
        have X_2 := hide ((unhide X_1).keep k2)
        have Y_2 := hide ((unhide Y_1).keep k2)
        have V_2 := hide ((unhide V_1).keep k2)
        clear K1 A_1 D_1 B_1 E_1 X_1 X0_1 X1_1 X4_1 Y_1 Y0_1 Y1_1 Y4_1 V_1 V0_1 V1_1 V4_1
        obtain ⟨X0_2, X1_2, -, -, X4_2⟩ := (unhide X_2).o
        obtain ⟨Y0_2, Y1_2, -, -, Y4_2⟩ := (unhide Y_2).o
        obtain ⟨V0_2, V1_2, -, -, V4_2⟩ := (unhide V_2).o
        clear k2
        go_wp2_with fail
        refine (small_any p p' f.length c d.length c' w2 mf md).mono ?_
        rw [unhide GT]
        rintro e w3 ⟨rfl, k3⟩
        have K3 := hide ((unhide K2).trans k3)
        have A_3 := hide ((unhide A_2).keep k3)
        have D_3 := hide ((unhide D_2).keep k3)
        have B_3 := hide ((unhide B_2).keep k3)
        have E_3 := hide ((unhide E_2).keep k3)
        have X_3 := hide ((unhide X_2).keep k3)
        have Y_3 := hide ((unhide Y_2).keep k3)
        have V_3 := hide ((unhide V_2).keep k3)
        clear K2 A_2 D_2 B_2 E_2 X_2 X0_2 X1_2 X4_2 Y_2 Y0_2 Y1_2 Y4_2 V_2 V0_2 V1_2 V4_2
        obtain ⟨X0_3, X1_3, -, -, X4_3⟩ := (unhide X_3).o
        obtain ⟨Y0_3, Y1_3, -, -, Y4_3⟩ := (unhide Y_3).o
        obtain ⟨V0_3, V1_3, -, -, V4_3⟩ := (unhide V_3).o
        clear k3
        go_wp2_with fail
        refine (small_any r r' g.length o e.length o' w3 mg me).mono ?_
        rw [unhide GU]
        rintro e w4 ⟨rfl, k4⟩
        have K4 := hide ((unhide K3).trans k4)
        have A_4 := hide ((unhide A_3).keep k4)
        have D_4 := hide ((unhide D_3).keep k4)
        have B_4 := hide ((unhide B_3).keep k4)
        have E_4 := hide ((unhide E_3).keep k4)
        have X_4 := hide ((unhide X_3).keep k4)
        have Y_4 := hide ((unhide Y_3).keep k4)
        have V_4 := hide ((unhide V_3).keep k4)
        clear K3 A_3 D_3 B_3 E_3 X_3 X0_3 X1_3 X4_3 Y_3 Y0_3 Y1_3 Y4_3 V_3 V0_3 V1_3 V4_3
        obtain ⟨X0_4, X1_4, -, -, X4_4⟩ := (unhide X_4).o
        obtain ⟨Y0_4, Y1_4, -, -, Y4_4⟩ := (unhide Y_4).o
        obtain ⟨V0_4, V1_4, -, -, V4_4⟩ := (unhide V_4).o
        clear k4
        go_wp2_with fail
        refine (mul_all _ _ _ _ f g d e w4 (unhide A_4) (unhide D_4) (unhide R0) (unhide B_4) (unhide E_4)).mono ?_
        rw [(unhide NF).1, (unhide NF).2.1, (unhide NF).2.2]
        rintro e w5 ⟨lz, ⟨az, cz, bz, dz, rfl, sz, fz, uz, vz⟩, hz, k5⟩
        have K5 := hide ((unhide K4).trans k5)
        have A_5 := hide ((unhide A_4).keep k5)
        have D_5 := hide ((unhide D_4).keep k5)
        have B_5 := hide ((unhide B_4).keep k5)
        have E_5 := hide ((unhide E_4).keep k5)
        have X_5 := hide ((unhide X_4).keep k5)
        have Y_5 := hide ((unhide Y_4).keep k5)
        have V_5 := hide ((unhide V_4).keep k5)
        clear K4 A_4 D_4 B_4 E_4 X_4 X0_4 X1_4 X4_4 Y_4 Y0_4 Y1_4 Y4_4 V_4 V0_4 V1_4 V4_4
        obtain ⟨X0_5, X1_5, -, -, X4_5⟩ := (unhide X_5).o
        obtain ⟨Y0_5, Y1_5, -, -, Y4_5⟩ := (unhide Y_5).o
        obtain ⟨V0_5, V1_5, -, -, V4_5⟩ := (unhide V_5).o
        clear k5
        clear sz fz uz vz hz
        go_upto_region 6 with fail
        have Bz_6 := hide (Bx.madeAt w5 (.slice az 0 cz) (.slice bz lz.length dz) (w5.heap.size) rfl)
        have q6 := Kp.alloc w5 (.cells #[(.slice az 0 cz), (.slice bz lz.length dz)] 25)
        generalize (w5.alloc (.cells #[(.slice az 0 cz), (.slice bz lz.length dz)] 25)) = w6 at *
        have K6 := hide ((unhide K5).trans q6)
        have A_6 := hide ((unhide A_5).keep q6)
        have D_6 := hide ((unhide D_5).keep q6)
        have B_6 := hide ((unhide B_5).keep q6)
        have E_6 := hide ((unhide E_5).keep q6)
        have X_6 := hide ((unhide X_5).keep q6)
        have Y_6 := hide ((unhide Y_5).keep q6)
        have V_6 := hide ((unhide V_5).keep q6)
        clear K5 A_5 D_5 B_5 E_5 X_5 X0_5 X1_5 X4_5 Y_5 Y0_5 Y1_5 Y4_5 V_5 V0_5 V1_5 V4_5
        obtain ⟨X0_6, X1_6, -, -, X4_6⟩ := (unhide X_6).o
        obtain ⟨Y0_6, Y1_6, -, -, Y4_6⟩ := (unhide Y_6).o
        obtain ⟨V0_6, V1_6, -, -, V4_6⟩ := (unhide V_6).o
        clear q6
        generalize w5.heap.size = B_Bz at *
        obtain ⟨Bz0_6, Bz1_6, -, -, Bz4_6⟩ := (unhide Bz_6).o
        go_wp2
        go_ret
        exact ⟨rfl, unhide K6⟩
      · obtain ⟨p9, m, n, rfl, rfl, p1, m1, n1, dl, dm, el, em⟩ := fit_of hm
        obtain ⟨bs, os, c0, ec, hbs, hs0, hs1⟩ := (unhide A_0).two
        injection ec with ec1 ec2 ec3
        subst ec1 ec3
        obtain ⟨bt, ot, c0, ec, hbt, -, hs3⟩ := (unhide B_0).two
        injection ec with ec1 ec2 ec3
        subst ec1 ec3
        obtain ⟨b, off, rfl, hb, -⟩ := flts_at' (unhide D_0) (by rw [dl]; have := Nat.mul_le_mul p1 m1; omega)
        obtain ⟨b2, off2, rfl, hb2, hc2⟩ := flts_at' (unhide E_0) (by rw [el]; have := Nat.mul_le_mul m1 n1; omega)
        have pm : p9 ≤ 4096 := le_mul_l m1 dm
        have mm : m ≤ 4096 := le_mul_r p1 dm
        have nm : n ≤ 4096 := le_mul_r m1 em
        change Calls Try.prog _ #[.agg #[.slice (some ⟨bs, os, none⟩) 2 c, _], .agg #[.slice (some ⟨bt, ot, none⟩) 2 o, _], _] _ _
        have HSA : Hid (∀ w', Kp w w' → w'.cell? ⟨bs, os, none⟩ = some (.int .i64 (p9 : Int)) ∧ w'.cell? ⟨bs, os + 1, none⟩ = some (.int .i64 (m : Int)) ∧ w'.cell? ⟨bt, ot + 1, none⟩ = some (.int .i64 (n : Int))) := fun w' k => ⟨(Below.cell k (p := ⟨bs, os, none⟩) hbs).trans hs0, (Below.cell k (p := ⟨bs, os + 1, none⟩) hbs).trans hs1, (Below.cell k (p := ⟨bt, ot + 1, none⟩) hbt).trans hs3⟩
        have HEC : Hid (∀ w', Kp w w' → ∀ i, i < e.length → w'.cell? ⟨b2, off2 + i, none⟩ = some (.float .f64 (e.getD i 0))) := fun w' k i hi => (Below.cell k (p := ⟨b2, off2 + i, none⟩) hb2).trans (hc2 i hi)
        have HB2 : Hid (∀ w', Kp w w' → b2 < w'.heap.size) := fun w' k => Nat.lt_of_lt_of_le hb2 k.size
        have WE := hide (unhide E_0).wf
        have DL := hide dl
        have DM := hide dm
        have EL := hide el
        have EM := hide em
        have hdl : d.length ≤ 4096 := by omega
        have hel : e.length ≤ 4096 := by omega
        clear hbs hs0 hs1 hbt hs3 hb hb2 hc2
        by_cases hs : p9 * n ≤ 4096
        · have E1 := hide (mul_yes hm p1 n1 hs)
          have HPN := hide hs
          obtain ⟨i, hrm0⟩ : ∃ i : Nat, x0 % (p9 : Int) = (i : Int) := ⟨(x0 % (p9 : Int)).toNat, by have := Int.emod_nonneg x0 (b := (p9 : Int)) (by omega); omega⟩
          obtain ⟨k, hrm1⟩ : ∃ k : Nat, x1 % (n : Int) = (k : Int) := ⟨(x1 % (n : Int)).toNat, by have := Int.emod_nonneg x1 (b := (n : Int)) (by omega); omega⟩
          have hip : i < p9 := by have := Int.emod_lt_of_pos x0 (b := (p9 : Int)) (by omega); omega
          have hkn : k < n := by have := Int.emod_lt_of_pos x1 (b := (n : Int)) (by omega); omega
          have hrm2 : x0.tmod (p9 : Int) = (i : Int) := by rw [Int.tmod_eq_emod_of_nonneg hx0.1]; exact hrm0
          have hrm3 : x1.tmod (n : Int) = (k : Int) := by rw [Int.tmod_eq_emod_of_nonneg hx1.1]; exact hrm1
          have hp0 : ¬ (p9 : Int) = 0 := by omega
          have hp0n : ¬ p9 = 0 := by omega
          have hn0 : ¬ (n : Int) = 0 := by omega
          have hn0n : ¬ n = 0 := by omega
          have HIM : Hid (i * m + m ≤ d.length) := by
            have h1 : (i + 1) * m ≤ p9 * m := Nat.mul_le_mul_right m hip
            rw [Nat.add_mul, Nat.one_mul] at h1
            unfold Hid
            omega
          have hcap := (unhide R0) _ _ _ rfl
          have him : i * m + m ≤ d.length := unhide HIM
          have RR : Hid (Roomy (.slice (some ⟨b, off + i * m, none⟩) m (c' - i * m))) := roomy _ _ _ (by omega) (by omega)
          have i0 : (i : Int) * (m : Int) = ((i * m : Nat) : Int) := by simp
          have i1 : 0 ≤ (i : Int) * (m : Int) := by rw [i0]; omega
          have i2 : (i : Int) * (m : Int) ≤ 4096 := by rw [i0]; omega
          have j1 : 0 ≤ (i : Int) * (m : Int) + (m : Int) := by omega
          have j2 : (i : Int) * (m : Int) + (m : Int) ≤ 4096 := by rw [i0]; omega
          have ij : (i : Int) * (m : Int) ≤ (i : Int) * (m : Int) + (m : Int) := by omega
          have jN : (i : Int) * (m : Int) + (m : Int) ≤ (c' : Int) := by rw [i0]; omega
          have hne : ¬ c' = i * m := by omega
          clear hm hs dl dm el em i0 him
          go_enter Try.func7, Try.ntmps7
          go_wp2_with fail
          have X_1 := hide (((Bx.madeAt w (.slice (some ⟨bs, os, none⟩) 2 c) (.slice (some ⟨b, off, none⟩) d.length c') (w.heap.size) rfl).keep (Kp.alloc (w.alloc (.cells #[(.slice (some ⟨bs, os, none⟩) 2 c), (.slice (some ⟨b, off, none⟩) d.length c')] 25)) (.cells #[(.slice (some ⟨bt, ot, none⟩) 2 o), (.slice (some ⟨b2, off2, none⟩) e.length o')] 25))).keep (Kp.alloc ((w.alloc (.cells #[(.slice (some ⟨bs, os, none⟩) 2 c), (.slice (some ⟨b, off, none⟩) d.length c')] 25)).alloc (.cells #[(.slice (some ⟨bt, ot, none⟩) 2 o), (.slice (some ⟨b2, off2, none⟩) e.length o')] 25)) (.cells #[(.int .u8 x0), (.int .u8 x1)] 44)))
          have Y_1 := hide ((Bx.madeAt (w.alloc (.cells #[(.slice (some ⟨bs, os, none⟩) 2 c), (.slice (some ⟨b, off, none⟩) d.length c')] 25)) (.slice (some ⟨bt, ot, none⟩) 2 o) (.slice (some ⟨b2, off2, none⟩) e.length o') (w.heap.size + 1) (by simp)).keep (Kp.alloc ((w.alloc (.cells #[(.slice (some ⟨bs, os, none⟩) 2 c), (.slice (some ⟨b, off, none⟩) d.length c')] 25)).alloc (.cells #[(.slice (some ⟨bt, ot, none⟩) 2 o), (.slice (some ⟨b2, off2, none⟩) e.length o')] 25)) (.cells #[(.int .u8 x0), (.int .u8 x1)] 44)))
          have V_1 := hide (Pr.madeAt ((w.alloc (.cells #[(.slice (some ⟨bs, os, none⟩) 2 c), (.slice (some ⟨b, off, none⟩) d.length c')] 25)).alloc (.cells #[(.slice (some ⟨bt, ot, none⟩) 2 o), (.slice (some ⟨b2, off2, none⟩) e.length o')] 25)) (.int .u8 x0) (.int .u8 x1) 44 (w.heap.size + 2) (by simp))
          have q1 := ((Kp.alloc w (.cells #[(.slice (some ⟨bs, os, none⟩) 2 c), (.slice (some ⟨b, off, none⟩) d.length c')] 25)).trans (Kp.alloc (w.alloc (.cells #[(.slice (some ⟨bs, os, none⟩) 2 c), (.slice (some ⟨b, off, none⟩) d.length c')] 25)) (.cells #[(.slice (some ⟨bt, ot, none⟩) 2 o), (.slice (some ⟨b2, off2, none⟩) e.length o')] 25))).trans (Kp.alloc ((w.alloc (.cells #[(.slice (some ⟨bs, os, none⟩) 2 c), (.slice (some ⟨b, off, none⟩) d.length c')] 25)).alloc (.cells #[(.slice (some ⟨bt, ot, none⟩) 2 o), (.slice (some ⟨b2, off2, none⟩) e.length o')] 25)) (.cells #[(.int .u8 x0), (.int .u8 x1)] 44))
          generalize (((w.alloc (.cells #[(.slice (some ⟨bs, os, none⟩) 2 c), (.slice (some ⟨b, off, none⟩) d.length c')] 25)).alloc (.cells #[(.slice (some ⟨bt, ot, none⟩) 2 o), (.slice (some ⟨b2, off2, none⟩) e.length o')] 25)).alloc (.cells #[(.int .u8 x0), (.int .u8 x1)] 44)) = w1 at *
          have K1 := hide q1
          have A_1 := hide ((unhide A_0).keep q1)
          have D_1 := hide ((unhide D_0).keep q1)
          have B_1 := hide ((unhide B_0).keep q1)
          have E_1 := hide ((unhide E_0).keep q1)
          clear A_0 D_0 B_0 E_0
          clear q1
          generalize w.heap.size + 2 = B_V at *
          generalize w.heap.size + 1 = B_Y at *
          generalize w.heap.size = B_X at *
          obtain ⟨X0_1, X1_1, -, -, X4_1⟩ := (unhide X_1).o
          obtain ⟨Y0_1, Y1_1, -, -, Y4_1⟩ := (unhide Y_1).o
          obtain ⟨V0_1, V1_1, -, -, V4_1⟩ := (unhide V_1).o
          refine (awake5_any w1).mono ?_
          rintro e w2 ⟨rfl, k2⟩
          have K2 := hide ((unhide K1).trans k2)
          have A_2 := hide ((unhide A_1).keep k2)
          have D_2 := hide ((unhide D_1).keep k2)
          have B_2 := hide ((unhide B_1).keep k2)
          have E_2 := hide ((unhide E_1).keep k2)
          have X_2 := hide ((unhide X_1).keep k2)
          have Y_2 := hide ((unhide Y_1).keep k2)
          have V_2 := hide ((unhide V_1).keep k2)
          clear K1 A_1 D_1 B_1 E_1 X_1 X0_1 X1_1 X4_1 Y_1 Y0_1 Y1_1 Y4_1 V_1 V0_1 V1_1 V4_1
          obtain ⟨X0_2, X1_2, -, -, X4_2⟩ := (unhide X_2).o
          obtain ⟨Y0_2, Y1_2, -, -, Y4_2⟩ := (unhide Y_2).o
          obtain ⟨V0_2, V1_2, -, -, V4_2⟩ := (unhide V_2).o
          clear k2
          go_wp2_with fail
          refine (small_any _ _ _ c _ c' w2 mf md).mono ?_
          rw [unhide GT]
          rintro e w3 ⟨rfl, k3⟩
          have K3 := hide ((unhide K2).trans k3)
          have A_3 := hide ((unhide A_2).keep k3)
          have D_3 := hide ((unhide D_2).keep k3)
          have B_3 := hide ((unhide B_2).keep k3)
          have E_3 := hide ((unhide E_2).keep k3)
          have X_3 := hide ((unhide X_2).keep k3)
          have Y_3 := hide ((unhide Y_2).keep k3)
          have V_3 := hide ((unhide V_2).keep k3)
          clear K2 A_2 D_2 B_2 E_2 X_2 X0_2 X1_2 X4_2 Y_2 Y0_2 Y1_2 Y4_2 V_2 V0_2 V1_2 V4_2
          obtain ⟨X0_3, X1_3, -, -, X4_3⟩ := (unhide X_3).o
          obtain ⟨Y0_3, Y1_3, -, -, Y4_3⟩ := (unhide Y_3).o
          obtain ⟨V0_3, V1_3, -, -, V4_3⟩ := (unhide V_3).o
          clear k3
          go_wp2_with fail
          refine (small_any _ _ _ o _ o' w3 mg me).mono ?_
          rw [unhide GU]
          rintro e w4 ⟨rfl, k4⟩
          have K4 := hide ((unhide K3).trans k4)
          have A_4 := hide ((unhide A_3).keep k4)
          have D_4 := hide ((unhide D_3).keep k4)
          have B_4 := hide ((unhide B_3).keep k4)
          have E_4 := hide ((unhide E_3).keep k4)
          have X_4 := hide ((unhide X_3).keep k4)
          have Y_4 := hide ((unhide Y_3).keep k4)
          have V_4 := hide ((unhide V_3).keep k4)
          clear K3 A_3 D_3 B_3 E_3 X_3 X0_3 X1_3 X4_3 Y_3 Y0_3 Y1_3 Y4_3 V_3 V0_3 V1_3 V4_3
          obtain ⟨X0_4, X1_4, -, -, X4_4⟩ := (unhide X_4).o
          obtain ⟨Y0_4, Y1_4, -, -, Y4_4⟩ := (unhide Y_4).o
          obtain ⟨V0_4, V1_4, -, -, V4_4⟩ := (unhide V_4).o
          clear k4
          go_wp2_with fail
          refine (mul_all _ _ _ _ [(p9 : Int), (m : Int)] [(m : Int), (n : Int)] d e w4 (unhide A_4) (unhide D_4) (unhide R0) (unhide B_4) (unhide E_4)).mono ?_
          rw [(unhide E1).1, (unhide E1).2.1, (unhide E1).2.2]
          rintro e w5 ⟨lz, ⟨az, cz, bz, dz, rfl, sz, fz, uz, vz⟩, hz, k5⟩
          have K5 := hide ((unhide K4).trans k5)
          have A_5 := hide ((unhide A_4).keep k5)
          have D_5 := hide ((unhide D_4).keep k5)
          have B_5 := hide ((unhide B_4).keep k5)
          have E_5 := hide ((unhide E_4).keep k5)
          have X_5 := hide ((unhide X_4).keep k5)
          have Y_5 := hide ((unhide Y_4).keep k5)
          have V_5 := hide ((unhide V_4).keep k5)
          clear K4 A_4 D_4 B_4 E_4 X_4 X0_4 X1_4 X4_4 Y_4 Y0_4 Y1_4 Y4_4 V_4 V0_4 V1_4 V4_4
          obtain ⟨X0_5, X1_5, -, -, X4_5⟩ := (unhide X_5).o
          obtain ⟨Y0_5, Y1_5, -, -, Y4_5⟩ := (unhide Y_5).o
          obtain ⟨V0_5, V1_5, -, -, V4_5⟩ := (unhide V_5).o
          clear k5
          have Hz := hide hz
          clear hz
          have Rz : Hid (Roomy (.slice bz lz.length dz)) := roomy _ _ _ uz vz
          clear uz vz
          have Sz_5 := hide sz
          have Dz_5 := hide fz
          clear sz fz
          go_upto_region 6 with fail
          have Bz_6 := hide (Bx.madeAt w5 (.slice az 2 cz) (.slice bz lz.length dz) (w5.heap.size) rfl)
          have q6 := Kp.alloc w5 (.cells #[(.slice az 2 cz), (.slice bz lz.length dz)] 25)
          generalize (w5.alloc (.cells #[(.slice az 2 cz), (.slice bz lz.length dz)] 25)) = w6 at *
          have K6 := hide ((unhide K5).trans q6)
          have A_6 := hide ((unhide A_5).keep q6)
          have D_6 := hide ((unhide D_5).keep q6)
          have B_6 := hide ((unhide B_5).keep q6)
          have E_6 := hide ((unhide E_5).keep q6)
          have Sz_6 := hide ((unhide Sz_5).keep q6)
          have Dz_6 := hide ((unhide Dz_5).keep q6)
          have X_6 := hide ((unhide X_5).keep q6)
          have Y_6 := hide ((unhide Y_5).keep q6)
          have V_6 := hide ((unhide V_5).keep q6)
          clear K5 A_5 D_5 B_5 E_5 Sz_5 Dz_5 X_5 X0_5 X1_5 X4_5 Y_5 Y0_5 Y1_5 Y4_5 V_5 V0_5 V1_5 V4_5
          obtain ⟨X0_6, X1_6, -, -, X4_6⟩ := (unhide X_6).o
          obtain ⟨Y0_6, Y1_6, -, -, Y4_6⟩ := (unhide Y_6).o
          obtain ⟨V0_6, V1_6, -, -, V4_6⟩ := (unhide V_6).o
          clear q6
          generalize w5.heap.size = B_Bz at *
          obtain ⟨Bz0_6, Bz1_6, -, -, Bz4_6⟩ := (unhide Bz_6).o
          obtain ⟨s0, s1, s3⟩ := unhide HSA _ (unhide K6)
          go_upto_region 8 with fail
          go_quiet (fail)
          clear s0 s1 s3
          have q7 := Kp.drewN w6 nq
          generalize w6.drewN nq = w7 at *
          have K7 := hide ((unhide K6).trans q7)
          have A_7 := hide ((unhide A_6).keep q7)
          have D_7 := hide ((unhide D_6).keep q7)
          have B_7 := hide ((unhide B_6).keep q7)
          have E_7 := hide ((unhide E_6).keep q7)
          have Sz_7 := hide ((unhide Sz_6).keep q7)
          have Dz_7 := hide ((unhide Dz_6).keep q7)
          have X_7 := hide ((unhide X_6).keep q7)
          have Y_7 := hide ((unhide Y_6).keep q7)
          have V_7 := hide ((unhide V_6).keep q7)
          have Bz_7 := hide ((unhide Bz_6).keep q7)
          clear K6 A_6 D_6 B_6 E_6 Sz_6 Dz_6 X_6 X0_6 X1_6 X4_6 Y_6 Y0_6 Y1_6 Y4_6 V_6 V0_6 V1_6 V4_6 Bz_6 Bz0_6 Bz1_6 Bz4_6
          obtain ⟨X0_7, X1_7, -, -, X4_7⟩ := (unhide X_7).o
          obtain ⟨Y0_7, Y1_7, -, -, Y4_7⟩ := (unhide Y_7).o
          obtain ⟨V0_7, V1_7, -, -, V4_7⟩ := (unhide V_7).o
          obtain ⟨Bz0_7, Bz1_7, -, -, Bz4_7⟩ := (unhide Bz_7).o
          clear q7
          obtain ⟨s0, s1, s3⟩ := unhide HSA _ (unhide K7)
          go_upto_region 9 with fail
          go_quiet (fail)
          clear s0 s1 s3
          have q8 := Kp.drewN w7 nq
          generalize w7.drewN nq = w8 at *
          have K8 := hide ((unhide K7).trans q8)
          have A_8 := hide ((unhide A_7).keep q8)
          have D_8 := hide ((unhide D_7).keep q8)
          have B_8 := hide ((unhide B_7).keep q8)
          have E_8 := hide ((unhide E_7).keep q8)
          have Sz_8 := hide ((unhide Sz_7).keep q8)
          have Dz_8 := hide ((unhide Dz_7).keep q8)
          have X_8 := hide ((unhide X_7).keep q8)
          have Y_8 := hide ((unhide Y_7).keep q8)
          have V_8 := hide ((unhide V_7).keep q8)
          have Bz_8 := hide ((unhide Bz_7).keep q8)
          clear K7 A_7 D_7 B_7 E_7 Sz_7 Dz_7 X_7 X0_7 X1_7 X4_7 Y_7 Y0_7 Y1_7 Y4_7 V_7 V0_7 V1_7 V4_7 Bz_7 Bz0_7 Bz1_7 Bz4_7
          obtain ⟨X0_8, X1_8, -, -, X4_8⟩ := (unhide X_8).o
          obtain ⟨Y0_8, Y1_8, -, -, Y4_8⟩ := (unhide Y_8).o
          obtain ⟨V0_8, V1_8, -, -, V4_8⟩ := (unhide V_8).o
          obtain ⟨Bz0_8, Bz1_8, -, -, Bz4_8⟩ := (unhide Bz_8).o
          clear q8
          clear hrm0 hrm1 hrm2 hrm3
          go_upto_region 11 with fail
          rw [show i * m + m - i * m = m by omega]
          have N1_9 := hide ((lit_ints w8 3 [1, (m : Int)] #[.int .i64 1, .int .i64 (m : Int)] (w8.heap.size) 2 rfl rfl rfl (i64_two (p := 1) (by decide) mm) (by decide)).keep (Kp.alloc (w8.alloc (.cells #[.int .i64 1, .int .i64 (m : Int)] 3)) (.cells #[(.slice (some ⟨w8.heap.size, 0, none⟩) 2 2), (.slice (some ⟨b, off + i * m, none⟩) m (c' - i * m))] 25)))
          have R_9 := hide (Bx.madeAt (w8.alloc (.cells #[.int .i64 1, .int .i64 (m : Int)] 3)) (.slice (some ⟨w8.heap.size, 0, none⟩) 2 2) (.slice (some ⟨b, off + i * m, none⟩) m (c' - i * m)) (w8.heap.size + 1) (by simp))
          have q9 := (Kp.alloc w8 (.cells #[.int .i64 1, .int .i64 (m : Int)] 3)).trans (Kp.alloc (w8.alloc (.cells #[.int .i64 1, .int .i64 (m : Int)] 3)) (.cells #[(.slice (some ⟨w8.heap.size, 0, none⟩) 2 2), (.slice (some ⟨b, off + i * m, none⟩) m (c' - i * m))] 25))
          generalize ((w8.alloc (.cells #[.int .i64 1, .int .i64 (m : Int)] 3)).alloc (.cells #[(.slice (some ⟨w8.heap.size, 0, none⟩) 2 2), (.slice (some ⟨b, off + i * m, none⟩) m (c' - i * m))] 25)) = w9 at *
          have K9 := hide ((unhide K8).trans q9)
          have A_9 := hide ((unhide A_8).keep q9)
          have D_9 := hide ((unhide D_8).keep q9)
          have B_9 := hide ((unhide B_8).keep q9)
          have E_9 := hide ((unhide E_8).keep q9)
          have Sz_9 := hide ((unhide Sz_8).keep q9)
          have Dz_9 := hide ((unhide Dz_8).keep q9)
          have X_9 := hide ((unhide X_8).keep q9)
          have Y_9 := hide ((unhide Y_8).keep q9)
          have V_9 := hide ((unhide V_8).keep q9)
          have Bz_9 := hide ((unhide Bz_8).keep q9)
          clear K8 A_8 D_8 B_8 E_8 Sz_8 Dz_8 X_8 X0_8 X1_8 X4_8 Y_8 Y0_8 Y1_8 Y4_8 V_8 V0_8 V1_8 V4_8 Bz_8 Bz0_8 Bz1_8 Bz4_8
          obtain ⟨X0_9, X1_9, -, -, X4_9⟩ := (unhide X_9).o
          obtain ⟨Y0_9, Y1_9, -, -, Y4_9⟩ := (unhide Y_9).o
          obtain ⟨V0_9, V1_9, -, -, V4_9⟩ := (unhide V_9).o
          obtain ⟨Bz0_9, Bz1_9, -, -, Bz4_9⟩ := (unhide Bz_9).o
          clear q9
          generalize w8.heap.size + 1 = B_R at *
          generalize w8.heap.size = B_N1 at *
          obtain ⟨R0_9, R1_9, -, -, R4_9⟩ := (unhide R_9).o
          have DR_9 : Hid (Flts w9 (.slice (some ⟨b, off + i * m, none⟩) m (c' - i * m)) ((d.drop (i * m)).take m)) := (unhide D_9).sub (unhide HIM) _
          go_upto_region 12 with fail
          have hsz : w9.heap.size + 1 = (w9.alloc (.cells #[.int .i64 (m : Int), .int .i64 1] 3)).heap.size := by simp
          rw [hsz]
          clear hsz
          have N2_10 := hide (lit_ints w9 3 [(m : Int), 1] #[.int .i64 (m : Int), .int .i64 1] (w9.heap.size) 2 rfl rfl rfl (i64_two (n := 1) mm (by decide)) (by decide))
          have q10 := Kp.alloc w9 (.cells #[.int .i64 (m : Int), .int .i64 1] 3)
          generalize (w9.alloc (.cells #[.int .i64 (m : Int), .int .i64 1] 3)) = w10 at *
          have K10 := hide ((unhide K9).trans q10)
          have A_10 := hide ((unhide A_9).keep q10)
          have D_10 := hide ((unhide D_9).keep q10)
          have B_10 := hide ((unhide B_9).keep q10)
          have E_10 := hide ((unhide E_9).keep q10)
          have Sz_10 := hide ((unhide Sz_9).keep q10)
          have Dz_10 := hide ((unhide Dz_9).keep q10)
          have N1_10 := hide ((unhide N1_9).keep q10)
          have DR_10 := hide ((unhide DR_9).keep q10)
          have X_10 := hide ((unhide X_9).keep q10)
          have Y_10 := hide ((unhide Y_9).keep q10)
          have V_10 := hide ((unhide V_9).keep q10)
          have Bz_10 := hide ((unhide Bz_9).keep q10)
          have R_10 := hide ((unhide R_9).keep q10)
          clear K9 A_9 D_9 B_9 E_9 Sz_9 Dz_9 N1_9 DR_9 X_9 X0_9 X1_9 X4_9 Y_9 Y0_9 Y1_9 Y4_9 V_9 V0_9 V1_9 V4_9 Bz_9 Bz0_9 Bz1_9 Bz4_9 R_9 R0_9 R1_9 R4_9
          obtain ⟨X0_10, X1_10, -, -, X4_10⟩ := (unhide X_10).o
          obtain ⟨Y0_10, Y1_10, -, -, Y4_10⟩ := (unhide Y_10).o
          obtain ⟨V0_10, V1_10, -, -, V4_10⟩ := (unhide V_10).o
          obtain ⟨Bz0_10, Bz1_10, -, -, Bz4_10⟩ := (unhide Bz_10).o
          obtain ⟨R0_10, R1_10, -, -, R4_10⟩ := (unhide R_10).o
          clear q10
          generalize w9.heap.size = B_N2 at *
          have XB := hide (Bx.made w10 (.slice (some ⟨B_N2, 0, none⟩) 2 2) (.slice none 0 0))
          have KB := hide (Kp.alloc w10 (.cells #[.slice (some ⟨B_N2, 0, none⟩) 2 2, .slice none 0 0] 25))
          generalize w10.alloc (.cells #[.slice (some ⟨B_N2, 0, none⟩) 2 2, .slice none 0 0] 25) = w20 at *
          generalize hL : w10.heap.size = C at XB ⊢
          have HL : Hid (w10.heap.size ≤ C) := Nat.le_of_eq hL
          clear hL X0_10 X1_10 X4_10 Y0_10 Y1_10 Y4_10 V0_10 V1_10 V4_10 Bz0_10 Bz1_10 Bz4_10 R0_10 R1_10 R4_10
          go_wp2
          go_loopw [15] (fun t wr => ∃ (j : Nat) (v : Value), j ≤ m ∧ t = .int .i64 j ∧ Hid (Bx wr C (.slice (some ⟨B_N2, 0, none⟩) 2 2) v) ∧ Hid (OwnF wr 42 w10.heap.size v ((List.range j).map (fun q => e.getD (q * n + k) 0))) ∧ Hid (Kp w10 wr)) (fun t _ => m - (intOf t).toNat)
          case atStart => exact ⟨0, _, Nat.zero_le _, rfl, unhide XB, OwnF.nil _ _ _, unhide KB⟩
          case round =>
            obtain ⟨j, v, hj, rfl, XI, OI, KI⟩ := hrel
            generalize wr = w60 at *
            obtain ⟨av, nv, cv, rfl⟩ := (unhide OI).sl
            by_cases hlt : j < m
            · have hltI : (j : Int) < (m : Int) := by omega
              have q2 : j * n + k < e.length := by rw [unhide EL]; exact inrow hlt hkn
              have hck := unhide HEC w60 ((unhide K10).trans (unhide KI)) (j * n + k) q2
              have WX : Hid (W64 (e.getD (j * n + k) 0)) := getD_w64 (unhide WE) _
              have i0 : (j : Int) * (n : Int) = ((j * n : Nat) : Int) := by simp
              have i1 : 0 ≤ (j : Int) * (n : Int) := by rw [i0]; omega
              have i2 : (j : Int) * (n : Int) ≤ 4096 := by rw [i0]; omega
              have hi1 : 0 ≤ (j : Int) * (n : Int) + (k : Int) := by omega
              have hi2 : (j : Int) * (n : Int) + (k : Int) < (e.length : Int) := by rw [i0]; omega
              have hi3 : ((j : Int) * (n : Int) + (k : Int)).toNat = j * n + k := by rw [i0]; omega
              have hw1 : IntKind.i64.wrap ((j : Int) * (n : Int)) = (j : Int) * (n : Int) := wrap_64 i1 (by omega)
              have hw2 : IntKind.i64.wrap ((j : Int) * (n : Int) + (k : Int)) = (j : Int) * (n : Int) + (k : Int) := wrap_64 hi1 (by omega)
              obtain ⟨p0, p1, p2, p3, p4⟩ := (unhide XI).o
              obtain ⟨y0, y1, -, -, y4⟩ := ((unhide Y_10).keep (unhide KI)).o
              have b4 : b2 < w60.heap.size := unhide HB2 w60 ((unhide K10).trans (unhide KI))
              have ET : Hid ((List.range (j + 1)).map (fun q => e.getD (q * n + k) 0) = (List.range j).map (fun q => e.getD (q * n + k) 0) ++ [e.getD (j * n + k) 0]) := map_range_snoc j
              have LN : Hid (((List.range j).map (fun q => e.getD (q * n + k) 0)).length + 1 ≤ 1000000) := by unfold Hid; rw [List.length_map, List.length_range]; omega
              generalize e.getD (j * n + k) 0 = x at *
              have qa := (Kp.alloc w60 (.cells #[.float .f64 x] 42)).trans (Kp.drew _)
              have OW := hide ((unhide OI).keep qa)
              have XA := hide ((unhide XI).keep qa)
              have AP : Hid (Flts (w60.alloc (.cells #[.float .f64 x] 42)).drew (.slice (some ⟨w60.heap.size, 0, none⟩) 1 1) [x]) := (lit_flts w60 42 [x] #[.float .f64 x] w60.heap.size 1 rfl rfl rfl (by intro y hy; rw [List.mem_singleton.1 hy]; exact unhide WX) (by decide)).keep (Kp.drew _)
              have BS : Hid (w10.heap.size ≤ (w60.alloc (.cells #[.float .f64 x] 42)).drew.heap.size) := ((unhide KI).trans qa).size
              have QA := hide ((unhide KI).trans qa)
              clear qa i0
              go_upto_region 15 with fail
              go_region_law (refine step_append_box rfl (.tmp 82) (.tmp 92) rfl w10.heap.size (.slice av nv cv) ((List.range j).map (fun q => e.getD (q * n + k) 0)) ⟨w60.heap.size, 0, none⟩ x (by simp [Act.eval]) (by simp [Act.eval]) (unhide OW) (unhide AP) (unhide LN) (unhide BS) C _ (unhide XA) ?_; intro b9 n9 c9 w8 F8 g0 g1)
              all_goals (
                have FF := hide (box_after (unhide QA) (Nat.le_refl _) (unhide HL) (unhide OW) (unhide F8))
                clear g0 g1 hck p0 p1 p2 p3 p4 y0 y1 y4 b4 OW XA AP BS QA F8
                generalize w8.setCell ⟨C, 1, none⟩ (.slice b9 n9 c9) = w9 at *)
              all_goals (
                go_wp2
                go_roundw
                case rel => exact ⟨j + 1, _, by omega, by go_num, (unhide FF).1, by rw [unhide ET]; exact (unhide FF).2.1, (unhide FF).2.2⟩
                case measure => simp [intOf]; omega)
            · have hjm : m = j := by omega
              subst hjm
              have hltI : ¬ (m : Int) < (m : Int) := by omega
              have WC : Hid (∀ x ∈ (List.range m).map (fun q => e.getD (q * n + k) 0), W64 x) := by
                intro x hx
                obtain ⟨q, _, rfl⟩ := List.mem_map.1 hx
                exact getD_w64 (unhide WE) _
              have LC : Hid (((List.range m).map (fun q => e.getD (q * n + k) 0)).length = m) := by unfold Hid; simp
              have DC_60 := hide ((unhide OI).flts (unhide WC) (by rw [unhide LC]; omega))
              have BC_60 := XI
              have E2 : Hid (mulS [1, (m : Int)] ((d.drop (i * m)).take m) [(m : Int), (n : Int)] e = [1, (n : Int)] ∧ mulD [1, (m : Int)] ((d.drop (i * m)).take m) [(m : Int), (n : Int)] e = mulL 1 m n ((d.drop (i * m)).take m) e ∧ mulE [1, (m : Int)] ((d.drop (i * m)).take m) [(m : Int), (n : Int)] e = 0) := mul_yes (p := 1) (fit_two (p := 1) (Nat.le_refl 1) m1 n1 (by rw [sub_length (unhide HIM), Nat.one_mul]) (by omega) (unhide EL) (unhide EM)) (Nat.le_refl 1) n1 (by omega)
              have E3 : Hid (mulS [1, (m : Int)] ((d.drop (i * m)).take m) [(m : Int), 1] ((List.range m).map (fun q => e.getD (q * n + k) 0)) = [1, 1] ∧ mulD [1, (m : Int)] ((d.drop (i * m)).take m) [(m : Int), 1] ((List.range m).map (fun q => e.getD (q * n + k) 0)) = mulL 1 m 1 ((d.drop (i * m)).take m) ((List.range m).map (fun q => e.getD (q * n + k) 0)) ∧ mulE [1, (m : Int)] ((d.drop (i * m)).take m) [(m : Int), 1] ((List.range m).map (fun q => e.getD (q * n + k) 0)) = 0) := mul_yes (p := 1) (n := 1) (fit_two (p := 1) (n := 1) (Nat.le_refl 1) m1 (Nat.le_refl 1) (by rw [sub_length (unhide HIM), Nat.one_mul]) (by omega) (by rw [unhide LC, Nat.mul_one]) (by omega)) (Nat.le_refl 1) (Nat.le_refl 1) (by omega)
              have EC := hide (col_prods (n := n) (i := i) (k := k) (d := d) (e := e) (m := m))
              generalize (List.range m).map (fun q => e.getD (q * n + k) 0) = col at *
              clear XI OI
              have K60 := hide ((unhide K10).trans (unhide KI))
              have A_60 := hide ((unhide A_10).keep (unhide KI))
              have D_60 := hide ((unhide D_10).keep (unhide KI))
              have B_60 := hide ((unhide B_10).keep (unhide KI))
              have E_60 := hide ((unhide E_10).keep (unhide KI))
              have Sz_60 := hide ((unhide Sz_10).keep (unhide KI))
              have Dz_60 := hide ((unhide Dz_10).keep (unhide KI))
              have N1_60 := hide ((unhide N1_10).keep (unhide KI))
              have DR_60 := hide ((unhide DR_10).keep (unhide KI))
              have N2_60 := hide ((unhide N2_10).keep (unhide KI))
              have X_60 := hide ((unhide X_10).keep (unhide KI))
              have Y_60 := hide ((unhide Y_10).keep (unhide KI))
              have V_60 := hide ((unhide V_10).keep (unhide KI))
              have Bz_60 := hide ((unhide Bz_10).keep (unhide KI))
              have R_60 := hide ((unhide R_10).keep (unhide KI))
              clear K10 A_10 D_10 B_10 E_10 Sz_10 Dz_10 N1_10 DR_10 N2_10 X_10 Y_10 V_10 Bz_10 R_10
              obtain ⟨X0_60, X1_60, -, -, X4_60⟩ := (unhide X_60).o
              obtain ⟨Y0_60, Y1_60, -, -, Y4_60⟩ := (unhide Y_60).o
              obtain ⟨V0_60, V1_60, -, -, V4_60⟩ := (unhide V_60).o
              obtain ⟨Bz0_60, Bz1_60, -, -, Bz4_60⟩ := (unhide Bz_60).o
              obtain ⟨R0_60, R1_60, -, -, R4_60⟩ := (unhide R_60).o
              clear KI
              obtain ⟨BC0_60, BC1_60, -, -, BC4_60⟩ := (unhide BC_60).o
              go_wp2_with fail
              refine (mul_all _ _ _ _ [1, (m : Int)] [(m : Int), (n : Int)] ((d.drop (i * m)).take m) e w60 (unhide N1_60) (unhide DR_60) (unhide RR) (unhide B_60) (unhide E_60)).mono ?_
              rw [(unhide E2).1, (unhide E2).2.1, (unhide E2).2.2]
              rintro e w61 ⟨lx, ⟨ax, cx, bx, dx, rfl, sx, fx, ux, vx⟩, hx, k61⟩
              have K61 := hide ((unhide K60).trans k61)
              have A_61 := hide ((unhide A_60).keep k61)
              have D_61 := hide ((unhide D_60).keep k61)
              have B_61 := hide ((unhide B_60).keep k61)
              have E_61 := hide ((unhide E_60).keep k61)
              have Sz_61 := hide ((unhide Sz_60).keep k61)
              have Dz_61 := hide ((unhide Dz_60).keep k61)
              have N1_61 := hide ((unhide N1_60).keep k61)
              have DR_61 := hide ((unhide DR_60).keep k61)
              have N2_61 := hide ((unhide N2_60).keep k61)
              have DC_61 := hide ((unhide DC_60).keep k61)
              have X_61 := hide ((unhide X_60).keep k61)
              have Y_61 := hide ((unhide Y_60).keep k61)
              have V_61 := hide ((unhide V_60).keep k61)
              have Bz_61 := hide ((unhide Bz_60).keep k61)
              have R_61 := hide ((unhide R_60).keep k61)
              have BC_61 := hide ((unhide BC_60).keep k61)
              clear K60 A_60 D_60 B_60 E_60 Sz_60 Dz_60 N1_60 DR_60 N2_60 DC_60 X_60 X0_60 X1_60 X4_60 Y_60 Y0_60 Y1_60 Y4_60 V_60 V0_60 V1_60 V4_60 Bz_60 Bz0_60 Bz1_60 Bz4_60 R_60 R0_60 R1_60 R4_60 BC_60 BC0_60 BC1_60 BC4_60
              obtain ⟨X0_61, X1_61, -, -, X4_61⟩ := (unhide X_61).o
              obtain ⟨Y0_61, Y1_61, -, -, Y4_61⟩ := (unhide Y_61).o
              obtain ⟨V0_61, V1_61, -, -, V4_61⟩ := (unhide V_61).o
              obtain ⟨Bz0_61, Bz1_61, -, -, Bz4_61⟩ := (unhide Bz_61).o
              obtain ⟨R0_61, R1_61, -, -, R4_61⟩ := (unhide R_61).o
              obtain ⟨BC0_61, BC1_61, -, -, BC4_61⟩ := (unhide BC_61).o
              clear k61
              have Hx := hide hx
              clear hx
              have Rx : Hid (Roomy (.slice bx lx.length dx)) := roomy _ _ _ ux vx
              clear ux vx
              have Sx_61 := hide sx
              have Dx_61 := hide fx
              clear sx fx
              go_wp2_with fail
              have Bx_62 := hide (Bx.madeAt w61 (.slice ax [1, (n : Int)].length cx) (.slice bx lx.length dx) (w61.heap.size) rfl)
              have q62 := Kp.alloc w61 (.cells #[(.slice ax [1, (n : Int)].length cx), (.slice bx lx.length dx)] 25)
              generalize (w61.alloc (.cells #[(.slice ax [1, (n : Int)].length cx), (.slice bx lx.length dx)] 25)) = w62 at *
              have K62 := hide ((unhide K61).trans q62)
              have A_62 := hide ((unhide A_61).keep q62)
              have D_62 := hide ((unhide D_61).keep q62)
              have B_62 := hide ((unhide B_61).keep q62)
              have E_62 := hide ((unhide E_61).keep q62)
              have Sz_62 := hide ((unhide Sz_61).keep q62)
              have Dz_62 := hide ((unhide Dz_61).keep q62)
              have N1_62 := hide ((unhide N1_61).keep q62)
              have DR_62 := hide ((unhide DR_61).keep q62)
              have N2_62 := hide ((unhide N2_61).keep q62)
              have DC_62 := hide ((unhide DC_61).keep q62)
              have Sx_62 := hide ((unhide Sx_61).keep q62)
              have Dx_62 := hide ((unhide Dx_61).keep q62)
              have X_62 := hide ((unhide X_61).keep q62)
              have Y_62 := hide ((unhide Y_61).keep q62)
              have V_62 := hide ((unhide V_61).keep q62)
              have Bz_62 := hide ((unhide Bz_61).keep q62)
              have R_62 := hide ((unhide R_61).keep q62)
              have BC_62 := hide ((unhide BC_61).keep q62)
              clear K61 A_61 D_61 B_61 E_61 Sz_61 Dz_61 N1_61 DR_61 N2_61 DC_61 Sx_61 Dx_61 X_61 X0_61 X1_61 X4_61 Y_61 Y0_61 Y1_61 Y4_61 V_61 V0_61 V1_61 V4_61 Bz_61 Bz0_61 Bz1_61 Bz4_61 R_61 R0_61 R1_61 R4_61 BC_61 BC0_61 BC1_61 BC4_61
              obtain ⟨X0_62, X1_62, -, -, X4_62⟩ := (unhide X_62).o
              obtain ⟨Y0_62, Y1_62, -, -, Y4_62⟩ := (unhide Y_62).o
              obtain ⟨V0_62, V1_62, -, -, V4_62⟩ := (unhide V_62).o
              obtain ⟨Bz0_62, Bz1_62, -, -, Bz4_62⟩ := (unhide Bz_62).o
              obtain ⟨R0_62, R1_62, -, -, R4_62⟩ := (unhide R_62).o
              obtain ⟨BC0_62, BC1_62, -, -, BC4_62⟩ := (unhide BC_62).o
              clear q62
              generalize w61.heap.size = B_Bx at *
              obtain ⟨Bx0_62, Bx1_62, -, -, Bx4_62⟩ := (unhide Bx_62).o
              refine (mul_all _ _ _ _ [1, (m : Int)] [(m : Int), 1] ((d.drop (i * m)).take m) col w62 (unhide N1_62) (unhide DR_62) (unhide RR) (unhide N2_62) (unhide DC_62)).mono ?_
              rw [(unhide E3).1, (unhide E3).2.1, (unhide E3).2.2]
              rintro e w63 ⟨lq, ⟨aq, cq, bq, dq, rfl, sq, fq, uq, vq⟩, hq, k63⟩
              have K63 := hide ((unhide K62).trans k63)
              have A_63 := hide ((unhide A_62).keep k63)
              have D_63 := hide ((unhide D_62).keep k63)
              have B_63 := hide ((unhide B_62).keep k63)
              have E_63 := hide ((unhide E_62).keep k63)
              have Sz_63 := hide ((unhide Sz_62).keep k63)
              have Dz_63 := hide ((unhide Dz_62).keep k63)
              have N1_63 := hide ((unhide N1_62).keep k63)
              have DR_63 := hide ((unhide DR_62).keep k63)
              have N2_63 := hide ((unhide N2_62).keep k63)
              have DC_63 := hide ((unhide DC_62).keep k63)
              have Sx_63 := hide ((unhide Sx_62).keep k63)
              have Dx_63 := hide ((unhide Dx_62).keep k63)
              have X_63 := hide ((unhide X_62).keep k63)
              have Y_63 := hide ((unhide Y_62).keep k63)
              have V_63 := hide ((unhide V_62).keep k63)
              have Bz_63 := hide ((unhide Bz_62).keep k63)
              have R_63 := hide ((unhide R_62).keep k63)
              have BC_63 := hide ((unhide BC_62).keep k63)
              have Bx_63 := hide ((unhide Bx_62).keep k63)
              clear K62 A_62 D_62 B_62 E_62 Sz_62 Dz_62 N1_62 DR_62 N2_62 DC_62 Sx_62 Dx_62 X_62 X0_62 X1_62 X4_62 Y_62 Y0_62 Y1_62 Y4_62 V_62 V0_62 V1_62 V4_62 Bz_62 Bz0_62 Bz1_62 Bz4_62 R_62 R0_62 R1_62 R4_62 BC_62 BC0_62 BC1_62 BC4_62 Bx_62 Bx0_62 Bx1_62 Bx4_62
              obtain ⟨X0_63, X1_63, -, -, X4_63⟩ := (unhide X_63).o
              obtain ⟨Y0_63, Y1_63, -, -, Y4_63⟩ := (unhide Y_63).o
              obtain ⟨V0_63, V1_63, -, -, V4_63⟩ := (unhide V_63).o
              obtain ⟨Bz0_63, Bz1_63, -, -, Bz4_63⟩ := (unhide Bz_63).o
              obtain ⟨R0_63, R1_63, -, -, R4_63⟩ := (unhide R_63).o
              obtain ⟨BC0_63, BC1_63, -, -, BC4_63⟩ := (unhide BC_63).o
              obtain ⟨Bx0_63, Bx1_63, -, -, Bx4_63⟩ := (unhide Bx_63).o
              clear k63
              have Hq := hide hq
              clear hq
              have Rq : Hid (Roomy (.slice bq lq.length dq)) := roomy _ _ _ uq vq
              clear uq vq
              have Sq_63 := hide sq
              have Dq_63 := hide fq
              clear sq fq
              go_upto_region 18 with fail
              have Bq_64 := hide (Bx.madeAt w63 (.slice aq 2 cq) (.slice bq lq.length dq) (w63.heap.size) rfl)
              have q64 := Kp.alloc w63 (.cells #[(.slice aq 2 cq), (.slice bq lq.length dq)] 25)
              generalize (w63.alloc (.cells #[(.slice aq 2 cq), (.slice bq lq.length dq)] 25)) = w64 at *
              have K64 := hide ((unhide K63).trans q64)
              have A_64 := hide ((unhide A_63).keep q64)
              have D_64 := hide ((unhide D_63).keep q64)
              have B_64 := hide ((unhide B_63).keep q64)
              have E_64 := hide ((unhide E_63).keep q64)
              have Sz_64 := hide ((unhide Sz_63).keep q64)
              have Dz_64 := hide ((unhide Dz_63).keep q64)
              have N1_64 := hide ((unhide N1_63).keep q64)
              have DR_64 := hide ((unhide DR_63).keep q64)
              have N2_64 := hide ((unhide N2_63).keep q64)
              have DC_64 := hide ((unhide DC_63).keep q64)
              have Sx_64 := hide ((unhide Sx_63).keep q64)
              have Dx_64 := hide ((unhide Dx_63).keep q64)
              have Sq_64 := hide ((unhide Sq_63).keep q64)
              have Dq_64 := hide ((unhide Dq_63).keep q64)
              have X_64 := hide ((unhide X_63).keep q64)
              have Y_64 := hide ((unhide Y_63).keep q64)
              have V_64 := hide ((unhide V_63).keep q64)
              have Bz_64 := hide ((unhide Bz_63).keep q64)
              have R_64 := hide ((unhide R_63).keep q64)
              have BC_64 := hide ((unhide BC_63).keep q64)
              have Bx_64 := hide ((unhide Bx_63).keep q64)
              clear K63 A_63 D_63 B_63 E_63 Sz_63 Dz_63 N1_63 DR_63 N2_63 DC_63 Sx_63 Dx_63 Sq_63 Dq_63 X_63 X0_63 X1_63 X4_63 Y_63 Y0_63 Y1_63 Y4_63 V_63 V0_63 V1_63 V4_63 Bz_63 Bz0_63 Bz1_63 Bz4_63 R_63 R0_63 R1_63 R4_63 BC_63 BC0_63 BC1_63 BC4_63 Bx_63 Bx0_63 Bx1_63 Bx4_63
              obtain ⟨X0_64, X1_64, -, -, X4_64⟩ := (unhide X_64).o
              obtain ⟨Y0_64, Y1_64, -, -, Y4_64⟩ := (unhide Y_64).o
              obtain ⟨V0_64, V1_64, -, -, V4_64⟩ := (unhide V_64).o
              obtain ⟨Bz0_64, Bz1_64, -, -, Bz4_64⟩ := (unhide Bz_64).o
              obtain ⟨R0_64, R1_64, -, -, R4_64⟩ := (unhide R_64).o
              obtain ⟨BC0_64, BC1_64, -, -, BC4_64⟩ := (unhide BC_64).o
              obtain ⟨Bx0_64, Bx1_64, -, -, Bx4_64⟩ := (unhide Bx_64).o
              clear q64
              generalize w63.heap.size = B_Bq at *
              obtain ⟨Bq0_64, Bq1_64, -, -, Bq4_64⟩ := (unhide Bq_64).o
              have TX := hide (row_same hkn hip (sub_len1 (unhide HIM)) (unhide Hx) (unhide Hz))
              have TQ := hide (col_same hkn hip (unhide EC) (unhide Hq) (unhide Hz))
              have hzl : i * n + k < lz.length := (unhide TX).1
              have hxl : k < lx.length := (unhide TX).2.1
              have hql : 0 < lq.length := (unhide TQ).1
              obtain ⟨jx, ox, rfl, -, kx⟩ := flts_at' (unhide Dx_64) (by omega)
              obtain ⟨jz, oz, rfl, -, kz⟩ := flts_at' (unhide Dz_64) (by omega)
              obtain ⟨jq, oq, rfl, -, kq⟩ := flts_at' (unhide Dq_64) (by omega)
              have hkx := kx k hxl
              have hkz := kz (i * n + k) hzl
              have hkq := kq 0 hql
              rw [Nat.add_zero] at hkq
              have SX : Hid (sameF (lx.getD k 0) (lz.getD (i * n + k) 0) = true) := sameF_iff.2 (unhide TX).2.2
              have SQ : Hid (sameF (lq.getD 0 0) (lz.getD (i * n + k) 0) = true) := sameF_iff.2 (unhide TQ).2
              have hzm : lz.length ≤ 4096 := by rw [len_of (unhide Hz)]; exact unhide HPN
              have i0 : (i : Int) * (n : Int) = ((i * n : Nat) : Int) := by simp
              have i1 : 0 ≤ (i : Int) * (n : Int) := by rw [i0]; omega
              have i2 : (i : Int) * (n : Int) ≤ 4096 := by rw [i0]; omega
              have hi1 : 0 ≤ (i : Int) * (n : Int) + (k : Int) := by omega
              have hi2 : (i : Int) * (n : Int) + (k : Int) < (lz.length : Int) := by rw [i0]; omega
              have hi3 : ((i : Int) * (n : Int) + (k : Int)).toNat = i * n + k := by rw [i0]; omega
              have hw1 : IntKind.i64.wrap ((i : Int) * (n : Int)) = (i : Int) * (n : Int) := wrap_64 i1 (by omega)
              have hw2 : IntKind.i64.wrap ((i : Int) * (n : Int) + (k : Int)) = (i : Int) * (n : Int) + (k : Int) := wrap_64 hi1 (by omega)
              have hxI : (k : Int) < (lx.length : Int) := by omega
              have hqI : (0 : Int) < (lq.length : Int) := by omega
              clear kx kz kq i0 TX TQ
              generalize lx.getD k 0 = X at *
              generalize lz.getD (i * n + k) 0 = Z at *
              generalize lq.getD 0 0 = Q at *
              have CX := hide (fun w0 => frsame_any X Z w0)
              have CQ := hide (fun w0 => frsame_any Q Z w0)
              rw [unhide SX] at CX
              rw [unhide SQ] at CQ
              go_quiet (first | (go_at_call_of 25 (Value.float FloatKind.f64 X); exact Calls.quiet_of_same (unhide CX _)) | (go_at_call_of 25 (Value.float FloatKind.f64 Q); exact Calls.quiet_of_same (unhide CQ _)))
              go_wp2
              go_ret
              exact ⟨rfl, (unhide K64).trans (Kp.drewN _ _)⟩
        · have NF := hide (mul_big hm p1 n1 hs)
          clear hm hs dl dm el em
          go_enter Try.func7, Try.ntmps7
          go_wp2_with fail
          have X_1 := hide (((Bx.madeAt w (.slice (some ⟨bs, os, none⟩) 2 c) (.slice (some ⟨b, off, none⟩) d.length c') (w.heap.size) rfl).keep (Kp.alloc (w.alloc (.cells #[(.slice (some ⟨bs, os, none⟩) 2 c), (.slice (some ⟨b, off, none⟩) d.length c')] 25)) (.cells #[(.slice (some ⟨bt, ot, none⟩) 2 o), (.slice (some ⟨b2, off2, none⟩) e.length o')] 25))).keep (Kp.alloc ((w.alloc (.cells #[(.slice (some ⟨bs, os, none⟩) 2 c), (.slice (some ⟨b, off, none⟩) d.length c')] 25)).alloc (.cells #[(.slice (some ⟨bt, ot, none⟩) 2 o), (.slice (some ⟨b2, off2, none⟩) e.length o')] 25)) (.cells #[(.int .u8 x0), (.int .u8 x1)] 44)))
          have Y_1 := hide ((Bx.madeAt (w.alloc (.cells #[(.slice (some ⟨bs, os, none⟩) 2 c), (.slice (some ⟨b, off, none⟩) d.length c')] 25)) (.slice (some ⟨bt, ot, none⟩) 2 o) (.slice (some ⟨b2, off2, none⟩) e.length o') (w.heap.size + 1) (by simp)).keep (Kp.alloc ((w.alloc (.cells #[(.slice (some ⟨bs, os, none⟩) 2 c), (.slice (some ⟨b, off, none⟩) d.length c')] 25)).alloc (.cells #[(.slice (some ⟨bt, ot, none⟩) 2 o), (.slice (some ⟨b2, off2, none⟩) e.length o')] 25)) (.cells #[(.int .u8 x0), (.int .u8 x1)] 44)))
          have V_1 := hide (Pr.madeAt ((w.alloc (.cells #[(.slice (some ⟨bs, os, none⟩) 2 c), (.slice (some ⟨b, off, none⟩) d.length c')] 25)).alloc (.cells #[(.slice (some ⟨bt, ot, none⟩) 2 o), (.slice (some ⟨b2, off2, none⟩) e.length o')] 25)) (.int .u8 x0) (.int .u8 x1) 44 (w.heap.size + 2) (by simp))
          have q1 := ((Kp.alloc w (.cells #[(.slice (some ⟨bs, os, none⟩) 2 c), (.slice (some ⟨b, off, none⟩) d.length c')] 25)).trans (Kp.alloc (w.alloc (.cells #[(.slice (some ⟨bs, os, none⟩) 2 c), (.slice (some ⟨b, off, none⟩) d.length c')] 25)) (.cells #[(.slice (some ⟨bt, ot, none⟩) 2 o), (.slice (some ⟨b2, off2, none⟩) e.length o')] 25))).trans (Kp.alloc ((w.alloc (.cells #[(.slice (some ⟨bs, os, none⟩) 2 c), (.slice (some ⟨b, off, none⟩) d.length c')] 25)).alloc (.cells #[(.slice (some ⟨bt, ot, none⟩) 2 o), (.slice (some ⟨b2, off2, none⟩) e.length o')] 25)) (.cells #[(.int .u8 x0), (.int .u8 x1)] 44))
          generalize (((w.alloc (.cells #[(.slice (some ⟨bs, os, none⟩) 2 c), (.slice (some ⟨b, off, none⟩) d.length c')] 25)).alloc (.cells #[(.slice (some ⟨bt, ot, none⟩) 2 o), (.slice (some ⟨b2, off2, none⟩) e.length o')] 25)).alloc (.cells #[(.int .u8 x0), (.int .u8 x1)] 44)) = w1 at *
          have K1 := hide q1
          have A_1 := hide ((unhide A_0).keep q1)
          have D_1 := hide ((unhide D_0).keep q1)
          have B_1 := hide ((unhide B_0).keep q1)
          have E_1 := hide ((unhide E_0).keep q1)
          clear A_0 D_0 B_0 E_0
          clear q1
          generalize w.heap.size + 2 = B_V at *
          generalize w.heap.size + 1 = B_Y at *
          generalize w.heap.size = B_X at *
          obtain ⟨X0_1, X1_1, -, -, X4_1⟩ := (unhide X_1).o
          obtain ⟨Y0_1, Y1_1, -, -, Y4_1⟩ := (unhide Y_1).o
          obtain ⟨V0_1, V1_1, -, -, V4_1⟩ := (unhide V_1).o
          refine (awake5_any w1).mono ?_
          rintro e w2 ⟨rfl, k2⟩
          have K2 := hide ((unhide K1).trans k2)
          have A_2 := hide ((unhide A_1).keep k2)
          have D_2 := hide ((unhide D_1).keep k2)
          have B_2 := hide ((unhide B_1).keep k2)
          have E_2 := hide ((unhide E_1).keep k2)
          have X_2 := hide ((unhide X_1).keep k2)
          have Y_2 := hide ((unhide Y_1).keep k2)
          have V_2 := hide ((unhide V_1).keep k2)
          clear K1 A_1 D_1 B_1 E_1 X_1 X0_1 X1_1 X4_1 Y_1 Y0_1 Y1_1 Y4_1 V_1 V0_1 V1_1 V4_1
          obtain ⟨X0_2, X1_2, -, -, X4_2⟩ := (unhide X_2).o
          obtain ⟨Y0_2, Y1_2, -, -, Y4_2⟩ := (unhide Y_2).o
          obtain ⟨V0_2, V1_2, -, -, V4_2⟩ := (unhide V_2).o
          clear k2
          go_wp2_with fail
          refine (small_any _ _ _ c _ c' w2 mf md).mono ?_
          rw [unhide GT]
          rintro e w3 ⟨rfl, k3⟩
          have K3 := hide ((unhide K2).trans k3)
          have A_3 := hide ((unhide A_2).keep k3)
          have D_3 := hide ((unhide D_2).keep k3)
          have B_3 := hide ((unhide B_2).keep k3)
          have E_3 := hide ((unhide E_2).keep k3)
          have X_3 := hide ((unhide X_2).keep k3)
          have Y_3 := hide ((unhide Y_2).keep k3)
          have V_3 := hide ((unhide V_2).keep k3)
          clear K2 A_2 D_2 B_2 E_2 X_2 X0_2 X1_2 X4_2 Y_2 Y0_2 Y1_2 Y4_2 V_2 V0_2 V1_2 V4_2
          obtain ⟨X0_3, X1_3, -, -, X4_3⟩ := (unhide X_3).o
          obtain ⟨Y0_3, Y1_3, -, -, Y4_3⟩ := (unhide Y_3).o
          obtain ⟨V0_3, V1_3, -, -, V4_3⟩ := (unhide V_3).o
          clear k3
          go_wp2_with fail
          refine (small_any _ _ _ o _ o' w3 mg me).mono ?_
          rw [unhide GU]
          rintro e w4 ⟨rfl, k4⟩
          have K4 := hide ((unhide K3).trans k4)
          have A_4 := hide ((unhide A_3).keep k4)
          have D_4 := hide ((unhide D_3).keep k4)
          have B_4 := hide ((unhide B_3).keep k4)
          have E_4 := hide ((unhide E_3).keep k4)
          have X_4 := hide ((unhide X_3).keep k4)
          have Y_4 := hide ((unhide Y_3).keep k4)
          have V_4 := hide ((unhide V_3).keep k4)
          clear K3 A_3 D_3 B_3 E_3 X_3 X0_3 X1_3 X4_3 Y_3 Y0_3 Y1_3 Y4_3 V_3 V0_3 V1_3 V4_3
          obtain ⟨X0_4, X1_4, -, -, X4_4⟩ := (unhide X_4).o
          obtain ⟨Y0_4, Y1_4, -, -, Y4_4⟩ := (unhide Y_4).o
          obtain ⟨V0_4, V1_4, -, -, V4_4⟩ := (unhide V_4).o
          clear k4
          go_wp2_with fail
          refine (mul_all _ _ _ _ [(p9 : Int), (m : Int)] [(m : Int), (n : Int)] d e w4 (unhide A_4) (unhide D_4) (unhide R0) (unhide B_4) (unhide E_4)).mono ?_
          rw [(unhide NF).1, (unhide NF).2.1, (unhide NF).2.2]
          rintro e w5 ⟨lz, ⟨az, cz, bz, dz, rfl, sz, fz, uz, vz⟩, hz, k5⟩
          have K5 := hide ((unhide K4).trans k5)
          have A_5 := hide ((unhide A_4).keep k5)
          have D_5 := hide ((unhide D_4).keep k5)
          have B_5 := hide ((unhide B_4).keep k5)
          have E_5 := hide ((unhide E_4).keep k5)
          have X_5 := hide ((unhide X_4).keep k5)
          have Y_5 := hide ((unhide Y_4).keep k5)
          have V_5 := hide ((unhide V_4).keep k5)
          clear K4 A_4 D_4 B_4 E_4 X_4 X0_4 X1_4 X4_4 Y_4 Y0_4 Y1_4 Y4_4 V_4 V0_4 V1_4 V4_4
          obtain ⟨X0_5, X1_5, -, -, X4_5⟩ := (unhide X_5).o
          obtain ⟨Y0_5, Y1_5, -, -, Y4_5⟩ := (unhide Y_5).o
          obtain ⟨V0_5, V1_5, -, -, V4_5⟩ := (unhide V_5).o
          clear k5
          clear sz fz uz vz hz
          go_upto_region 6 with fail
          have Bz_6 := hide (Bx.madeAt w5 (.slice az 0 cz) (.slice bz lz.length dz) (w5.heap.size) rfl)
          have q6 := Kp.alloc w5 (.cells #[(.slice az 0 cz), (.slice bz lz.length dz)] 25)
          generalize (w5.alloc (.cells #[(.slice az 0 cz), (.slice bz lz.length dz)] 25)) = w6 at *
          have K6 := hide ((unhide K5).trans q6)
          have A_6 := hide ((unhide A_5).keep q6)
          have D_6 := hide ((unhide D_5).keep q6)
          have B_6 := hide ((unhide B_5).keep q6)
          have E_6 := hide ((unhide E_5).keep q6)
          have X_6 := hide ((unhide X_5).keep q6)
          have Y_6 := hide ((unhide Y_5).keep q6)
          have V_6 := hide ((unhide V_5).keep q6)
          clear K5 A_5 D_5 B_5 E_5 X_5 X0_5 X1_5 X4_5 Y_5 Y0_5 Y1_5 Y4_5 V_5 V0_5 V1_5 V4_5
          obtain ⟨X0_6, X1_6, -, -, X4_6⟩ := (unhide X_6).o
          obtain ⟨Y0_6, Y1_6, -, -, Y4_6⟩ := (unhide Y_6).o
          obtain ⟨V0_6, V1_6, -, -, V4_6⟩ := (unhide V_6).o
          clear q6
          generalize w5.heap.size = B_Bz at *
          obtain ⟨Bz0_6, Bz1_6, -, -, Bz4_6⟩ := (unhide Bz_6).o
          go_wp2
          go_ret
          exact ⟨rfl, unhide K6⟩
    · have GU : Hid ((decide (g.length ≤ 40) && decide (e.length ≤ 8192)) = false) := eq_false_of_ne_true gu
      clear gu gt h0 h1 h2 h3
      go_enter Try.func7, Try.ntmps7
      go_wp2_with fail
      have X_1 := hide (((Bx.madeAt w (.slice p f.length c) (.slice p' d.length c') (w.heap.size) rfl).keep (Kp.alloc (w.alloc (.cells #[(.slice p f.length c), (.slice p' d.length c')] 25)) (.cells #[(.slice r g.length o), (.slice r' e.length o')] 25))).keep (Kp.alloc ((w.alloc (.cells #[(.slice p f.length c), (.slice p' d.length c')] 25)).alloc (.cells #[(.slice r g.length o), (.slice r' e.length o')] 25)) (.cells #[(.int .u8 x0), (.int .u8 x1)] 44)))
      have Y_1 := hide ((Bx.madeAt (w.alloc (.cells #[(.slice p f.length c), (.slice p' d.length c')] 25)) (.slice r g.length o) (.slice r' e.length o') (w.heap.size + 1) (by simp)).keep (Kp.alloc ((w.alloc (.cells #[(.slice p f.length c), (.slice p' d.length c')] 25)).alloc (.cells #[(.slice r g.length o), (.slice r' e.length o')] 25)) (.cells #[(.int .u8 x0), (.int .u8 x1)] 44)))
      have V_1 := hide (Pr.madeAt ((w.alloc (.cells #[(.slice p f.length c), (.slice p' d.length c')] 25)).alloc (.cells #[(.slice r g.length o), (.slice r' e.length o')] 25)) (.int .u8 x0) (.int .u8 x1) 44 (w.heap.size + 2) (by simp))
      have q1 := ((Kp.alloc w (.cells #[(.slice p f.length c), (.slice p' d.length c')] 25)).trans (Kp.alloc (w.alloc (.cells #[(.slice p f.length c), (.slice p' d.length c')] 25)) (.cells #[(.slice r g.length o), (.slice r' e.length o')] 25))).trans (Kp.alloc ((w.alloc (.cells #[(.slice p f.length c), (.slice p' d.length c')] 25)).alloc (.cells #[(.slice r g.length o), (.slice r' e.length o')] 25)) (.cells #[(.int .u8 x0), (.int .u8 x1)] 44))
      generalize (((w.alloc (.cells #[(.slice p f.length c), (.slice p' d.length c')] 25)).alloc (.cells #[(.slice r g.length o), (.slice r' e.length o')] 25)).alloc (.cells #[(.int .u8 x0), (.int .u8 x1)] 44)) = w1 at *
      have K1 := hide q1
      clear q1
      generalize w.heap.size + 2 = B_V at *
      generalize w.heap.size + 1 = B_Y at *
      generalize w.heap.size = B_X at *
      obtain ⟨X0_1, X1_1, -, -, X4_1⟩ := (unhide X_1).o
      obtain ⟨Y0_1, Y1_1, -, -, Y4_1⟩ := (unhide Y_1).o
      obtain ⟨V0_1, V1_1, -, -, V4_1⟩ := (unhide V_1).o
      refine (awake5_any w1).mono ?_
      rintro e w2 ⟨rfl, k2⟩
      have K2 := hide ((unhide K1).trans k2)
      have X_2 := hide ((unhide X_1).keep k2)
      have Y_2 := hide ((unhide Y_1).keep k2)
      have V_2 := hide ((unhide V_1).keep k2)
      clear K1 X_1 X0_1 X1_1 X4_1 Y_1 Y0_1 Y1_1 Y4_1 V_1 V0_1 V1_1 V4_1
      obtain ⟨X0_2, X1_2, -, -, X4_2⟩ := (unhide X_2).o
      obtain ⟨Y0_2, Y1_2, -, -, Y4_2⟩ := (unhide Y_2).o
      obtain ⟨V0_2, V1_2, -, -, V4_2⟩ := (unhide V_2).o
      clear k2
      go_wp2_with fail
      refine (small_any p p' f.length c d.length c' w2 mf md).mono ?_
      rw [unhide GT]
      rintro e w3 ⟨rfl, k3⟩
      have K3 := hide ((unhide K2).trans k3)
      have X_3 := hide ((unhide X_2).keep k3)
      have Y_3 := hide ((unhide Y_2).keep k3)
      have V_3 := hide ((unhide V_2).keep k3)
      clear K2 X_2 X0_2 X1_2 X4_2 Y_2 Y0_2 Y1_2 Y4_2 V_2 V0_2 V1_2 V4_2
      obtain ⟨X0_3, X1_3, -, -, X4_3⟩ := (unhide X_3).o
      obtain ⟨Y0_3, Y1_3, -, -, Y4_3⟩ := (unhide Y_3).o
      obtain ⟨V0_3, V1_3, -, -, V4_3⟩ := (unhide V_3).o
      clear k3
      go_wp2_with fail
      refine (small_any r r' g.length o e.length o' w3 mg me).mono ?_
      rw [unhide GU]
      rintro e w4 ⟨rfl, k4⟩
      have K4 := hide ((unhide K3).trans k4)
      have X_4 := hide ((unhide X_3).keep k4)
      have Y_4 := hide ((unhide Y_3).keep k4)
      have V_4 := hide ((unhide V_3).keep k4)
      clear K3 X_3 X0_3 X1_3 X4_3 Y_3 Y0_3 Y1_3 Y4_3 V_3 V0_3 V1_3 V4_3
      obtain ⟨X0_4, X1_4, -, -, X4_4⟩ := (unhide X_4).o
      obtain ⟨Y0_4, Y1_4, -, -, Y4_4⟩ := (unhide Y_4).o
      obtain ⟨V0_4, V1_4, -, -, V4_4⟩ := (unhide V_4).o
      clear k4
      go_wp2
      go_ret
      exact ⟨rfl, unhide K4⟩
  · have GT : Hid ((decide (f.length ≤ 40) && decide (d.length ≤ 8192)) = false) := eq_false_of_ne_true gt
    clear gt h0 h1 h2 h3
    go_enter Try.func7, Try.ntmps7
    go_wp2_with fail
    have X_1 := hide (((Bx.madeAt w (.slice p f.length c) (.slice p' d.length c') (w.heap.size) rfl).keep (Kp.alloc (w.alloc (.cells #[(.slice p f.length c), (.slice p' d.length c')] 25)) (.cells #[(.slice r g.length o), (.slice r' e.length o')] 25))).keep (Kp.alloc ((w.alloc (.cells #[(.slice p f.length c), (.slice p' d.length c')] 25)).alloc (.cells #[(.slice r g.length o), (.slice r' e.length o')] 25)) (.cells #[(.int .u8 x0), (.int .u8 x1)] 44)))
    have Y_1 := hide ((Bx.madeAt (w.alloc (.cells #[(.slice p f.length c), (.slice p' d.length c')] 25)) (.slice r g.length o) (.slice r' e.length o') (w.heap.size + 1) (by simp)).keep (Kp.alloc ((w.alloc (.cells #[(.slice p f.length c), (.slice p' d.length c')] 25)).alloc (.cells #[(.slice r g.length o), (.slice r' e.length o')] 25)) (.cells #[(.int .u8 x0), (.int .u8 x1)] 44)))
    have V_1 := hide (Pr.madeAt ((w.alloc (.cells #[(.slice p f.length c), (.slice p' d.length c')] 25)).alloc (.cells #[(.slice r g.length o), (.slice r' e.length o')] 25)) (.int .u8 x0) (.int .u8 x1) 44 (w.heap.size + 2) (by simp))
    have q1 := ((Kp.alloc w (.cells #[(.slice p f.length c), (.slice p' d.length c')] 25)).trans (Kp.alloc (w.alloc (.cells #[(.slice p f.length c), (.slice p' d.length c')] 25)) (.cells #[(.slice r g.length o), (.slice r' e.length o')] 25))).trans (Kp.alloc ((w.alloc (.cells #[(.slice p f.length c), (.slice p' d.length c')] 25)).alloc (.cells #[(.slice r g.length o), (.slice r' e.length o')] 25)) (.cells #[(.int .u8 x0), (.int .u8 x1)] 44))
    generalize (((w.alloc (.cells #[(.slice p f.length c), (.slice p' d.length c')] 25)).alloc (.cells #[(.slice r g.length o), (.slice r' e.length o')] 25)).alloc (.cells #[(.int .u8 x0), (.int .u8 x1)] 44)) = w1 at *
    have K1 := hide q1
    clear q1
    generalize w.heap.size + 2 = B_V at *
    generalize w.heap.size + 1 = B_Y at *
    generalize w.heap.size = B_X at *
    obtain ⟨X0_1, X1_1, -, -, X4_1⟩ := (unhide X_1).o
    obtain ⟨Y0_1, Y1_1, -, -, Y4_1⟩ := (unhide Y_1).o
    obtain ⟨V0_1, V1_1, -, -, V4_1⟩ := (unhide V_1).o
    refine (awake5_any w1).mono ?_
    rintro e w2 ⟨rfl, k2⟩
    have K2 := hide ((unhide K1).trans k2)
    have X_2 := hide ((unhide X_1).keep k2)
    have Y_2 := hide ((unhide Y_1).keep k2)
    have V_2 := hide ((unhide V_1).keep k2)
    clear K1 X_1 X0_1 X1_1 X4_1 Y_1 Y0_1 Y1_1 Y4_1 V_1 V0_1 V1_1 V4_1
    obtain ⟨X0_2, X1_2, -, -, X4_2⟩ := (unhide X_2).o
    obtain ⟨Y0_2, Y1_2, -, -, Y4_2⟩ := (unhide Y_2).o
    obtain ⟨V0_2, V1_2, -, -, V4_2⟩ := (unhide V_2).o
    clear k2
    go_wp2_with fail
    refine (small_any p p' f.length c d.length c' w2 mf md).mono ?_
    rw [unhide GT]
    rintro e w3 ⟨rfl, k3⟩
    have K3 := hide ((unhide K2).trans k3)
    have X_3 := hide ((unhide X_2).keep k3)
    have Y_3 := hide ((unhide Y_2).keep k3)
    have V_3 := hide ((unhide V_2).keep k3)
    clear K2 X_2 X0_2 X1_2 X4_2 Y_2 Y0_2 Y1_2 Y4_2 V_2 V0_2 V1_2 V4_2
    obtain ⟨X0_3, X1_3, -, -, X4_3⟩ := (unhide X_3).o
    obtain ⟨Y0_3, Y1_3, -, -, Y4_3⟩ := (unhide Y_3).o
    obtain ⟨V0_3, V1_3, -, -, V4_3⟩ := (unhide V_3).o
    clear k3
    go_wp2
    go_ret
    exact ⟨rfl, unhide K3⟩

end Go.Proofs.Ytgdmhmnmhfpkkaa
