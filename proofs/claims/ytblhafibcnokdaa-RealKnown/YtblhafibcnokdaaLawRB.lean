/- The walk of the law on folds and rows. -/
import Derived.Test.YtblhafibcnokdaaLawRA
namespace Go.Proofs.Ytblhafibcnokdaa
open Go.RowKit

set_option maxHeartbeats 1000000 in
theorem folds_walk (a0 : Option Addr) (l0 c0 : Nat) (xs : List Nat) (a b : Nat) (w : World) (m0 : l0 ≤ 9223372036854775807)
    (h0 : l0 ≤ 1000000 → Flts w (.slice a0 l0 c0) xs) (hr : Roomy (.slice a0 l0 c0)) :
    Calls Try.prog 3 #[.slice a0 l0 c0, .float .f64 a, .float .f64 b] w fun e w' => e = .returned (.bool true) ∧ Kp w w' := by
  have H0 := hide h0
  have RM := hide hr
  clear h0 hr
  by_cases g0 : l0 ≤ 500
  · have A0 := hide (unhide H0 (by omega))
    clear H0
    have ha := fun t w => run_add_any (P := Try.prog) w t a b
    have hm := fun t w => run_mul_any (P := Try.prog) w t a b
    · go_enter Try.func3, Try.ntmps3
      go_wp2_with fail
      refine (awake_any w).mono ?_
      rintro e w1 ⟨rfl, k1⟩
      have K1 := hide k1
      have A_1 := hide ((unhide A0).keep k1)
      clear A0
      clear k1
      go_wp2_with fail
      refine (plus_any a b w1).mono ?_
      rintro e w2 ⟨r2, rfl, ⟨c2, -⟩, -, k2⟩
      have K2 := hide ((unhide K1).trans k2)
      have A_2 := hide ((unhide A_1).keep k2)
      clear K1 A_1
      clear k2
      have C2 := hide c2
      clear c2
      go_wp2_with fail
      refine (times_any a b w2).mono ?_
      rintro e w3 ⟨r3, rfl, ⟨c3, -⟩, -, k3⟩
      have K3 := hide ((unhide K2).trans k3)
      have A_3 := hide ((unhide A_2).keep k3)
      clear K2 A_2
      clear k3
      have C3 := hide c3
      clear c3
      go_wp2_with fail
      refine (fold_any _ xs w3 (unhide A_3) (unhide RM)).mono ?_
      rintro e w4 ⟨r4, rfl, ⟨c4, -⟩, -, k4⟩
      have K4 := hide ((unhide K3).trans k4)
      have A_4 := hide ((unhide A_3).keep k4)
      clear K3 A_3
      clear k4
      have C4 := hide c4
      clear c4
      go_wp2_with fail
      refine (kp_of (bits_any r4 w4)).mono ?_
      rw [unhide C4]
      rintro e w5 ⟨rfl, k5⟩
      have K5 := hide ((unhide K4).trans k5)
      have A_5 := hide ((unhide A_4).keep k5)
      clear K4 A_4
      clear k5
      go_wp2_with fail
      refine (rfold_any _ _ xs w5 (Nat.le_refl _) (unhide A_5) (unhide RM)).mono ?_
      rintro e w6 ⟨r6, rfl, ⟨c6, -⟩, -, k6⟩
      have K6 := hide ((unhide K5).trans k6)
      have A_6 := hide ((unhide A_5).keep k6)
      clear K5 A_5
      clear k6
      have C6 := hide c6
      clear c6
      go_wp2_with fail
      refine (kp_of (rbits_any r6 w6)).mono ?_
      rw [unhide C6]
      rintro e w7 ⟨rfl, k7⟩
      have K7 := hide ((unhide K6).trans k7)
      have A_7 := hide ((unhide A_6).keep k7)
      clear K6 A_6
      clear k7
      go_wp2_with fail
      refine (row_any _ xs w7 (unhide A_7)).mono ?_
      rintro e w8 ⟨r8, rfl, ⟨c8, -⟩, -, k8⟩
      have K8 := hide ((unhide K7).trans k8)
      have A_8 := hide ((unhide A_7).keep k8)
      clear K7 A_7
      clear k8
      have C8 := hide c8
      clear c8
      go_wp2_with fail
      refine (kp_of (bits_any r8 w8)).mono ?_
      rw [unhide C8]
      rintro e w9 ⟨rfl, k9⟩
      have K9 := hide ((unhide K8).trans k9)
      have A_9 := hide ((unhide A_8).keep k9)
      clear K8 A_8
      clear k9
      go_wp2_with fail
      refine (rrow_any _ xs w9 (unhide A_9)).mono ?_
      rintro e w10 ⟨r10, rfl, ⟨c10, -⟩, -, k10⟩
      have K10 := hide ((unhide K9).trans k10)
      have A_10 := hide ((unhide A_9).keep k10)
      clear K9 A_9
      clear k10
      have C10 := hide c10
      clear c10
      go_wp2_with fail
      refine (kp_of (rbits_any r10 w10)).mono ?_
      rw [unhide C10]
      rintro e w11 ⟨rfl, k11⟩
      have K11 := hide ((unhide K10).trans k11)
      have A_11 := hide ((unhide A_10).keep k11)
      clear K10 A_10
      clear k11
      go_wp2_with fail
      refine (kp_of (same_any a b w11)).mono ?_
      rintro e w12 ⟨rfl, k12⟩
      have K12 := hide ((unhide K11).trans k12)
      have A_12 := hide ((unhide A_11).keep k12)
      clear K11 A_11
      clear k12
      go_wp2_with fail
      refine (kp_of (rsame_any a b w12)).mono ?_
      rintro e w13 ⟨rfl, k13⟩
      have K13 := hide ((unhide K12).trans k13)
      have A_13 := hide ((unhide A_12).keep k13)
      clear K12 A_12
      clear k13
      go_wp2_with fail
      refine (kp_of (bits_any a w13)).mono ?_
      rintro e w14 ⟨rfl, k14⟩
      have K14 := hide ((unhide K13).trans k14)
      have A_14 := hide ((unhide A_13).keep k14)
      clear K13 A_13
      clear k14
      go_wp2_with fail
      refine (kp_of (rbits_any a w14)).mono ?_
      rintro e w15 ⟨rfl, k15⟩
      have K15 := hide ((unhide K14).trans k15)
      have A_15 := hide ((unhide A_14).keep k15)
      clear K14 A_14
      clear k15
      go_wp2_with fail
      have qq := flW_kp .add w15 a b
      have hr := (flR_add w15 a b).1
      generalize flR .add w15 a b = ra at *
      generalize flW .add w15 a b = w16 at *
      have K16 := hide ((unhide K15).trans qq)
      have A_16 := hide ((unhide A_15).keep qq)
      clear K15 A_15
      clear qq
      have HR := hide hr
      clear hr
      refine (kp_of (same_any r2 ra w16)).mono ?_
      rw [same_of (unhide C2) (unhide HR)]
      rintro e w17 ⟨rfl, k17⟩
      have K17 := hide ((unhide K16).trans k17)
      have A_17 := hide ((unhide A_16).keep k17)
      clear K16 A_16
      clear k17
      go_wp2_with fail
      have qq := flW_kp .mul w17 a b
      have hr := (flR_mul w17 a b).1
      generalize flR .mul w17 a b = rb at *
      generalize flW .mul w17 a b = w18 at *
      have K18 := hide ((unhide K17).trans qq)
      have A_18 := hide ((unhide A_17).keep qq)
      clear K17 A_17
      clear qq
      have HR2 := hide hr
      clear hr
      refine (kp_of (same_any r3 rb w18)).mono ?_
      rw [same_of (unhide C3) (unhide HR2)]
      rintro e w19 ⟨rfl, k19⟩
      have K19 := hide ((unhide K18).trans k19)
      have A_19 := hide ((unhide A_18).keep k19)
      clear K18 A_18
      clear k19
      go_wp2
      go_ret
      exact ⟨rfl, unhide K19⟩
  · go_enter Try.func3, Try.ntmps3
    go_wp2_with fail
    refine (awake_any w).mono ?_
    rintro e w1 ⟨rfl, k1⟩
    go_wp2
    go_ret
    exact ⟨rfl, k1⟩

end Go.Proofs.Ytblhafibcnokdaa
