/- The walk of the law on broadcasts. -/
import Derived.Test.YtbomfmdjpoebcaaLawA
namespace Go.Proofs.Ytbomfmdjpoebcaa
open Go.RowKit

set_option maxHeartbeats 400000 in
theorem spreads_walk (a0 a1 : Option Addr) (l0 c0 l1 c1 : Nat) (a b : List Int) (w : World) (m0 : l0 ≤ 9223372036854775807) (m1 : l1 ≤ 9223372036854775807)
    (h0 : l0 ≤ 1000000 → Ints w (.slice a0 l0 c0) a) (h1 : l1 ≤ 1000000 → Ints w (.slice a1 l1 c1) b) :
    Calls Try.prog 4 #[.slice a0 l0 c0, .slice a1 l1 c1] w fun e w' => e = .returned (.bool true) ∧ Kp w w' := by
  have H0 := hide h0
  have H1 := hide h1
  clear h0 h1
  by_cases g0 : l0 ≤ 40
  · by_cases g1 : l1 ≤ 40
    · have A0 := hide (unhide H0 (by omega))
      have A1 := hide (unhide H1 (by omega))
      clear H0 H1
      go_enter Try.func4, Try.ntmps4
      go_wp2_with fail
      refine (awake_any w).mono ?_
      rintro e w1 ⟨rfl, k1⟩
      have K1 := hide k1
      have A0_1 := hide ((unhide A0).keep k1)
      have A1_1 := hide ((unhide A1).keep k1)
      clear A0 A1
      clear k1
      go_wp2_with fail
      refine (spread_any _ _ a b w1 (unhide A0_1) (unhide A1_1)).mono ?_
      rintro e w2 ⟨r1, rfl, i1, _, k2⟩
      have K2 := hide ((unhide K1).trans k2)
      have A0_2 := hide ((unhide A0_1).keep k2)
      have A1_2 := hide ((unhide A1_1).keep k2)
      clear K1 A0_1 A1_1
      clear k2
      have R_2 := hide i1
      clear i1
      go_wp2_with fail
      refine (rspread_any _ _ a b w2 (unhide A0_2) (unhide A1_2)).mono ?_
      rintro e w3 ⟨r2, rfl, i2, _, k3⟩
      have K3 := hide ((unhide K2).trans k3)
      have A0_3 := hide ((unhide A0_2).keep k3)
      have A1_3 := hide ((unhide A1_2).keep k3)
      have R_3 := hide ((unhide R_2).keep k3)
      clear K2 A0_2 A1_2 R_2
      clear k3
      have T_3 := hide i2
      clear i2
      go_wp2_with fail
      refine (spread_any _ _ b a w3 (unhide A1_3) (unhide A0_3)).mono ?_
      rw [sprE_comm b a, sprL_comm b a]
      rintro e w4 ⟨r3, rfl, i3, _, k4⟩
      have K4 := hide ((unhide K3).trans k4)
      have A0_4 := hide ((unhide A0_3).keep k4)
      have A1_4 := hide ((unhide A1_3).keep k4)
      have R_4 := hide ((unhide R_3).keep k4)
      have T_4 := hide ((unhide T_3).keep k4)
      clear K3 A0_3 A1_3 R_3 T_3
      clear k4
      have U_4 := hide i3
      clear i3
      go_wp2_with fail
      refine (rsame_any _ _ (sprL a b) (sprL a b) w4 (unhide R_4) (unhide T_4)).mono ?_
      rw [show sameB (sprL a b) (sprL a b) = true from by simp [sameB]]
      rintro e w5 ⟨rfl, k5⟩
      have K5 := hide ((unhide K4).trans k5)
      have A0_5 := hide ((unhide A0_4).keep k5)
      have A1_5 := hide ((unhide A1_4).keep k5)
      have R_5 := hide ((unhide R_4).keep k5)
      have T_5 := hide ((unhide T_4).keep k5)
      have U_5 := hide ((unhide U_4).keep k5)
      clear K4 A0_4 A1_4 R_4 T_4 U_4
      clear k5
      go_wp2_with fail
      refine (rsame_any _ _ (sprL a b) (sprL a b) w5 (unhide R_5) (unhide U_5)).mono ?_
      rw [show sameB (sprL a b) (sprL a b) = true from by simp [sameB]]
      rintro e w6 ⟨rfl, k6⟩
      have K6 := hide ((unhide K5).trans k6)
      have A0_6 := hide ((unhide A0_5).keep k6)
      have A1_6 := hide ((unhide A1_5).keep k6)
      have R_6 := hide ((unhide R_5).keep k6)
      have T_6 := hide ((unhide T_5).keep k6)
      have U_6 := hide ((unhide U_5).keep k6)
      clear K5 A0_5 A1_5 R_5 T_5 U_5
      clear k6
      go_wp2_with fail
      refine (into_any _ _ a b w6 (unhide A0_6) (unhide A1_6)).mono ?_
      rintro e w7 ⟨rfl, k7⟩
      have K7 := hide ((unhide K6).trans k7)
      have A0_7 := hide ((unhide A0_6).keep k7)
      have A1_7 := hide ((unhide A1_6).keep k7)
      have R_7 := hide ((unhide R_6).keep k7)
      have T_7 := hide ((unhide T_6).keep k7)
      have U_7 := hide ((unhide U_6).keep k7)
      clear K6 A0_6 A1_6 R_6 T_6 U_6
      clear k7
      go_wp2_with fail
      refine (rinto_any _ _ a b w7 (unhide A0_7) (unhide A1_7)).mono ?_
      rintro e w8 ⟨rfl, k8⟩
      have K8 := hide ((unhide K7).trans k8)
      have A0_8 := hide ((unhide A0_7).keep k8)
      have A1_8 := hide ((unhide A1_7).keep k8)
      have R_8 := hide ((unhide R_7).keep k8)
      have T_8 := hide ((unhide T_7).keep k8)
      have U_8 := hide ((unhide U_7).keep k8)
      clear K7 A0_7 A1_7 R_7 T_7 U_7
      clear k8
      go_wp2
      go_ret
      exact ⟨rfl, unhide K8⟩
    · go_enter Try.func4, Try.ntmps4
      go_wp2_with fail
      refine (awake_any w).mono ?_
      rintro e w1 ⟨rfl, k1⟩
      go_wp2
      go_ret
      exact ⟨rfl, k1⟩
  · go_enter Try.func4, Try.ntmps4
    go_wp2_with fail
    refine (awake_any w).mono ?_
    rintro e w1 ⟨rfl, k1⟩
    go_wp2
    go_ret
    exact ⟨rfl, k1⟩

end Go.Proofs.Ytbomfmdjpoebcaa
