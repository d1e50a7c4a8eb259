/- The walk of the law on three shapes. -/
import Derived.Test.YtbomfmdjpoebcaaLawA
import Derived.Test.YtbomfmdjpoebcaaPureB
namespace Go.Proofs.Ytbomfmdjpoebcaa
open Go.RowKit

set_option maxHeartbeats 1000000 in
theorem three_walk (a0 a1 a2 : Option Addr) (l0 c0 l1 c1 l2 c2 : Nat) (a b c : List Int) (w : World) (m0 : l0 ≤ 9223372036854775807) (m1 : l1 ≤ 9223372036854775807) (m2 : l2 ≤ 9223372036854775807)
    (h0 : l0 ≤ 1000000 → Ints w (.slice a0 l0 c0) a) (h1 : l1 ≤ 1000000 → Ints w (.slice a1 l1 c1) b) (h2 : l2 ≤ 1000000 → Ints w (.slice a2 l2 c2) c) :
    Calls Try.prog 7 #[.slice a0 l0 c0, .slice a1 l1 c1, .slice a2 l2 c2] w fun e w' => e = .returned (.bool true) ∧ Kp w w' := by
  have H0 := hide h0
  have H1 := hide h1
  have H2 := hide h2
  clear h0 h1 h2
  by_cases g : l0 ≤ 40 ∧ l1 ≤ 40 ∧ l2 ≤ 40
  · obtain ⟨g0, g1, g2⟩ := g
    have A0 := hide (unhide H0 (by omega))
    have A1 := hide (unhide H1 (by omega))
    have A2 := hide (unhide H2 (by omega))
    clear H0 H1 H2
    by_cases z1 : sprE a b = 0
    · have Z1 := hide z1
      by_cases z2 : sprE b c = 0
      · have Z2 := hide z2
        have TH := hide (three_ok z1 z2)
        clear z1 z2
        by_cases z3 : sprE (sprL a b) c = 0
        · have Z3 := hide z3
          have Z4 : Hid (sprE a (sprL b c) = 0) := by
            have h := (unhide TH).1
            rw [z3] at h
            unfold Hid
            simpa using h.symm
          clear z3
          go_enter Try.func7, Try.ntmps7
          go_wp2_with fail
          refine (awake_any w).mono ?_
          rintro e w1 ⟨rfl, k1⟩
          have K1 := hide k1
          have A0_1 := hide ((unhide A0).keep k1)
          have A1_1 := hide ((unhide A1).keep k1)
          have A2_1 := hide ((unhide A2).keep k1)
          clear A0 A1 A2
          clear k1
          go_wp2_with fail
          refine (spread_any _ _ a b w1 (unhide A0_1) (unhide A1_1)).mono ?_
          rw [unhide Z1]
          rintro e w2 ⟨r1, rfl, i1, _, k2⟩
          have K2 := hide ((unhide K1).trans k2)
          have A0_2 := hide ((unhide A0_1).keep k2)
          have A1_2 := hide ((unhide A1_1).keep k2)
          have A2_2 := hide ((unhide A2_1).keep k2)
          clear K1 A0_1 A1_1 A2_1
          clear k2
          have R_2 := hide i1
          clear i1
          go_wp2_with fail
          refine (spread_any _ _ b c w2 (unhide A1_2) (unhide A2_2)).mono ?_
          rw [unhide Z2]
          rintro e w3 ⟨r2, rfl, i2, _, k3⟩
          have K3 := hide ((unhide K2).trans k3)
          have A0_3 := hide ((unhide A0_2).keep k3)
          have A1_3 := hide ((unhide A1_2).keep k3)
          have A2_3 := hide ((unhide A2_2).keep k3)
          have R_3 := hide ((unhide R_2).keep k3)
          clear K2 A0_2 A1_2 A2_2 R_2
          clear k3
          have T_3 := hide i2
          clear i2
          go_wp2_with fail
          refine (spread_any _ _ (sprL a b) c w3 (unhide R_3) (unhide A2_3)).mono ?_
          rw [unhide Z3]
          rintro e w4 ⟨r3, rfl, i3, _, k4⟩
          have K4 := hide ((unhide K3).trans k4)
          have A0_4 := hide ((unhide A0_3).keep k4)
          have A1_4 := hide ((unhide A1_3).keep k4)
          have A2_4 := hide ((unhide A2_3).keep k4)
          have R_4 := hide ((unhide R_3).keep k4)
          have T_4 := hide ((unhide T_3).keep k4)
          clear K3 A0_3 A1_3 A2_3 R_3 T_3
          clear k4
          have X_4 := hide i3
          clear i3
          go_wp2_with fail
          refine (spread_any _ _ a (sprL b c) w4 (unhide A0_4) (unhide T_4)).mono ?_
          rw [unhide Z4, ← (unhide TH).2.1]
          rintro e w5 ⟨r4, rfl, i4, _, k5⟩
          have K5 := hide ((unhide K4).trans k5)
          have A0_5 := hide ((unhide A0_4).keep k5)
          have A1_5 := hide ((unhide A1_4).keep k5)
          have A2_5 := hide ((unhide A2_4).keep k5)
          have R_5 := hide ((unhide R_4).keep k5)
          have T_5 := hide ((unhide T_4).keep k5)
          have X_5 := hide ((unhide X_4).keep k5)
          clear K4 A0_4 A1_4 A2_4 R_4 T_4 X_4
          clear k5
          have Y_5 := hide i4
          clear i4
          go_wp2_with fail
          refine (same_any _ _ (sprL (sprL a b) c) (sprL (sprL a b) c) w5 (unhide X_5) (unhide Y_5)).mono ?_
          rw [show sameB (sprL (sprL a b) c) (sprL (sprL a b) c) = true from by simp [sameB]]
          rintro e w6 ⟨rfl, k6⟩
          have K6 := hide ((unhide K5).trans k6)
          have A0_6 := hide ((unhide A0_5).keep k6)
          have A1_6 := hide ((unhide A1_5).keep k6)
          have A2_6 := hide ((unhide A2_5).keep k6)
          have R_6 := hide ((unhide R_5).keep k6)
          have T_6 := hide ((unhide T_5).keep k6)
          have X_6 := hide ((unhide X_5).keep k6)
          have Y_6 := hide ((unhide Y_5).keep k6)
          clear K5 A0_5 A1_5 A2_5 R_5 T_5 X_5 Y_5
          clear k6
          go_wp2_with fail
          refine (into_any _ _ a (sprL (sprL a b) c) w6 (unhide A0_6) (unhide X_6)).mono ?_
          rw [((unhide TH).2.2 (unhide Z3)).1]
          rintro e w7 ⟨rfl, k7⟩
          have K7 := hide ((unhide K6).trans k7)
          have A0_7 := hide ((unhide A0_6).keep k7)
          have A1_7 := hide ((unhide A1_6).keep k7)
          have A2_7 := hide ((unhide A2_6).keep k7)
          have R_7 := hide ((unhide R_6).keep k7)
          have T_7 := hide ((unhide T_6).keep k7)
          have X_7 := hide ((unhide X_6).keep k7)
          have Y_7 := hide ((unhide Y_6).keep k7)
          clear K6 A0_6 A1_6 A2_6 R_6 T_6 X_6 Y_6
          clear k7
          go_wp2_with fail
          refine (into_any _ _ b (sprL (sprL a b) c) w7 (unhide A1_7) (unhide X_7)).mono ?_
          rw [((unhide TH).2.2 (unhide Z3)).2.1]
          rintro e w8 ⟨rfl, k8⟩
          have K8 := hide ((unhide K7).trans k8)
          have A0_8 := hide ((unhide A0_7).keep k8)
          have A1_8 := hide ((unhide A1_7).keep k8)
          have A2_8 := hide ((unhide A2_7).keep k8)
          have R_8 := hide ((unhide R_7).keep k8)
          have T_8 := hide ((unhide T_7).keep k8)
          have X_8 := hide ((unhide X_7).keep k8)
          have Y_8 := hide ((unhide Y_7).keep k8)
          clear K7 A0_7 A1_7 A2_7 R_7 T_7 X_7 Y_7
          clear k8
          go_wp2_with fail
          refine (into_any _ _ c (sprL (sprL a b) c) w8 (unhide A2_8) (unhide X_8)).mono ?_
          rw [((unhide TH).2.2 (unhide Z3)).2.2]
          rintro e w9 ⟨rfl, k9⟩
          have K9 := hide ((unhide K8).trans k9)
          have A0_9 := hide ((unhide A0_8).keep k9)
          have A1_9 := hide ((unhide A1_8).keep k9)
          have A2_9 := hide ((unhide A2_8).keep k9)
          have R_9 := hide ((unhide R_8).keep k9)
          have T_9 := hide ((unhide T_8).keep k9)
          have X_9 := hide ((unhide X_8).keep k9)
          have Y_9 := hide ((unhide Y_8).keep k9)
          clear K8 A0_8 A1_8 A2_8 R_8 T_8 X_8 Y_8
          clear k9
          go_wp2
          go_ret
          exact ⟨rfl, unhide K9⟩
        · have E3 : Hid ((sprE (sprL a b) c == 0) = false) := by unfold Hid; simpa using z3
          have E5 : Hid ((sprE (sprL a b) c != 0) = true) := by unfold Hid; simpa using z3
          have E4 : Hid ((sprE a (sprL b c) == 0) = false) := by
            have h := (unhide TH).1
            rw [unhide E3] at h
            exact h.symm
          clear z3
          go_enter Try.func7, Try.ntmps7
          go_wp2_with fail
          refine (awake_any w).mono ?_
          rintro e w1 ⟨rfl, k1⟩
          have K1 := hide k1
          have A0_1 := hide ((unhide A0).keep k1)
          have A1_1 := hide ((unhide A1).keep k1)
          have A2_1 := hide ((unhide A2).keep k1)
          clear A0 A1 A2
          clear k1
          go_wp2_with fail
          refine (spread_any _ _ a b w1 (unhide A0_1) (unhide A1_1)).mono ?_
          rw [unhide Z1]
          rintro e w2 ⟨r1, rfl, i1, _, k2⟩
          have K2 := hide ((unhide K1).trans k2)
          have A0_2 := hide ((unhide A0_1).keep k2)
          have A1_2 := hide ((unhide A1_1).keep k2)
          have A2_2 := hide ((unhide A2_1).keep k2)
          clear K1 A0_1 A1_1 A2_1
          clear k2
          have R_2 := hide i1
          clear i1
          go_wp2_with fail
          refine (spread_any _ _ b c w2 (unhide A1_2) (unhide A2_2)).mono ?_
          rw [unhide Z2]
          rintro e w3 ⟨r2, rfl, i2, _, k3⟩
          have K3 := hide ((unhide K2).trans k3)
          have A0_3 := hide ((unhide A0_2).keep k3)
          have A1_3 := hide ((unhide A1_2).keep k3)
          have A2_3 := hide ((unhide A2_2).keep k3)
          have R_3 := hide ((unhide R_2).keep k3)
          clear K2 A0_2 A1_2 A2_2 R_2
          clear k3
          have T_3 := hide i2
          clear i2
          go_wp2_with fail
          refine (spread_any _ _ (sprL a b) c w3 (unhide R_3) (unhide A2_3)).mono ?_
          rintro e w4 ⟨r3, rfl, i3, _, k4⟩
          have K4 := hide ((unhide K3).trans k4)
          have A0_4 := hide ((unhide A0_3).keep k4)
          have A1_4 := hide ((unhide A1_3).keep k4)
          have A2_4 := hide ((unhide A2_3).keep k4)
          have R_4 := hide ((unhide R_3).keep k4)
          have T_4 := hide ((unhide T_3).keep k4)
          clear K3 A0_3 A1_3 A2_3 R_3 T_3
          clear k4
          have X_4 := hide i3
          clear i3
          go_wp2_with fail
          refine (spread_any _ _ a (sprL b c) w4 (unhide A0_4) (unhide T_4)).mono ?_
          rw [← (unhide TH).2.1]
          rintro e w5 ⟨r4, rfl, i4, _, k5⟩
          have K5 := hide ((unhide K4).trans k5)
          have A0_5 := hide ((unhide A0_4).keep k5)
          have A1_5 := hide ((unhide A1_4).keep k5)
          have A2_5 := hide ((unhide A2_4).keep k5)
          have R_5 := hide ((unhide R_4).keep k5)
          have T_5 := hide ((unhide T_4).keep k5)
          have X_5 := hide ((unhide X_4).keep k5)
          clear K4 A0_4 A1_4 A2_4 R_4 T_4 X_4
          clear k5
          have Y_5 := hide i4
          clear i4
          have e3 := unhide E3
          have e4 := unhide E4
          have e5 := unhide E5
          clear E3 E4 E5
          go_wp2_with fail
          refine (same_any _ _ (sprL (sprL a b) c) (sprL (sprL a b) c) w5 (unhide X_5) (unhide Y_5)).mono ?_
          rw [show sameB (sprL (sprL a b) c) (sprL (sprL a b) c) = true from by simp [sameB]]
          rintro e w6 ⟨rfl, k6⟩
          have K6 := hide ((unhide K5).trans k6)
          have A0_6 := hide ((unhide A0_5).keep k6)
          have A1_6 := hide ((unhide A1_5).keep k6)
          have A2_6 := hide ((unhide A2_5).keep k6)
          have R_6 := hide ((unhide R_5).keep k6)
          have T_6 := hide ((unhide T_5).keep k6)
          have X_6 := hide ((unhide X_5).keep k6)
          have Y_6 := hide ((unhide Y_5).keep k6)
          clear K5 A0_5 A1_5 A2_5 R_5 T_5 X_5 Y_5
          clear k6
          go_wp2
          go_ret
          exact ⟨rfl, unhide K6⟩
      · have E2 : Hid ((sprE b c != 0) = true) := by unfold Hid; simpa using z2
        clear z1 z2
        go_enter Try.func7, Try.ntmps7
        go_wp2_with fail
        refine (awake_any w).mono ?_
        rintro e w1 ⟨rfl, k1⟩
        have K1 := hide k1
        have A0_1 := hide ((unhide A0).keep k1)
        have A1_1 := hide ((unhide A1).keep k1)
        have A2_1 := hide ((unhide A2).keep k1)
        clear A0 A1 A2
        clear k1
        go_wp2_with fail
        refine (spread_any _ _ a b w1 (unhide A0_1) (unhide A1_1)).mono ?_
        rw [unhide Z1]
        rintro e w2 ⟨r1, rfl, i1, _, k2⟩
        have K2 := hide ((unhide K1).trans k2)
        have A0_2 := hide ((unhide A0_1).keep k2)
        have A1_2 := hide ((unhide A1_1).keep k2)
        have A2_2 := hide ((unhide A2_1).keep k2)
        clear K1 A0_1 A1_1 A2_1
        clear k2
        have R_2 := hide i1
        clear i1
        go_wp2_with fail
        refine (spread_any _ _ b c w2 (unhide A1_2) (unhide A2_2)).mono ?_
        rintro e w3 ⟨r2, rfl, i2, _, k3⟩
        have K3 := hide ((unhide K2).trans k3)
        have A0_3 := hide ((unhide A0_2).keep k3)
        have A1_3 := hide ((unhide A1_2).keep k3)
        have A2_3 := hide ((unhide A2_2).keep k3)
        have R_3 := hide ((unhide R_2).keep k3)
        clear K2 A0_2 A1_2 A2_2 R_2
        clear k3
        have T_3 := hide i2
        clear i2
        have e2 := unhide E2
        clear E2
        go_wp2
        go_ret
        exact ⟨rfl, unhide K3⟩
    · have E1 : Hid ((sprE a b != 0) = true) := by unfold Hid; simpa using z1
      clear z1
      go_enter Try.func7, Try.ntmps7
      go_wp2_with fail
      refine (awake_any w).mono ?_
      rintro e w1 ⟨rfl, k1⟩
      have K1 := hide k1
      have A0_1 := hide ((unhide A0).keep k1)
      have A1_1 := hide ((unhide A1).keep k1)
      have A2_1 := hide ((unhide A2).keep k1)
      clear A0 A1 A2
      clear k1
      go_wp2_with fail
      refine (spread_any _ _ a b w1 (unhide A0_1) (unhide A1_1)).mono ?_
      rintro e w2 ⟨r1, rfl, i1, _, k2⟩
      have K2 := hide ((unhide K1).trans k2)
      have A0_2 := hide ((unhide A0_1).keep k2)
      have A1_2 := hide ((unhide A1_1).keep k2)
      have A2_2 := hide ((unhide A2_1).keep k2)
      clear K1 A0_1 A1_1 A2_1
      clear k2
      have R_2 := hide i1
      clear i1
      have e1 := unhide E1
      clear E1
      go_wp2_with fail
      refine (spread_any _ _ b c w2 (unhide A1_2) (unhide A2_2)).mono ?_
      rintro e w3 ⟨r2, rfl, i2, _, k3⟩
      have K3 := hide ((unhide K2).trans k3)
      have A0_3 := hide ((unhide A0_2).keep k3)
      have A1_3 := hide ((unhide A1_2).keep k3)
      have A2_3 := hide ((unhide A2_2).keep k3)
      have R_3 := hide ((unhide R_2).keep k3)
      clear K2 A0_2 A1_2 A2_2 R_2
      clear k3
      have T_3 := hide i2
      clear i2
      go_wp2
      go_ret
      exact ⟨rfl, unhide K3⟩
  · clear H0 H1 H2
    rcases (show 40 < l0 ∨ (l0 ≤ 40 ∧ 40 < l1) ∨ (l0 ≤ 40 ∧ l1 ≤ 40 ∧ 40 < l2) by omega) with g0 | ⟨g0, g1⟩ | ⟨g0, g1, g2⟩
    all_goals
      clear g
      go_enter Try.func7, Try.ntmps7
      go_wp2_with fail
      refine (awake_any w).mono ?_
      rintro e w1 ⟨rfl, k1⟩
      go_wp2
      go_ret
      exact ⟨rfl, k1⟩

end Go.Proofs.Ytbomfmdjpoebcaa
