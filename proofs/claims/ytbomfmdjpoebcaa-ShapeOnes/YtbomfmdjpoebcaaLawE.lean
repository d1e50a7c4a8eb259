/- The walk of the law on ones in front. -/
import Derived.Test.YtbomfmdjpoebcaaLawA
import Derived.Test.YtbomfmdjpoebcaaPureB
namespace Go.Proofs.Ytbomfmdjpoebcaa
open Go.RowKit

set_option maxHeartbeats 1000000 in
theorem ones_walk (a0 a1 : Option Addr) (l0 c0 l1 c1 : Nat) (s t : List Int) (w : World) (m0 : l0 ≤ 9223372036854775807) (m1 : l1 ≤ 9223372036854775807)
    (h0 : l0 ≤ 1000000 → Ints w (.slice a0 l0 c0) s) (h1 : l1 ≤ 1000000 → Ints w (.slice a1 l1 c1) t) (e0 : l0 ≤ 1000000 → s.length = l0) (e1 : l1 ≤ 1000000 → t.length = l1) :
    Calls Try.prog 8 #[.slice a0 l0 c0, .slice a1 l1 c1] w fun e w' => e = .returned (.bool true) ∧ Kp w w' := by
  have H0 := hide h0
  have H1 := hide h1
  have E0 := hide e0
  have E1 := hide e1
  clear h0 h1 e0 e1
  by_cases g0 : l0 < 4
  · by_cases g1 : l1 ≤ 40
    · have A0 := hide (unhide H0 (by omega))
      have A1 := hide (unhide H1 (by omega))
      have L0 := hide (unhide E0 (by omega))
      have L1 := hide (unhide E1 (by omega))
      clear H0 H1 E0 E1
      have RM : Hid ((([1] : List Int).length + s.length) * 8 ≤ 140737488351232) := by have := unhide L0; unfold Hid; simp only [List.length_cons, List.length_nil]; omega
      have RM2 : Hid (([1] ++ s).length * 8 ≤ 140737488351232) := by have := unhide RM; unfold Hid; rw [List.length_append]; exact this
      have WF : Hid (∀ x ∈ [1] ++ s, I64 x) := by
        intro x hx
        simp only [List.cons_append, List.nil_append, List.mem_cons] at hx
        rcases hx with rfl | hx
        · unfold I64; omega
        · exact (unhide A0).wf x hx
      have LT : Hid (s.length < 4) := by have := unhide L0; unfold Hid; omega
      have d0 : decide ((4 : Int) ≤ (l0 : Int)) = false := by simp; omega
      by_cases hc : l1 ≤ l0
      · cases hi : intoB (1 :: s) t
        · have HI := hide hi
          clear hi
          go_enter Try.func8, Try.ntmps8
          go_wp2_with fail
          refine (awake_any w).mono ?_
          rintro e w1 ⟨rfl, k1⟩
          have K1 := hide k1
          have A0_1 := hide ((unhide A0).keep k1)
          have A1_1 := hide ((unhide A1).keep k1)
          clear A0 A1
          clear k1
          have KA := hide (Kp.alloc w1 (.cells #[.int .i64 1] 3))
          have OW := hide (Own.lit w1 3 [1] #[.int .i64 1] w1.heap.size 1 w1.heap.size rfl rfl rfl (Nat.le_refl _) (by decide))
          have AP := hide ((unhide A0_1).keep (unhide KA))
          go_wp2_with (at_builtin; go_must (refine wpList_append_ints _ rfl (.tmp 24) (.tmp 25) 22 rfl w1.heap.size 3 Try.infoInt Try.underlying22 _ _ [1] s rfl rfl (unhide OW) (unhide AP) (unhide RM) (by simp) ?_); intro v2 w2 o2 g2)
          have k2 : Kp w1 w2 := Kp.of_grown (unhide KA) g2 (by intro k hk; cases hk; exact Nat.le_refl _)
          have U_2 := hide (Own.ints o2 (unhide WF) (unhide RM2))
          have K2 := hide ((unhide K1).trans k2)
          have A0_2 := hide ((unhide A0_1).keep k2)
          have A1_2 := hide ((unhide A1_1).keep k2)
          clear K1 A0_1 A1_1
          clear k2 o2 g2 KA OW AP
          go_wp2_with fail
          refine (size_any _ s w2 (unhide A0_2)).mono ?_
          rintro e w3 ⟨rfl, k3⟩
          have K3 := hide ((unhide K2).trans k3)
          have A0_3 := hide ((unhide A0_2).keep k3)
          have A1_3 := hide ((unhide A1_2).keep k3)
          have U_3 := hide ((unhide U_2).keep k3)
          clear K2 A0_2 A1_2 U_2
          clear k3
          go_wp2_with fail
          refine (size_any _ (1 :: s) w3 (unhide U_3)).mono ?_
          rw [(one_size (unhide LT)).1, (one_size (unhide LT)).2]
          rintro e w4 ⟨rfl, k4⟩
          have K4 := hide ((unhide K3).trans k4)
          have A0_4 := hide ((unhide A0_3).keep k4)
          have A1_4 := hide ((unhide A1_3).keep k4)
          have U_4 := hide ((unhide U_3).keep k4)
          clear K3 A0_3 A1_3 U_3
          clear k4
          go_wp2_with fail
          refine (spread_any _ _ s t w4 (unhide A0_4) (unhide A1_4)).mono ?_
          rintro e w5 ⟨r1, rfl, i1, _, k5⟩
          have K5 := hide ((unhide K4).trans k5)
          have A0_5 := hide ((unhide A0_4).keep k5)
          have A1_5 := hide ((unhide A1_4).keep k5)
          have U_5 := hide ((unhide U_4).keep k5)
          clear K4 A0_4 A1_4 U_4
          clear k5
          have X_5 := hide i1
          clear i1
          go_wp2_with fail
          refine (spread_any _ _ (1 :: s) t w5 (unhide U_5) (unhide A1_5)).mono ?_
          rw [← (one_spread (t := t) (unhide LT)).1]
          rintro e w6 ⟨r2, rfl, i2, _, k6⟩
          have K6 := hide ((unhide K5).trans k6)
          have A0_6 := hide ((unhide A0_5).keep k6)
          have A1_6 := hide ((unhide A1_5).keep k6)
          have U_6 := hide ((unhide U_5).keep k6)
          have X_6 := hide ((unhide X_5).keep k6)
          clear K5 A0_5 A1_5 U_5 X_5
          clear k6
          have Y_6 := hide i2
          clear i2
          go_wp2_with fail
          refine (into_any _ _ (1 :: s) t w6 (unhide U_6) (unhide A1_6)).mono ?_
          rw [unhide HI]
          rintro e w7 ⟨rfl, k7⟩
          have K7 := hide ((unhide K6).trans k7)
          have A0_7 := hide ((unhide A0_6).keep k7)
          have A1_7 := hide ((unhide A1_6).keep k7)
          have U_7 := hide ((unhide U_6).keep k7)
          have X_7 := hide ((unhide X_6).keep k7)
          have Y_7 := hide ((unhide Y_6).keep k7)
          clear K6 A0_6 A1_6 U_6 X_6 Y_6
          clear k7
          go_wp2
          go_ret
          exact ⟨rfl, unhide K7⟩
        · have HI := hide hi
          clear hi
          go_enter Try.func8, Try.ntmps8
          go_wp2_with fail
          refine (awake_any w).mono ?_
          rintro e w1 ⟨rfl, k1⟩
          have K1 := hide k1
          have A0_1 := hide ((unhide A0).keep k1)
          have A1_1 := hide ((unhide A1).keep k1)
          clear A0 A1
          clear k1
          have KA := hide (Kp.alloc w1 (.cells #[.int .i64 1] 3))
          have OW := hide (Own.lit w1 3 [1] #[.int .i64 1] w1.heap.size 1 w1.heap.size rfl rfl rfl (Nat.le_refl _) (by decide))
          have AP := hide ((unhide A0_1).keep (unhide KA))
          go_wp2_with (at_builtin; go_must (refine wpList_append_ints _ rfl (.tmp 24) (.tmp 25) 22 rfl w1.heap.size 3 Try.infoInt Try.underlying22 _ _ [1] s rfl rfl (unhide OW) (unhide AP) (unhide RM) (by simp) ?_); intro v2 w2 o2 g2)
          have k2 : Kp w1 w2 := Kp.of_grown (unhide KA) g2 (by intro k hk; cases hk; exact Nat.le_refl _)
          have U_2 := hide (Own.ints o2 (unhide WF) (unhide RM2))
          have K2 := hide ((unhide K1).trans k2)
          have A0_2 := hide ((unhide A0_1).keep k2)
          have A1_2 := hide ((unhide A1_1).keep k2)
          clear K1 A0_1 A1_1
          clear k2 o2 g2 KA OW AP
          go_wp2_with fail
          refine (size_any _ s w2 (unhide A0_2)).mono ?_
          rintro e w3 ⟨rfl, k3⟩
          have K3 := hide ((unhide K2).trans k3)
          have A0_3 := hide ((unhide A0_2).keep k3)
          have A1_3 := hide ((unhide A1_2).keep k3)
          have U_3 := hide ((unhide U_2).keep k3)
          clear K2 A0_2 A1_2 U_2
          clear k3
          go_wp2_with fail
          refine (size_any _ (1 :: s) w3 (unhide U_3)).mono ?_
          rw [(one_size (unhide LT)).1, (one_size (unhide LT)).2]
          rintro e w4 ⟨rfl, k4⟩
          have K4 := hide ((unhide K3).trans k4)
          have A0_4 := hide ((unhide A0_3).keep k4)
          have A1_4 := hide ((unhide A1_3).keep k4)
          have U_4 := hide ((unhide U_3).keep k4)
          clear K3 A0_3 A1_3 U_3
          clear k4
          go_wp2_with fail
          refine (spread_any _ _ s t w4 (unhide A0_4) (unhide A1_4)).mono ?_
          rintro e w5 ⟨r1, rfl, i1, _, k5⟩
          have K5 := hide ((unhide K4).trans k5)
          have A0_5 := hide ((unhide A0_4).keep k5)
          have A1_5 := hide ((unhide A1_4).keep k5)
          have U_5 := hide ((unhide U_4).keep k5)
          clear K4 A0_4 A1_4 U_4
          clear k5
          have X_5 := hide i1
          clear i1
          go_wp2_with fail
          refine (spread_any _ _ (1 :: s) t w5 (unhide U_5) (unhide A1_5)).mono ?_
          rw [← (one_spread (t := t) (unhide LT)).1]
          rintro e w6 ⟨r2, rfl, i2, _, k6⟩
          have K6 := hide ((unhide K5).trans k6)
          have A0_6 := hide ((unhide A0_5).keep k6)
          have A1_6 := hide ((unhide A1_5).keep k6)
          have U_6 := hide ((unhide U_5).keep k6)
          have X_6 := hide ((unhide X_5).keep k6)
          clear K5 A0_5 A1_5 U_5 X_5
          clear k6
          have Y_6 := hide i2
          clear i2
          go_wp2_with fail
          refine (into_any _ _ (1 :: s) t w6 (unhide U_6) (unhide A1_6)).mono ?_
          rw [unhide HI]
          rintro e w7 ⟨rfl, k7⟩
          have K7 := hide ((unhide K6).trans k7)
          have A0_7 := hide ((unhide A0_6).keep k7)
          have A1_7 := hide ((unhide A1_6).keep k7)
          have U_7 := hide ((unhide U_6).keep k7)
          have X_7 := hide ((unhide X_6).keep k7)
          have Y_7 := hide ((unhide Y_6).keep k7)
          clear K6 A0_6 A1_6 U_6 X_6 Y_6
          clear k7
          go_wp2_with fail
          refine (into_any _ _ s t w7 (unhide A0_7) (unhide A1_7)).mono ?_
          rw [(one_spread (unhide LT)).2.2 (unhide HI)]
          rintro e w8 ⟨rfl, k8⟩
          have K8 := hide ((unhide K7).trans k8)
          have A0_8 := hide ((unhide A0_7).keep k8)
          have A1_8 := hide ((unhide A1_7).keep k8)
          have U_8 := hide ((unhide U_7).keep k8)
          have X_8 := hide ((unhide X_7).keep k8)
          have Y_8 := hide ((unhide Y_7).keep k8)
          clear K7 A0_7 A1_7 U_7 X_7 Y_7
          clear k8
          go_wp2
          go_ret
          exact ⟨rfl, unhide K8⟩
      · have LL : Hid (s.length < t.length) := by have h1 := unhide L0; have h2 := unhide L1; unfold Hid; omega
        cases hi : intoB (1 :: s) t
        · have HI := hide hi
          clear hi
          go_enter Try.func8, Try.ntmps8
          go_wp2_with fail
          refine (awake_any w).mono ?_
          rintro e w1 ⟨rfl, k1⟩
          have K1 := hide k1
          have A0_1 := hide ((unhide A0).keep k1)
          have A1_1 := hide ((unhide A1).keep k1)
          clear A0 A1
          clear k1
          have KA := hide (Kp.alloc w1 (.cells #[.int .i64 1] 3))
          have OW := hide (Own.lit w1 3 [1] #[.int .i64 1] w1.heap.size 1 w1.heap.size rfl rfl rfl (Nat.le_refl _) (by decide))
          have AP := hide ((unhide A0_1).keep (unhide KA))
          go_wp2_with (at_builtin; go_must (refine wpList_append_ints _ rfl (.tmp 24) (.tmp 25) 22 rfl w1.heap.size 3 Try.infoInt Try.underlying22 _ _ [1] s rfl rfl (unhide OW) (unhide AP) (unhide RM) (by simp) ?_); intro v2 w2 o2 g2)
          have k2 : Kp w1 w2 := Kp.of_grown (unhide KA) g2 (by intro k hk; cases hk; exact Nat.le_refl _)
          have U_2 := hide (Own.ints o2 (unhide WF) (unhide RM2))
          have K2 := hide ((unhide K1).trans k2)
          have A0_2 := hide ((unhide A0_1).keep k2)
          have A1_2 := hide ((unhide A1_1).keep k2)
          clear K1 A0_1 A1_1
          clear k2 o2 g2 KA OW AP
          go_wp2_with fail
          refine (size_any _ s w2 (unhide A0_2)).mono ?_
          rintro e w3 ⟨rfl, k3⟩
          have K3 := hide ((unhide K2).trans k3)
          have A0_3 := hide ((unhide A0_2).keep k3)
          have A1_3 := hide ((unhide A1_2).keep k3)
          have U_3 := hide ((unhide U_2).keep k3)
          clear K2 A0_2 A1_2 U_2
          clear k3
          go_wp2_with fail
          refine (size_any _ (1 :: s) w3 (unhide U_3)).mono ?_
          rw [(one_size (unhide LT)).1, (one_size (unhide LT)).2]
          rintro e w4 ⟨rfl, k4⟩
          have K4 := hide ((unhide K3).trans k4)
          have A0_4 := hide ((unhide A0_3).keep k4)
          have A1_4 := hide ((unhide A1_3).keep k4)
          have U_4 := hide ((unhide U_3).keep k4)
          clear K3 A0_3 A1_3 U_3
          clear k4
          go_wp2_with fail
          refine (spread_any _ _ s t w4 (unhide A0_4) (unhide A1_4)).mono ?_
          rintro e w5 ⟨r1, rfl, i1, _, k5⟩
          have K5 := hide ((unhide K4).trans k5)
          have A0_5 := hide ((unhide A0_4).keep k5)
          have A1_5 := hide ((unhide A1_4).keep k5)
          have U_5 := hide ((unhide U_4).keep k5)
          clear K4 A0_4 A1_4 U_4
          clear k5
          have X_5 := hide i1
          clear i1
          go_wp2_with fail
          refine (spread_any _ _ (1 :: s) t w5 (unhide U_5) (unhide A1_5)).mono ?_
          rw [← (one_spread (t := t) (unhide LT)).1]
          rintro e w6 ⟨r2, rfl, i2, _, k6⟩
          have K6 := hide ((unhide K5).trans k6)
          have A0_6 := hide ((unhide A0_5).keep k6)
          have A1_6 := hide ((unhide A1_5).keep k6)
          have U_6 := hide ((unhide U_5).keep k6)
          have X_6 := hide ((unhide X_5).keep k6)
          clear K5 A0_5 A1_5 U_5 X_5
          clear k6
          have Y_6 := hide i2
          clear i2
          go_wp2_with fail
          refine (same_any _ _ (sprL s t) (sprL (1 :: s) t) w6 (unhide X_6) (unhide Y_6)).mono ?_
          rw [← (one_spread (t := t) (unhide LT)).2.1 (unhide LL), show sameB (sprL s t) (sprL s t) = true from by simp [sameB]]
          rintro e w7 ⟨rfl, k7⟩
          have K7 := hide ((unhide K6).trans k7)
          have A0_7 := hide ((unhide A0_6).keep k7)
          have A1_7 := hide ((unhide A1_6).keep k7)
          have U_7 := hide ((unhide U_6).keep k7)
          have X_7 := hide ((unhide X_6).keep k7)
          have Y_7 := hide ((unhide Y_6).keep k7)
          clear K6 A0_6 A1_6 U_6 X_6 Y_6
          clear k7
          go_wp2_with fail
          refine (into_any _ _ (1 :: s) t w7 (unhide U_7) (unhide A1_7)).mono ?_
          rw [unhide HI]
          rintro e w8 ⟨rfl, k8⟩
          have K8 := hide ((unhide K7).trans k8)
          have A0_8 := hide ((unhide A0_7).keep k8)
          have A1_8 := hide ((unhide A1_7).keep k8)
          have U_8 := hide ((unhide U_7).keep k8)
          have X_8 := hide ((unhide X_7).keep k8)
          have Y_8 := hide ((unhide Y_7).keep k8)
          clear K7 A0_7 A1_7 U_7 X_7 Y_7
          clear k8
          go_wp2
          go_ret
          exact ⟨rfl, unhide K8⟩
        · have HI := hide hi
          clear hi
          go_enter Try.func8, Try.ntmps8
          go_wp2_with fail
          refine (awake_any w).mono ?_
          rintro e w1 ⟨rfl, k1⟩
          have K1 := hide k1
          have A0_1 := hide ((unhide A0).keep k1)
          have A1_1 := hide ((unhide A1).keep k1)
          clear A0 A1
          clear k1
          have KA := hide (Kp.alloc w1 (.cells #[.int .i64 1] 3))
          have OW := hide (Own.lit w1 3 [1] #[.int .i64 1] w1.heap.size 1 w1.heap.size rfl rfl rfl (Nat.le_refl _) (by decide))
          have AP := hide ((unhide A0_1).keep (unhide KA))
          go_wp2_with (at_builtin; go_must (refine wpList_append_ints _ rfl (.tmp 24) (.tmp 25) 22 rfl w1.heap.size 3 Try.infoInt Try.underlying22 _ _ [1] s rfl rfl (unhide OW) (unhide AP) (unhide RM) (by simp) ?_); intro v2 w2 o2 g2)
          have k2 : Kp w1 w2 := Kp.of_grown (unhide KA) g2 (by intro k hk; cases hk; exact Nat.le_refl _)
          have U_2 := hide (Own.ints o2 (unhide WF) (unhide RM2))
          have K2 := hide ((unhide K1).trans k2)
          have A0_2 := hide ((unhide A0_1).keep k2)
          have A1_2 := hide ((unhide A1_1).keep k2)
          clear K1 A0_1 A1_1
          clear k2 o2 g2 KA OW AP
          go_wp2_with fail
          refine (size_any _ s w2 (unhide A0_2)).mono ?_
          rintro e w3 ⟨rfl, k3⟩
          have K3 := hide ((unhide K2).trans k3)
          have A0_3 := hide ((unhide A0_2).keep k3)
          have A1_3 := hide ((unhide A1_2).keep k3)
          have U_3 := hide ((unhide U_2).keep k3)
          clear K2 A0_2 A1_2 U_2
          clear k3
          go_wp2_with fail
          refine (size_any _ (1 :: s) w3 (unhide U_3)).mono ?_
          rw [(one_size (unhide LT)).1, (one_size (unhide LT)).2]
          rintro e w4 ⟨rfl, k4⟩
          have K4 := hide ((unhide K3).trans k4)
          have A0_4 := hide ((unhide A0_3).keep k4)
          have A1_4 := hide ((unhide A1_3).keep k4)
          have U_4 := hide ((unhide U_3).keep k4)
          clear K3 A0_3 A1_3 U_3
          clear k4
          go_wp2_with fail
          refine (spread_any _ _ s t w4 (unhide A0_4) (unhide A1_4)).mono ?_
          rintro e w5 ⟨r1, rfl, i1, _, k5⟩
          have K5 := hide ((unhide K4).trans k5)
          have A0_5 := hide ((unhide A0_4).keep k5)
          have A1_5 := hide ((unhide A1_4).keep k5)
          have U_5 := hide ((unhide U_4).keep k5)
          clear K4 A0_4 A1_4 U_4
          clear k5
          have X_5 := hide i1
          clear i1
          go_wp2_with fail
          refine (spread_any _ _ (1 :: s) t w5 (unhide U_5) (unhide A1_5)).mono ?_
          rw [← (one_spread (t := t) (unhide LT)).1]
          rintro e w6 ⟨r2, rfl, i2, _, k6⟩
          have K6 := hide ((unhide K5).trans k6)
          have A0_6 := hide ((unhide A0_5).keep k6)
          have A1_6 := hide ((unhide A1_5).keep k6)
          have U_6 := hide ((unhide U_5).keep k6)
          have X_6 := hide ((unhide X_5).keep k6)
          clear K5 A0_5 A1_5 U_5 X_5
          clear k6
          have Y_6 := hide i2
          clear i2
          go_wp2_with fail
          refine (same_any _ _ (sprL s t) (sprL (1 :: s) t) w6 (unhide X_6) (unhide Y_6)).mono ?_
          rw [← (one_spread (t := t) (unhide LT)).2.1 (unhide LL), show sameB (sprL s t) (sprL s t) = true from by simp [sameB]]
          rintro e w7 ⟨rfl, k7⟩
          have K7 := hide ((unhide K6).trans k7)
          have A0_7 := hide ((unhide A0_6).keep k7)
          have A1_7 := hide ((unhide A1_6).keep k7)
          have U_7 := hide ((unhide U_6).keep k7)
          have X_7 := hide ((unhide X_6).keep k7)
          have Y_7 := hide ((unhide Y_6).keep k7)
          clear K6 A0_6 A1_6 U_6 X_6 Y_6
          clear k7
          go_wp2_with fail
          refine (into_any _ _ (1 :: s) t w7 (unhide U_7) (unhide A1_7)).mono ?_
          rw [unhide HI]
          rintro e w8 ⟨rfl, k8⟩
          have K8 := hide ((unhide K7).trans k8)
          have A0_8 := hide ((unhide A0_7).keep k8)
          have A1_8 := hide ((unhide A1_7).keep k8)
          have U_8 := hide ((unhide U_7).keep k8)
          have X_8 := hide ((unhide X_7).keep k8)
          have Y_8 := hide ((unhide Y_7).keep k8)
          clear K7 A0_7 A1_7 U_7 X_7 Y_7
          clear k8
          go_wp2_with fail
          refine (into_any _ _ s t w8 (unhide A0_8) (unhide A1_8)).mono ?_
          rw [(one_spread (unhide LT)).2.2 (unhide HI)]
          rintro e w9 ⟨rfl, k9⟩
          have K9 := hide ((unhide K8).trans k9)
          have A0_9 := hide ((unhide A0_8).keep k9)
          have A1_9 := hide ((unhide A1_8).keep k9)
          have U_9 := hide ((unhide U_8).keep k9)
          have X_9 := hide ((unhide X_8).keep k9)
          have Y_9 := hide ((unhide Y_8).keep k9)
          clear K8 A0_8 A1_8 U_8 X_8 Y_8
          clear k9
          go_wp2
          go_ret
          exact ⟨rfl, unhide K9⟩
    · go_enter Try.func8, Try.ntmps8
      go_wp2_with fail
      refine (awake_any w).mono ?_
      rintro e w1 ⟨rfl, k1⟩
      go_wp2
      go_ret
      exact ⟨rfl, k1⟩
  · go_enter Try.func8, Try.ntmps8
    go_wp2_with fail
    refine (awake_any w).mono ?_
    rintro e w1 ⟨rfl, k1⟩
    go_wp2
    go_ret
    exact ⟨rfl, k1⟩

end Go.Proofs.Ytbomfmdjpoebcaa
