
/- The law TensorMakes, walked. -/
import Derived.Test.YtehlkbgjaegpjaaTenL
import Derived.Test.YtehlkbgjaegpjaaOpn
namespace Go.Proofs.Ytehlkbgjaegpjaa
open Go.RowKit

theorem sameT_refl (s : List Int) (d : List Nat) : sameT s d s d = true := by
  unfold sameT sameB allB sameF
  simp
theorem rep_wf {n x : Nat} (h : W64 x) : ∀ y ∈ List.replicate n x, W64 y := by
  intro y hy
  rw [(List.mem_replicate.1 hy).2]
  exact h

set_option maxHeartbeats 2000000 in
theorem makes_walk (a0 : Option Addr) (c0 : Nat) (x : Nat) (a2 : Option Addr) (c2 : Nat) (s : List Int) (d : List Nat) (w : World) (hx : W64 x) (m0 : s.length ≤ 9223372036854775807) (m2 : d.length ≤ 9223372036854775807)
    (h0 : s.length ≤ 1000000 → Ints w (.slice a0 s.length c0) s) (h2 : d.length ≤ 1000000 → Flts w (.slice a2 d.length c2) d) :
    Calls Try.prog 3 #[.slice a0 s.length c0, .float .f64 x, .slice a2 d.length c2] w fun e w' => e = .returned (.bool true) ∧ Kp w w' := by
  by_cases g1 : s.length ≤ 40
  · have g1' : ¬ ((40 : Int) < (s.length : Int)) := by omega
    have g1b : decide ((40 : Int) < (s.length : Int)) = false := decide_eq_false g1'
    by_cases g2 : d.length ≤ 8192
    · have g2' : ¬ ((8192 : Int) < (d.length : Int)) := by omega
      have g2b : decide ((8192 : Int) < (d.length : Int)) = false := decide_eq_false g2'
      have BS : Hid (s.length ≤ 40) := g1
      have BD : Hid (d.length ≤ 8192) := g2
      have S_0 := hide (h0 (by omega))
      have D_0 := hide (h2 (by omega))
      have WS := hide (unhide S_0).wf
      have WD := hide (unhide D_0).wf
      clear h0 h2 g1 g2
      go_enter Try.func3, Try.ntmps3
      go_wp2_with fail
      refine (awake3_any w).mono ?_
      rintro e w1 ⟨rfl, k1⟩
      have K1 := hide k1
      have S_1 := hide ((unhide S_0).keep k1)
      have D_1 := hide ((unhide D_0).keep k1)
      clear k1 S_0 D_0
      cases hm : mayB s
      ·
        have HM := hide hm
        have z := szE_ne hm
        clear hm
        go_wp2_with fail
        refine (new_no _ s x w1 (unhide S_1) (unhide HM)).mono ?_
        rintro e w2 ⟨rfl, k2⟩
        have K2 := hide ((unhide K1).trans k2)
        have S_2 := hide ((unhide S_1).keep k2)
        have D_2 := hide ((unhide D_1).keep k2)
        clear K1 S_1 D_1
        clear k2
        go_wp2_with fail
        have T_3 := hide (Bx.madeAt w2 (.slice none 0 0) (.slice none 0 0) (w2.heap.size) rfl)
        have q3 := Kp.alloc w2 (.cells #[(.slice none 0 0), (.slice none 0 0)] 27)
        generalize (w2.alloc (.cells #[(.slice none 0 0), (.slice none 0 0)] 27)) = w3 at *
        have K3 := hide ((unhide K2).trans q3)
        have S_3 := hide ((unhide S_2).keep q3)
        have D_3 := hide ((unhide D_2).keep q3)
        clear K2 S_2 D_2
        clear q3
        generalize w2.heap.size = B_T at *
        obtain ⟨T0_3, T1_3, -, -, T4_3⟩ := (unhide T_3).o
        refine (rnew_no _ s x w3 (unhide S_3) (unhide HM)).mono ?_
        rintro e w4 ⟨rfl, k4⟩
        have K4 := hide ((unhide K3).trans k4)
        have S_4 := hide ((unhide S_3).keep k4)
        have D_4 := hide ((unhide D_3).keep k4)
        have T_4 := hide ((unhide T_3).keep k4)
        clear K3 S_3 D_3 T_3 T0_3 T1_3 T4_3
        obtain ⟨T0_4, T1_4, -, -, T4_4⟩ := (unhide T_4).o
        clear k4
        go_wp2_with fail
        have U_5 := hide (Bx.madeAt w4 (.slice none 0 0) (.slice none 0 0) (w4.heap.size) rfl)
        have q5 := Kp.alloc w4 (.cells #[(.slice none 0 0), (.slice none 0 0)] 27)
        generalize (w4.alloc (.cells #[(.slice none 0 0), (.slice none 0 0)] 27)) = w5 at *
        have K5 := hide ((unhide K4).trans q5)
        have S_5 := hide ((unhide S_4).keep q5)
        have D_5 := hide ((unhide D_4).keep q5)
        have T_5 := hide ((unhide T_4).keep q5)
        clear K4 S_4 D_4 T_4 T0_4 T1_4 T4_4
        obtain ⟨T0_5, T1_5, -, -, T4_5⟩ := (unhide T_5).o
        clear q5
        generalize w4.heap.size = B_U at *
        obtain ⟨U0_5, U1_5, -, -, U4_5⟩ := (unhide U_5).o
        refine (of_no _ _ s w5 (unhide S_5) (unhide HM)).mono ?_
        rintro e w6 ⟨rfl, k6⟩
        have K6 := hide ((unhide K5).trans k6)
        have S_6 := hide ((unhide S_5).keep k6)
        have D_6 := hide ((unhide D_5).keep k6)
        have T_6 := hide ((unhide T_5).keep k6)
        have U_6 := hide ((unhide U_5).keep k6)
        clear K5 S_5 D_5 T_5 T0_5 T1_5 T4_5 U_5 U0_5 U1_5 U4_5
        obtain ⟨T0_6, T1_6, -, -, T4_6⟩ := (unhide T_6).o
        obtain ⟨U0_6, U1_6, -, -, U4_6⟩ := (unhide U_6).o
        clear k6
        have hqq : (szE s != szE s) = false := by simp
        generalize hq : szE s = q at *
        have HQ := hide hq
        clear hq
        go_wp2_with fail
        have V_7 := hide (Bx.madeAt w6 (.slice none 0 0) (.slice none 0 0) (w6.heap.size) rfl)
        have q7 := Kp.alloc w6 (.cells #[(.slice none 0 0), (.slice none 0 0)] 27)
        generalize (w6.alloc (.cells #[(.slice none 0 0), (.slice none 0 0)] 27)) = w7 at *
        have K7 := hide ((unhide K6).trans q7)
        have S_7 := hide ((unhide S_6).keep q7)
        have D_7 := hide ((unhide D_6).keep q7)
        have T_7 := hide ((unhide T_6).keep q7)
        have U_7 := hide ((unhide U_6).keep q7)
        clear K6 S_6 D_6 T_6 T0_6 T1_6 T4_6 U_6 U0_6 U1_6 U4_6
        obtain ⟨T0_7, T1_7, -, -, T4_7⟩ := (unhide T_7).o
        obtain ⟨U0_7, U1_7, -, -, U4_7⟩ := (unhide U_7).o
        clear q7
        generalize w6.heap.size = B_V at *
        obtain ⟨V0_7, V1_7, -, -, V4_7⟩ := (unhide V_7).o
        refine (rsameT_any _ _ _ _ [] [] [] [] w7 (Ints.nil _) (Flts.nil _) (Ints.nil _) (Flts.nil _)).mono ?_
        rw [sameT_refl]
        rintro e w8 ⟨rfl, k8⟩
        have K8 := hide ((unhide K7).trans k8)
        have S_8 := hide ((unhide S_7).keep k8)
        have D_8 := hide ((unhide D_7).keep k8)
        have T_8 := hide ((unhide T_7).keep k8)
        have U_8 := hide ((unhide U_7).keep k8)
        have V_8 := hide ((unhide V_7).keep k8)
        clear K7 S_7 D_7 T_7 T0_7 T1_7 T4_7 U_7 U0_7 U1_7 U4_7 V_7 V0_7 V1_7 V4_7
        obtain ⟨T0_8, T1_8, -, -, T4_8⟩ := (unhide T_8).o
        obtain ⟨U0_8, U1_8, -, -, U4_8⟩ := (unhide U_8).o
        obtain ⟨V0_8, V1_8, -, -, V4_8⟩ := (unhide V_8).o
        clear k8
        go_wp2_with fail
        refine (rsize_any _ s w8 (unhide S_8)).mono ?_
        rw [unhide HQ]
        rintro e w9 ⟨rfl, k9⟩
        have K9 := hide ((unhide K8).trans k9)
        have S_9 := hide ((unhide S_8).keep k9)
        have D_9 := hide ((unhide D_8).keep k9)
        have T_9 := hide ((unhide T_8).keep k9)
        have U_9 := hide ((unhide U_8).keep k9)
        have V_9 := hide ((unhide V_8).keep k9)
        clear K8 S_8 D_8 T_8 T0_8 T1_8 T4_8 U_8 U0_8 U1_8 U4_8 V_8 V0_8 V1_8 V4_8
        obtain ⟨T0_9, T1_9, -, -, T4_9⟩ := (unhide T_9).o
        obtain ⟨U0_9, U1_9, -, -, U4_9⟩ := (unhide U_9).o
        obtain ⟨V0_9, V1_9, -, -, V4_9⟩ := (unhide V_9).o
        clear k9
        generalize szN s = q2 at *
        go_wp2
        go_ret
        exact ⟨by simp, unhide K9⟩
      · by_cases hl : (d.length : Int) = prodL s
        ·
          have HM := hide hm
          have HT : Hid (mayT s d = true) := by unfold Hid mayT; rw [hm, hl]; simp
          have HL := hide hl
          have b3 := may_prod hm
          have b4 := prodL_pos (may_good hm).2
          clear hm hl
          go_wp2_with fail
          refine (new_yes _ s x w1 (unhide S_1) hx (unhide HM)).mono ?_
          rintro e w2 ⟨a1, n1, c1, G, n, rfl, hn, o1, hG, og, k2⟩
          have K2 := hide ((unhide K1).trans k2)
          have S_2 := hide ((unhide S_1).keep k2)
          have D_2 := hide ((unhide D_1).keep k2)
          clear K1 S_1 D_1
          clear k2
          have S1_2 := hide (o1.ints (unhide WS) (by have := unhide BS; omega))
          have D1_2 := hide (og.flts (rep_wf hx) (by omega))
          have HN := hide hn
          clear hn o1 hG og
          go_wp2_with fail
          have T_3 := hide (Bx.madeAt w2 (.slice a1 n1 c1) (.slice (some ⟨G, 0, none⟩) n n) (w2.heap.size) rfl)
          have q3 := Kp.alloc w2 (.cells #[(.slice a1 n1 c1), (.slice (some ⟨G, 0, none⟩) n n)] 27)
          generalize (w2.alloc (.cells #[(.slice a1 n1 c1), (.slice (some ⟨G, 0, none⟩) n n)] 27)) = w3 at *
          have K3 := hide ((unhide K2).trans q3)
          have S_3 := hide ((unhide S_2).keep q3)
          have D_3 := hide ((unhide D_2).keep q3)
          have S1_3 := hide ((unhide S1_2).keep q3)
          have D1_3 := hide ((unhide D1_2).keep q3)
          clear K2 S_2 D_2 S1_2 D1_2
          clear q3
          generalize w2.heap.size = B_T at *
          obtain ⟨T0_3, T1_3, -, -, T4_3⟩ := (unhide T_3).o
          refine (rnew_yes _ s x w3 (unhide S_3) (unhide HM)).mono ?_
          rintro e w4 ⟨a2, n2, c2, G2, m, rfl, hn, o1, hG, og, k4⟩
          have K4 := hide ((unhide K3).trans k4)
          have S_4 := hide ((unhide S_3).keep k4)
          have D_4 := hide ((unhide D_3).keep k4)
          have S1_4 := hide ((unhide S1_3).keep k4)
          have D1_4 := hide ((unhide D1_3).keep k4)
          have T_4 := hide ((unhide T_3).keep k4)
          clear K3 S_3 D_3 S1_3 D1_3 T_3 T0_3 T1_3 T4_3
          obtain ⟨T0_4, T1_4, -, -, T4_4⟩ := (unhide T_4).o
          clear k4
          obtain rfl : m = n := by have := unhide HN; omega
          have S2_4 := hide (o1.ints (unhide WS) (by have := unhide BS; omega))
          have D2_4 := hide (og.flts (rep_wf hx) (by have := unhide HN; omega))
          clear hn o1 hG og
          go_wp2_with fail
          have U_5 := hide (Bx.madeAt w4 (.slice a2 n2 c2) (.slice (some ⟨G2, 0, none⟩) m m) (w4.heap.size) rfl)
          have q5 := Kp.alloc w4 (.cells #[(.slice a2 n2 c2), (.slice (some ⟨G2, 0, none⟩) m m)] 27)
          generalize (w4.alloc (.cells #[(.slice a2 n2 c2), (.slice (some ⟨G2, 0, none⟩) m m)] 27)) = w5 at *
          have K5 := hide ((unhide K4).trans q5)
          have S_5 := hide ((unhide S_4).keep q5)
          have D_5 := hide ((unhide D_4).keep q5)
          have S1_5 := hide ((unhide S1_4).keep q5)
          have D1_5 := hide ((unhide D1_4).keep q5)
          have S2_5 := hide ((unhide S2_4).keep q5)
          have D2_5 := hide ((unhide D2_4).keep q5)
          have T_5 := hide ((unhide T_4).keep q5)
          clear K4 S_4 D_4 S1_4 D1_4 S2_4 D2_4 T_4 T0_4 T1_4 T4_4
          obtain ⟨T0_5, T1_5, -, -, T4_5⟩ := (unhide T_5).o
          clear q5
          generalize w4.heap.size = B_U at *
          obtain ⟨U0_5, U1_5, -, -, U4_5⟩ := (unhide U_5).o
          refine (of_yes _ _ s d w5 (unhide S_5) (unhide D_5) (unhide HT)).mono ?_
          rintro e w6 ⟨a3, n3, c3, G3, cc, rfl, o1, hG, og, k6⟩
          have K6 := hide ((unhide K5).trans k6)
          have S_6 := hide ((unhide S_5).keep k6)
          have D_6 := hide ((unhide D_5).keep k6)
          have S1_6 := hide ((unhide S1_5).keep k6)
          have D1_6 := hide ((unhide D1_5).keep k6)
          have S2_6 := hide ((unhide S2_5).keep k6)
          have D2_6 := hide ((unhide D2_5).keep k6)
          have T_6 := hide ((unhide T_5).keep k6)
          have U_6 := hide ((unhide U_5).keep k6)
          clear K5 S_5 D_5 S1_5 D1_5 S2_5 D2_5 T_5 T0_5 T1_5 T4_5 U_5 U0_5 U1_5 U4_5
          obtain ⟨T0_6, T1_6, -, -, T4_6⟩ := (unhide T_6).o
          obtain ⟨U0_6, U1_6, -, -, U4_6⟩ := (unhide U_6).o
          clear k6
          have S3_6 := hide (o1.ints (unhide WS) (by have := unhide BS; omega))
          have D3_6 := hide (og.flts (unhide WD) (by have := unhide BD; omega))
          clear o1 hG og
          go_wp2_with fail
          have V_7 := hide (Bx.madeAt w6 (.slice a3 n3 c3) (.slice (some ⟨G3, 0, none⟩) d.length cc) (w6.heap.size) rfl)
          have q7 := Kp.alloc w6 (.cells #[(.slice a3 n3 c3), (.slice (some ⟨G3, 0, none⟩) d.length cc)] 27)
          generalize (w6.alloc (.cells #[(.slice a3 n3 c3), (.slice (some ⟨G3, 0, none⟩) d.length cc)] 27)) = w7 at *
          have K7 := hide ((unhide K6).trans q7)
          have S_7 := hide ((unhide S_6).keep q7)
          have D_7 := hide ((unhide D_6).keep q7)
          have S1_7 := hide ((unhide S1_6).keep q7)
          have D1_7 := hide ((unhide D1_6).keep q7)
          have S2_7 := hide ((unhide S2_6).keep q7)
          have D2_7 := hide ((unhide D2_6).keep q7)
          have S3_7 := hide ((unhide S3_6).keep q7)
          have D3_7 := hide ((unhide D3_6).keep q7)
          have T_7 := hide ((unhide T_6).keep q7)
          have U_7 := hide ((unhide U_6).keep q7)
          clear K6 S_6 D_6 S1_6 D1_6 S2_6 D2_6 S3_6 D3_6 T_6 T0_6 T1_6 T4_6 U_6 U0_6 U1_6 U4_6
          obtain ⟨T0_7, T1_7, -, -, T4_7⟩ := (unhide T_7).o
          obtain ⟨U0_7, U1_7, -, -, U4_7⟩ := (unhide U_7).o
          clear q7
          generalize w6.heap.size = B_V at *
          obtain ⟨V0_7, V1_7, -, -, V4_7⟩ := (unhide V_7).o
          refine (rsameT_any _ _ _ _ s _ s _ w7 (unhide S1_7) (unhide D1_7) (unhide S2_7) (unhide D2_7)).mono ?_
          rw [sameT_refl]
          rintro e w8 ⟨rfl, k8⟩
          have K8 := hide ((unhide K7).trans k8)
          have S_8 := hide ((unhide S_7).keep k8)
          have D_8 := hide ((unhide D_7).keep k8)
          have S1_8 := hide ((unhide S1_7).keep k8)
          have D1_8 := hide ((unhide D1_7).keep k8)
          have S2_8 := hide ((unhide S2_7).keep k8)
          have D2_8 := hide ((unhide D2_7).keep k8)
          have S3_8 := hide ((unhide S3_7).keep k8)
          have D3_8 := hide ((unhide D3_7).keep k8)
          have T_8 := hide ((unhide T_7).keep k8)
          have U_8 := hide ((unhide U_7).keep k8)
          have V_8 := hide ((unhide V_7).keep k8)
          clear K7 S_7 D_7 S1_7 D1_7 S2_7 D2_7 S3_7 D3_7 T_7 T0_7 T1_7 T4_7 U_7 U0_7 U1_7 U4_7 V_7 V0_7 V1_7 V4_7
          obtain ⟨T0_8, T1_8, -, -, T4_8⟩ := (unhide T_8).o
          obtain ⟨U0_8, U1_8, -, -, U4_8⟩ := (unhide U_8).o
          obtain ⟨V0_8, V1_8, -, -, V4_8⟩ := (unhide V_8).o
          clear k8
          go_wp2_with fail
          refine (rsize_any _ s w8 (unhide S_8)).mono ?_
          rw [szE_yes (unhide HM), szN_yes (unhide HM)]
          rintro e w9 ⟨rfl, k9⟩
          have K9 := hide ((unhide K8).trans k9)
          have S_9 := hide ((unhide S_8).keep k9)
          have D_9 := hide ((unhide D_8).keep k9)
          have S1_9 := hide ((unhide S1_8).keep k9)
          have D1_9 := hide ((unhide D1_8).keep k9)
          have S2_9 := hide ((unhide S2_8).keep k9)
          have D2_9 := hide ((unhide D2_8).keep k9)
          have S3_9 := hide ((unhide S3_8).keep k9)
          have D3_9 := hide ((unhide D3_8).keep k9)
          have T_9 := hide ((unhide T_8).keep k9)
          have U_9 := hide ((unhide U_8).keep k9)
          have V_9 := hide ((unhide V_8).keep k9)
          clear K8 S_8 D_8 S1_8 D1_8 S2_8 D2_8 S3_8 D3_8 T_8 T0_8 T1_8 T4_8 U_8 U0_8 U1_8 U4_8 V_8 V0_8 V1_8 V4_8
          obtain ⟨T0_9, T1_9, -, -, T4_9⟩ := (unhide T_9).o
          obtain ⟨U0_9, U1_9, -, -, U4_9⟩ := (unhide U_9).o
          obtain ⟨V0_9, V1_9, -, -, V4_9⟩ := (unhide V_9).o
          clear k9
          rw [← unhide HL]
          go_wp2_with fail
          refine (rsameT_any _ _ _ _ s d s d w9 (unhide S3_9) (unhide D3_9) (unhide S_9) (unhide D_9)).mono ?_
          rw [sameT_refl]
          rintro e w10 ⟨rfl, k10⟩
          have K10 := hide ((unhide K9).trans k10)
          have S_10 := hide ((unhide S_9).keep k10)
          have D_10 := hide ((unhide D_9).keep k10)
          have S1_10 := hide ((unhide S1_9).keep k10)
          have D1_10 := hide ((unhide D1_9).keep k10)
          have S2_10 := hide ((unhide S2_9).keep k10)
          have D2_10 := hide ((unhide D2_9).keep k10)
          have S3_10 := hide ((unhide S3_9).keep k10)
          have D3_10 := hide ((unhide D3_9).keep k10)
          have T_10 := hide ((unhide T_9).keep k10)
          have U_10 := hide ((unhide U_9).keep k10)
          have V_10 := hide ((unhide V_9).keep k10)
          clear K9 S_9 D_9 S1_9 D1_9 S2_9 D2_9 S3_9 D3_9 T_9 T0_9 T1_9 T4_9 U_9 U0_9 U1_9 U4_9 V_9 V0_9 V1_9 V4_9
          obtain ⟨T0_10, T1_10, -, -, T4_10⟩ := (unhide T_10).o
          obtain ⟨U0_10, U1_10, -, -, U4_10⟩ := (unhide U_10).o
          obtain ⟨V0_10, V1_10, -, -, V4_10⟩ := (unhide V_10).o
          clear k10
          go_wp2
          go_ret
          exact ⟨rfl, unhide K10⟩
        ·
          have HM := hide hm
          have HL := hide hl
          have b3 := may_prod hm
          have b4 := prodL_pos (may_good hm).2
          clear hm hl
          go_wp2_with fail
          refine (new_yes _ s x w1 (unhide S_1) hx (unhide HM)).mono ?_
          rintro e w2 ⟨a1, n1, c1, G, n, rfl, hn, o1, hG, og, k2⟩
          have K2 := hide ((unhide K1).trans k2)
          have S_2 := hide ((unhide S_1).keep k2)
          have D_2 := hide ((unhide D_1).keep k2)
          clear K1 S_1 D_1
          clear k2
          have S1_2 := hide (o1.ints (unhide WS) (by have := unhide BS; omega))
          have D1_2 := hide (og.flts (rep_wf hx) (by omega))
          have HN := hide hn
          clear hn o1 hG og
          go_wp2_with fail
          have T_3 := hide (Bx.madeAt w2 (.slice a1 n1 c1) (.slice (some ⟨G, 0, none⟩) n n) (w2.heap.size) rfl)
          have q3 := Kp.alloc w2 (.cells #[(.slice a1 n1 c1), (.slice (some ⟨G, 0, none⟩) n n)] 27)
          generalize (w2.alloc (.cells #[(.slice a1 n1 c1), (.slice (some ⟨G, 0, none⟩) n n)] 27)) = w3 at *
          have K3 := hide ((unhide K2).trans q3)
          have S_3 := hide ((unhide S_2).keep q3)
          have D_3 := hide ((unhide D_2).keep q3)
          have S1_3 := hide ((unhide S1_2).keep q3)
          have D1_3 := hide ((unhide D1_2).keep q3)
          clear K2 S_2 D_2 S1_2 D1_2
          clear q3
          generalize w2.heap.size = B_T at *
          obtain ⟨T0_3, T1_3, -, -, T4_3⟩ := (unhide T_3).o
          refine (rnew_yes _ s x w3 (unhide S_3) (unhide HM)).mono ?_
          rintro e w4 ⟨a2, n2, c2, G2, m, rfl, hn, o1, hG, og, k4⟩
          have K4 := hide ((unhide K3).trans k4)
          have S_4 := hide ((unhide S_3).keep k4)
          have D_4 := hide ((unhide D_3).keep k4)
          have S1_4 := hide ((unhide S1_3).keep k4)
          have D1_4 := hide ((unhide D1_3).keep k4)
          have T_4 := hide ((unhide T_3).keep k4)
          clear K3 S_3 D_3 S1_3 D1_3 T_3 T0_3 T1_3 T4_3
          obtain ⟨T0_4, T1_4, -, -, T4_4⟩ := (unhide T_4).o
          clear k4
          obtain rfl : m = n := by have := unhide HN; omega
          have S2_4 := hide (o1.ints (unhide WS) (by have := unhide BS; omega))
          have D2_4 := hide (og.flts (rep_wf hx) (by have := unhide HN; omega))
          clear hn o1 hG og
          go_wp2_with fail
          have U_5 := hide (Bx.madeAt w4 (.slice a2 n2 c2) (.slice (some ⟨G2, 0, none⟩) m m) (w4.heap.size) rfl)
          have q5 := Kp.alloc w4 (.cells #[(.slice a2 n2 c2), (.slice (some ⟨G2, 0, none⟩) m m)] 27)
          generalize (w4.alloc (.cells #[(.slice a2 n2 c2), (.slice (some ⟨G2, 0, none⟩) m m)] 27)) = w5 at *
          have K5 := hide ((unhide K4).trans q5)
          have S_5 := hide ((unhide S_4).keep q5)
          have D_5 := hide ((unhide D_4).keep q5)
          have S1_5 := hide ((unhide S1_4).keep q5)
          have D1_5 := hide ((unhide D1_4).keep q5)
          have S2_5 := hide ((unhide S2_4).keep q5)
          have D2_5 := hide ((unhide D2_4).keep q5)
          have T_5 := hide ((unhide T_4).keep q5)
          clear K4 S_4 D_4 S1_4 D1_4 S2_4 D2_4 T_4 T0_4 T1_4 T4_4
          obtain ⟨T0_5, T1_5, -, -, T4_5⟩ := (unhide T_5).o
          clear q5
          generalize w4.heap.size = B_U at *
          obtain ⟨U0_5, U1_5, -, -, U4_5⟩ := (unhide U_5).o
          refine (of_len _ _ s d w5 (unhide S_5) (unhide D_5) (unhide HM) (unhide HL)).mono ?_
          rintro e w6 ⟨rfl, k6⟩
          have K6 := hide ((unhide K5).trans k6)
          have S_6 := hide ((unhide S_5).keep k6)
          have D_6 := hide ((unhide D_5).keep k6)
          have S1_6 := hide ((unhide S1_5).keep k6)
          have D1_6 := hide ((unhide D1_5).keep k6)
          have S2_6 := hide ((unhide S2_5).keep k6)
          have D2_6 := hide ((unhide D2_5).keep k6)
          have T_6 := hide ((unhide T_5).keep k6)
          have U_6 := hide ((unhide U_5).keep k6)
          clear K5 S_5 D_5 S1_5 D1_5 S2_5 D2_5 T_5 T0_5 T1_5 T4_5 U_5 U0_5 U1_5 U4_5
          obtain ⟨T0_6, T1_6, -, -, T4_6⟩ := (unhide T_6).o
          obtain ⟨U0_6, U1_6, -, -, U4_6⟩ := (unhide U_6).o
          clear k6
          go_wp2_with fail
          have V_7 := hide (Bx.madeAt w6 (.slice none 0 0) (.slice none 0 0) (w6.heap.size) rfl)
          have q7 := Kp.alloc w6 (.cells #[(.slice none 0 0), (.slice none 0 0)] 27)
          generalize (w6.alloc (.cells #[(.slice none 0 0), (.slice none 0 0)] 27)) = w7 at *
          have K7 := hide ((unhide K6).trans q7)
          have S_7 := hide ((unhide S_6).keep q7)
          have D_7 := hide ((unhide D_6).keep q7)
          have S1_7 := hide ((unhide S1_6).keep q7)
          have D1_7 := hide ((unhide D1_6).keep q7)
          have S2_7 := hide ((unhide S2_6).keep q7)
          have D2_7 := hide ((unhide D2_6).keep q7)
          have T_7 := hide ((unhide T_6).keep q7)
          have U_7 := hide ((unhide U_6).keep q7)
          clear K6 S_6 D_6 S1_6 D1_6 S2_6 D2_6 T_6 T0_6 T1_6 T4_6 U_6 U0_6 U1_6 U4_6
          obtain ⟨T0_7, T1_7, -, -, T4_7⟩ := (unhide T_7).o
          obtain ⟨U0_7, U1_7, -, -, U4_7⟩ := (unhide U_7).o
          clear q7
          generalize w6.heap.size = B_V at *
          obtain ⟨V0_7, V1_7, -, -, V4_7⟩ := (unhide V_7).o
          refine (rsameT_any _ _ _ _ s _ s _ w7 (unhide S1_7) (unhide D1_7) (unhide S2_7) (unhide D2_7)).mono ?_
          rw [sameT_refl]
          rintro e w8 ⟨rfl, k8⟩
          have K8 := hide ((unhide K7).trans k8)
          have S_8 := hide ((unhide S_7).keep k8)
          have D_8 := hide ((unhide D_7).keep k8)
          have S1_8 := hide ((unhide S1_7).keep k8)
          have D1_8 := hide ((unhide D1_7).keep k8)
          have S2_8 := hide ((unhide S2_7).keep k8)
          have D2_8 := hide ((unhide D2_7).keep k8)
          have T_8 := hide ((unhide T_7).keep k8)
          have U_8 := hide ((unhide U_7).keep k8)
          have V_8 := hide ((unhide V_7).keep k8)
          clear K7 S_7 D_7 S1_7 D1_7 S2_7 D2_7 T_7 T0_7 T1_7 T4_7 U_7 U0_7 U1_7 U4_7 V_7 V0_7 V1_7 V4_7
          obtain ⟨T0_8, T1_8, -, -, T4_8⟩ := (unhide T_8).o
          obtain ⟨U0_8, U1_8, -, -, U4_8⟩ := (unhide U_8).o
          obtain ⟨V0_8, V1_8, -, -, V4_8⟩ := (unhide V_8).o
          clear k8
          go_wp2_with fail
          refine (rsize_any _ s w8 (unhide S_8)).mono ?_
          rw [szE_yes (unhide HM), szN_yes (unhide HM)]
          rintro e w9 ⟨rfl, k9⟩
          have K9 := hide ((unhide K8).trans k9)
          have S_9 := hide ((unhide S_8).keep k9)
          have D_9 := hide ((unhide D_8).keep k9)
          have S1_9 := hide ((unhide S1_8).keep k9)
          have D1_9 := hide ((unhide D1_8).keep k9)
          have S2_9 := hide ((unhide S2_8).keep k9)
          have D2_9 := hide ((unhide D2_8).keep k9)
          have T_9 := hide ((unhide T_8).keep k9)
          have U_9 := hide ((unhide U_8).keep k9)
          have V_9 := hide ((unhide V_8).keep k9)
          clear K8 S_8 D_8 S1_8 D1_8 S2_8 D2_8 T_8 T0_8 T1_8 T4_8 U_8 U0_8 U1_8 U4_8 V_8 V0_8 V1_8 V4_8
          obtain ⟨T0_9, T1_9, -, -, T4_9⟩ := (unhide T_9).o
          obtain ⟨U0_9, U1_9, -, -, U4_9⟩ := (unhide U_9).o
          obtain ⟨V0_9, V1_9, -, -, V4_9⟩ := (unhide V_9).o
          clear k9
          have hne : (prodL s != (d.length : Int)) = true := by have := unhide HL; simp; omega
          generalize prodL s = q at *
          go_wp2
          go_ret
          exact ⟨rfl, unhide K9⟩
    · have g2' : (8192 : Int) < (d.length : Int) := by omega
      clear h0 h2 g1 g2
      go_enter Try.func3, Try.ntmps3
      go_wp2_with fail
      refine (awake3_any w).mono ?_
      rintro e w1 ⟨rfl, k1⟩
      go_wp2
      go_ret
      exact ⟨rfl, k1⟩
  · have g1' : (40 : Int) < (s.length : Int) := by omega
    clear h0 h2 g1
    go_enter Try.func3, Try.ntmps3
    go_wp2_with fail
    refine (awake3_any w).mono ?_
    rintro e w1 ⟨rfl, k1⟩
    go_wp2
    go_ret
    exact ⟨rfl, k1⟩

end Go.Proofs.Ytehlkbgjaegpjaa
