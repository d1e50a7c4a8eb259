
/- The law HookKnown, walked. -/
import Derived.Test.YtlfjclnocbohbaaHokK
import Derived.Deep.DeepCutAuto
namespace Go.Proofs.Ytlfjclnocbohbaa
open Go.RowKit

set_option maxRecDepth 20000 in
set_option maxHeartbeats 40000000 in
theorem known9_walk (w : World) : Calls Try.prog 6 #[] w fun e w' => e = .returned (.bool true) ∧ Kp w w' := by
  go_enter Try.func6, Try.ntmps6
  go_wp2_with fail
  refine (awake9_any w).mono ?_
  rintro e w1 ⟨rfl, k1⟩
  have K1 := hide k1
  clear k1
  go_wp2_with fail
  refine (copysign9 w1).mono ?_
  rintro e w2 ⟨rfl, k2⟩
  have K2 := hide ((unhide K1).trans k2)
  clear K1
  clear k2
  go_wp2_with fail
  refine (kp_of (inf_any w2)).mono ?_
  rintro e w3 ⟨rfl, k3⟩
  have K3 := hide ((unhide K2).trans k3)
  clear K2
  clear k3
  go_wp2_with fail
  refine (kp_of (nan_any w3)).mono ?_
  rintro e w4 ⟨rfl, k4⟩
  have K4 := hide ((unhide K3).trans k4)
  clear K3
  clear k4
  go_wp2_with fail
  have H_5 := hide ((lit_hooks w4 [⟨2, 4611686018427387904⟩] #[.int .i64 2, .float .f64 4611686018427387904] (w4.heap.size) 1 1 rfl rfl rfl (by decide) (by decide)).keep (Kp.alloc (w4.alloc (.cells #[.int .i64 2, .float .f64 4611686018427387904] 52)) (.cells #[.float .f64 13840687554816376832, .float .f64 13835058055282163712, .float .f64 4607182418800017408, .float .f64 4611686018427387904, .float .f64 4617315517961601024, .float .f64 9218868437227405312, .float .f64 9221120237041090561] 23)))
  have U_5 := hide (lit_flts (w4.alloc (.cells #[.int .i64 2, .float .f64 4611686018427387904] 52)) 23 [13840687554816376832, 13835058055282163712, 4607182418800017408, 4611686018427387904, 4617315517961601024, 9218868437227405312, 9221120237041090561] #[.float .f64 13840687554816376832, .float .f64 13835058055282163712, .float .f64 4607182418800017408, .float .f64 4611686018427387904, .float .f64 4617315517961601024, .float .f64 9218868437227405312, .float .f64 9221120237041090561] (w4.heap.size + 1) 7 rfl (by simp) rfl (by unfold W64; decide) (by decide))
  have q5 := (Kp.alloc w4 (.cells #[.int .i64 2, .float .f64 4611686018427387904] 52)).trans (Kp.alloc (w4.alloc (.cells #[.int .i64 2, .float .f64 4611686018427387904] 52)) (.cells #[.float .f64 13840687554816376832, .float .f64 13835058055282163712, .float .f64 4607182418800017408, .float .f64 4611686018427387904, .float .f64 4617315517961601024, .float .f64 9218868437227405312, .float .f64 9221120237041090561] 23))
  generalize ((w4.alloc (.cells #[.int .i64 2, .float .f64 4611686018427387904] 52)).alloc (.cells #[.float .f64 13840687554816376832, .float .f64 13835058055282163712, .float .f64 4607182418800017408, .float .f64 4611686018427387904, .float .f64 4617315517961601024, .float .f64 9218868437227405312, .float .f64 9221120237041090561] 23)) = w5 at *
  have K5 := hide ((unhide K4).trans q5)
  clear K4
  clear q5
  generalize w4.heap.size + 1 = B_U at *
  generalize w4.heap.size = B_H at *
  refine (of9_any _ 7 _ w5 (by decide)).mono ?_
  rintro e w6 ⟨LA, rfl, hi, k6⟩
  have K6 := hide ((unhide K5).trans k6)
  have H_6 := hide ((unhide H_5).keep k6)
  have U_6 := hide ((unhide U_5).keep k6)
  clear K5 H_5 U_5
  clear k6
  have V_6 : Hid (Ints w6 (.slice (some ⟨LA, 0, none⟩) 1 1) [7]) := hi
  clear hi
  go_wp2_with fail
  refine (do_all _ [⟨2, 4611686018427387904⟩] _ _ [7] [13840687554816376832, 13835058055282163712, 4607182418800017408, 4611686018427387904, 4617315517961601024, 9218868437227405312, 9221120237041090561] w6 (unhide H_6) (unhide V_6) (unhide U_6)).mono ?_
  rw [show hoS [⟨2, 4611686018427387904⟩] [7] [13840687554816376832, 13835058055282163712, 4607182418800017408, 4611686018427387904, 4617315517961601024, 9218868437227405312, 9221120237041090561] = [7] by decide +kernel, show hoE [⟨2, 4611686018427387904⟩] [7] [13840687554816376832, 13835058055282163712, 4607182418800017408, 4611686018427387904, 4617315517961601024, 9218868437227405312, 9221120237041090561] = 0 by decide +kernel, show hoD [⟨2, 4611686018427387904⟩] [7] [13840687554816376832, 13835058055282163712, 4607182418800017408, 4611686018427387904, 4617315517961601024, 9218868437227405312, 9221120237041090561] = [13835058055282163712, 13835058055282163712, 4607182418800017408, 4611686018427387904, 4611686018427387904, 4611686018427387904, 9221120237041090561] by decide +kernel]
  rintro e w7 ⟨dsA, ⟨aA, cA, bA, eA, rfl, i1, f1, -, -⟩, hc, k7⟩
  have K7 := hide ((unhide K6).trans k7)
  have H_7 := hide ((unhide H_6).keep k7)
  have U_7 := hide ((unhide U_6).keep k7)
  have V_7 := hide ((unhide V_6).keep k7)
  clear K6 H_6 U_6 V_6
  clear k7
  clear H_7
  clear U_7
  clear V_7
  have hlA : dsA.length = 7 := by have := congrArg List.length hc; simpa using this
  rw [hlA] at f1 ⊢
  have HCA := hide hc
  clear hc hlA
  have IA_7 : Hid (Ints w7 (.slice aA 1 cA) [7]) := i1
  clear i1
  have FA_7 : Hid (Flts w7 (.slice bA 7 eA) dsA) := f1
  clear f1
  go_upto_region 6 with fail
  have BA_8 := hide (Bx.madeAt w7 (.slice aA 1 cA) (.slice bA 7 eA) (w7.heap.size) rfl)
  have q8 := Kp.alloc w7 (.cells #[(.slice aA 1 cA), (.slice bA 7 eA)] 31)
  generalize (w7.alloc (.cells #[(.slice aA 1 cA), (.slice bA 7 eA)] 31)) = w8 at *
  have K8 := hide ((unhide K7).trans q8)
  have IA_8 := hide ((unhide IA_7).keep q8)
  have FA_8 := hide ((unhide FA_7).keep q8)
  clear K7 IA_7 FA_7
  clear q8
  generalize w7.heap.size = B_BA at *
  obtain ⟨BA0_8, BA1_8, -, -, BA4_8⟩ := (unhide BA_8).o
  go_wp2_with fail
  have H_9 := hide ((lit_hooks w8 [⟨2, 0⟩] #[.int .i64 2, .float .f64 0] (w8.heap.size) 1 1 rfl rfl rfl (by decide) (by decide)).keep (Kp.alloc (w8.alloc (.cells #[.int .i64 2, .float .f64 0] 52)) (.cells #[.float .f64 13840687554816376832, .float .f64 9223372036854775808, .float .f64 0, .float .f64 4617315517961601024] 23)))
  have U_9 := hide (lit_flts (w8.alloc (.cells #[.int .i64 2, .float .f64 0] 52)) 23 [13840687554816376832, 9223372036854775808, 0, 4617315517961601024] #[.float .f64 13840687554816376832, .float .f64 9223372036854775808, .float .f64 0, .float .f64 4617315517961601024] (w8.heap.size + 1) 4 rfl (by simp) rfl (by unfold W64; decide) (by decide))
  have q9 := (Kp.alloc w8 (.cells #[.int .i64 2, .float .f64 0] 52)).trans (Kp.alloc (w8.alloc (.cells #[.int .i64 2, .float .f64 0] 52)) (.cells #[.float .f64 13840687554816376832, .float .f64 9223372036854775808, .float .f64 0, .float .f64 4617315517961601024] 23))
  generalize ((w8.alloc (.cells #[.int .i64 2, .float .f64 0] 52)).alloc (.cells #[.float .f64 13840687554816376832, .float .f64 9223372036854775808, .float .f64 0, .float .f64 4617315517961601024] 23)) = w9 at *
  have K9 := hide ((unhide K8).trans q9)
  have IA_9 := hide ((unhide IA_8).keep q9)
  have FA_9 := hide ((unhide FA_8).keep q9)
  have BA_9 := hide ((unhide BA_8).keep q9)
  clear K8 IA_8 FA_8 BA_8 BA0_8 BA1_8 BA4_8
  obtain ⟨BA0_9, BA1_9, -, -, BA4_9⟩ := (unhide BA_9).o
  clear q9
  generalize w8.heap.size + 1 = B_U at *
  generalize w8.heap.size = B_H at *
  refine (of9_any _ 4 _ w9 (by decide)).mono ?_
  rintro e w10 ⟨LB, rfl, hi, k10⟩
  have K10 := hide ((unhide K9).trans k10)
  have IA_10 := hide ((unhide IA_9).keep k10)
  have FA_10 := hide ((unhide FA_9).keep k10)
  have H_10 := hide ((unhide H_9).keep k10)
  have U_10 := hide ((unhide U_9).keep k10)
  have BA_10 := hide ((unhide BA_9).keep k10)
  clear K9 IA_9 FA_9 H_9 U_9 BA_9 BA0_9 BA1_9 BA4_9
  obtain ⟨BA0_10, BA1_10, -, -, BA4_10⟩ := (unhide BA_10).o
  clear k10
  have V_10 : Hid (Ints w10 (.slice (some ⟨LB, 0, none⟩) 1 1) [4]) := hi
  clear hi
  go_wp2_with fail
  refine (do_all _ [⟨2, 0⟩] _ _ [4] [13840687554816376832, 9223372036854775808, 0, 4617315517961601024] w10 (unhide H_10) (unhide V_10) (unhide U_10)).mono ?_
  rw [show hoS [⟨2, 0⟩] [4] [13840687554816376832, 9223372036854775808, 0, 4617315517961601024] = [4] by decide +kernel, show hoE [⟨2, 0⟩] [4] [13840687554816376832, 9223372036854775808, 0, 4617315517961601024] = 0 by decide +kernel, show hoD [⟨2, 0⟩] [4] [13840687554816376832, 9223372036854775808, 0, 4617315517961601024] = [9223372036854775808, 9223372036854775808, 0, 0] by decide +kernel]
  rintro e w11 ⟨dsB, ⟨aB, cB, bB, eB, rfl, i1, f1, -, -⟩, hc, k11⟩
  have K11 := hide ((unhide K10).trans k11)
  have IA_11 := hide ((unhide IA_10).keep k11)
  have FA_11 := hide ((unhide FA_10).keep k11)
  have H_11 := hide ((unhide H_10).keep k11)
  have U_11 := hide ((unhide U_10).keep k11)
  have V_11 := hide ((unhide V_10).keep k11)
  have BA_11 := hide ((unhide BA_10).keep k11)
  clear K10 IA_10 FA_10 H_10 U_10 V_10 BA_10 BA0_10 BA1_10 BA4_10
  obtain ⟨BA0_11, BA1_11, -, -, BA4_11⟩ := (unhide BA_11).o
  clear k11
  clear H_11
  clear U_11
  clear V_11
  have hlB : dsB.length = 4 := by have := congrArg List.length hc; simpa using this
  rw [hlB] at f1 ⊢
  have HCB := hide hc
  clear hc hlB
  have IB_11 : Hid (Ints w11 (.slice aB 1 cB) [4]) := i1
  clear i1
  have FB_11 : Hid (Flts w11 (.slice bB 4 eB) dsB) := f1
  clear f1
  go_upto_region 7 with fail
  have BB_12 := hide (Bx.madeAt w11 (.slice aB 1 cB) (.slice bB 4 eB) (w11.heap.size) rfl)
  have q12 := Kp.alloc w11 (.cells #[(.slice aB 1 cB), (.slice bB 4 eB)] 31)
  generalize (w11.alloc (.cells #[(.slice aB 1 cB), (.slice bB 4 eB)] 31)) = w12 at *
  have K12 := hide ((unhide K11).trans q12)
  have IA_12 := hide ((unhide IA_11).keep q12)
  have FA_12 := hide ((unhide FA_11).keep q12)
  have IB_12 := hide ((unhide IB_11).keep q12)
  have FB_12 := hide ((unhide FB_11).keep q12)
  have BA_12 := hide ((unhide BA_11).keep q12)
  clear K11 IA_11 FA_11 IB_11 FB_11 BA_11 BA0_11 BA1_11 BA4_11
  obtain ⟨BA0_12, BA1_12, -, -, BA4_12⟩ := (unhide BA_12).o
  clear q12
  generalize w11.heap.size = B_BB at *
  obtain ⟨BB0_12, BB1_12, -, -, BB4_12⟩ := (unhide BB_12).o
  go_wp2_with fail
  have H_13 := hide ((lit_hooks w12 [⟨3, 0⟩, ⟨4, 0⟩] #[.int .i64 3, .float .f64 0, .int .i64 4, .float .f64 0] (w12.heap.size) 2 2 rfl rfl rfl (by decide) (by decide)).keep (Kp.alloc (w12.alloc (.cells #[.int .i64 3, .float .f64 0, .int .i64 4, .float .f64 0] 52)) (.cells #[.float .f64 9221120237041090561, .float .f64 9218868437227405312] 23)))
  have U_13 := hide (lit_flts (w12.alloc (.cells #[.int .i64 3, .float .f64 0, .int .i64 4, .float .f64 0] 52)) 23 [9221120237041090561, 9218868437227405312] #[.float .f64 9221120237041090561, .float .f64 9218868437227405312] (w12.heap.size + 1) 2 rfl (by simp) rfl (by unfold W64; decide) (by decide))
  have q13 := (Kp.alloc w12 (.cells #[.int .i64 3, .float .f64 0, .int .i64 4, .float .f64 0] 52)).trans (Kp.alloc (w12.alloc (.cells #[.int .i64 3, .float .f64 0, .int .i64 4, .float .f64 0] 52)) (.cells #[.float .f64 9221120237041090561, .float .f64 9218868437227405312] 23))
  generalize ((w12.alloc (.cells #[.int .i64 3, .float .f64 0, .int .i64 4, .float .f64 0] 52)).alloc (.cells #[.float .f64 9221120237041090561, .float .f64 9218868437227405312] 23)) = w13 at *
  have K13 := hide ((unhide K12).trans q13)
  have IA_13 := hide ((unhide IA_12).keep q13)
  have FA_13 := hide ((unhide FA_12).keep q13)
  have IB_13 := hide ((unhide IB_12).keep q13)
  have FB_13 := hide ((unhide FB_12).keep q13)
  have BA_13 := hide ((unhide BA_12).keep q13)
  have BB_13 := hide ((unhide BB_12).keep q13)
  clear K12 IA_12 FA_12 IB_12 FB_12 BA_12 BA0_12 BA1_12 BA4_12 BB_12 BB0_12 BB1_12 BB4_12
  obtain ⟨BA0_13, BA1_13, -, -, BA4_13⟩ := (unhide BA_13).o
  obtain ⟨BB0_13, BB1_13, -, -, BB4_13⟩ := (unhide BB_13).o
  clear q13
  generalize w12.heap.size + 1 = B_U at *
  generalize w12.heap.size = B_H at *
  refine (of9_any _ 2 _ w13 (by decide)).mono ?_
  rintro e w14 ⟨LC, rfl, hi, k14⟩
  have K14 := hide ((unhide K13).trans k14)
  have IA_14 := hide ((unhide IA_13).keep k14)
  have FA_14 := hide ((unhide FA_13).keep k14)
  have IB_14 := hide ((unhide IB_13).keep k14)
  have FB_14 := hide ((unhide FB_13).keep k14)
  have H_14 := hide ((unhide H_13).keep k14)
  have U_14 := hide ((unhide U_13).keep k14)
  have BA_14 := hide ((unhide BA_13).keep k14)
  have BB_14 := hide ((unhide BB_13).keep k14)
  clear K13 IA_13 FA_13 IB_13 FB_13 H_13 U_13 BA_13 BA0_13 BA1_13 BA4_13 BB_13 BB0_13 BB1_13 BB4_13
  obtain ⟨BA0_14, BA1_14, -, -, BA4_14⟩ := (unhide BA_14).o
  obtain ⟨BB0_14, BB1_14, -, -, BB4_14⟩ := (unhide BB_14).o
  clear k14
  have V_14 : Hid (Ints w14 (.slice (some ⟨LC, 0, none⟩) 1 1) [2]) := hi
  clear hi
  go_wp2_with fail
  refine (do_all _ [⟨3, 0⟩, ⟨4, 0⟩] _ _ [2] [9221120237041090561, 9218868437227405312] w14 (unhide H_14) (unhide V_14) (unhide U_14)).mono ?_
  rw [show hoS [⟨3, 0⟩, ⟨4, 0⟩] [2] [9221120237041090561, 9218868437227405312] = [2] by decide +kernel, show hoE [⟨3, 0⟩, ⟨4, 0⟩] [2] [9221120237041090561, 9218868437227405312] = 0 by decide +kernel, show hoD [⟨3, 0⟩, ⟨4, 0⟩] [2] [9221120237041090561, 9218868437227405312] = [0, 0] by decide +kernel]
  rintro e w15 ⟨dsC, ⟨aC, cC, bC, eC, rfl, i1, f1, -, -⟩, hc, k15⟩
  have K15 := hide ((unhide K14).trans k15)
  have IA_15 := hide ((unhide IA_14).keep k15)
  have FA_15 := hide ((unhide FA_14).keep k15)
  have IB_15 := hide ((unhide IB_14).keep k15)
  have FB_15 := hide ((unhide FB_14).keep k15)
  have H_15 := hide ((unhide H_14).keep k15)
  have U_15 := hide ((unhide U_14).keep k15)
  have V_15 := hide ((unhide V_14).keep k15)
  have BA_15 := hide ((unhide BA_14).keep k15)
  have BB_15 := hide ((unhide BB_14).keep k15)
  clear K14 IA_14 FA_14 IB_14 FB_14 H_14 U_14 V_14 BA_14 BA0_14 BA1_14 BA4_14 BB_14 BB0_14 BB1_14 BB4_14
  obtain ⟨BA0_15, BA1_15, -, -, BA4_15⟩ := (unhide BA_15).o
  obtain ⟨BB0_15, BB1_15, -, -, BB4_15⟩ := (unhide BB_15).o
  clear k15
  clear H_15
  clear U_15
  clear V_15
  have hlC : dsC.length = 2 := by have := congrArg List.length hc; simpa using this
  rw [hlC] at f1 ⊢
  have HCC := hide hc
  clear hc hlC
  have IC_15 : Hid (Ints w15 (.slice aC 1 cC) [2]) := i1
  clear i1
  have FC_15 : Hid (Flts w15 (.slice bC 2 eC) dsC) := f1
  clear f1
  go_upto_region 8 with fail
  have BC_16 := hide (Bx.madeAt w15 (.slice aC 1 cC) (.slice bC 2 eC) (w15.heap.size) rfl)
  have q16 := Kp.alloc w15 (.cells #[(.slice aC 1 cC), (.slice bC 2 eC)] 31)
  generalize (w15.alloc (.cells #[(.slice aC 1 cC), (.slice bC 2 eC)] 31)) = w16 at *
  have K16 := hide ((unhide K15).trans q16)
  have IA_16 := hide ((unhide IA_15).keep q16)
  have FA_16 := hide ((unhide FA_15).keep q16)
  have IB_16 := hide ((unhide IB_15).keep q16)
  have FB_16 := hide ((unhide FB_15).keep q16)
  have IC_16 := hide ((unhide IC_15).keep q16)
  have FC_16 := hide ((unhide FC_15).keep q16)
  have BA_16 := hide ((unhide BA_15).keep q16)
  have BB_16 := hide ((unhide BB_15).keep q16)
  clear K15 IA_15 FA_15 IB_15 FB_15 IC_15 FC_15 BA_15 BA0_15 BA1_15 BA4_15 BB_15 BB0_15 BB1_15 BB4_15
  obtain ⟨BA0_16, BA1_16, -, -, BA4_16⟩ := (unhide BA_16).o
  obtain ⟨BB0_16, BB1_16, -, -, BB4_16⟩ := (unhide BB_16).o
  clear q16
  generalize w15.heap.size = B_BC at *
  obtain ⟨BC0_16, BC1_16, -, -, BC4_16⟩ := (unhide BC_16).o
  go_wp2_with fail
  have H_17 := hide ((lit_hooks w16 [⟨4, 0⟩, ⟨3, 0⟩] #[.int .i64 4, .float .f64 0, .int .i64 3, .float .f64 0] (w16.heap.size) 2 2 rfl rfl rfl (by decide) (by decide)).keep (Kp.alloc (w16.alloc (.cells #[.int .i64 4, .float .f64 0, .int .i64 3, .float .f64 0] 52)) (.cells #[.float .f64 9221120237041090561, .float .f64 9218868437227405312] 23)))
  have U_17 := hide (lit_flts (w16.alloc (.cells #[.int .i64 4, .float .f64 0, .int .i64 3, .float .f64 0] 52)) 23 [9221120237041090561, 9218868437227405312] #[.float .f64 9221120237041090561, .float .f64 9218868437227405312] (w16.heap.size + 1) 2 rfl (by simp) rfl (by unfold W64; decide) (by decide))
  have q17 := (Kp.alloc w16 (.cells #[.int .i64 4, .float .f64 0, .int .i64 3, .float .f64 0] 52)).trans (Kp.alloc (w16.alloc (.cells #[.int .i64 4, .float .f64 0, .int .i64 3, .float .f64 0] 52)) (.cells #[.float .f64 9221120237041090561, .float .f64 9218868437227405312] 23))
  generalize ((w16.alloc (.cells #[.int .i64 4, .float .f64 0, .int .i64 3, .float .f64 0] 52)).alloc (.cells #[.float .f64 9221120237041090561, .float .f64 9218868437227405312] 23)) = w17 at *
  have K17 := hide ((unhide K16).trans q17)
  have IA_17 := hide ((unhide IA_16).keep q17)
  have FA_17 := hide ((unhide FA_16).keep q17)
  have IB_17 := hide ((unhide IB_16).keep q17)
  have FB_17 := hide ((unhide FB_16).keep q17)
  have IC_17 := hide ((unhide IC_16).keep q17)
  have FC_17 := hide ((unhide FC_16).keep q17)
  have BA_17 := hide ((unhide BA_16).keep q17)
  have BB_17 := hide ((unhide BB_16).keep q17)
  have BC_17 := hide ((unhide BC_16).keep q17)
  clear K16 IA_16 FA_16 IB_16 FB_16 IC_16 FC_16 BA_16 BA0_16 BA1_16 BA4_16 BB_16 BB0_16 BB1_16 BB4_16 BC_16 BC0_16 BC1_16 BC4_16
  obtain ⟨BA0_17, BA1_17, -, -, BA4_17⟩ := (unhide BA_17).o
  obtain ⟨BB0_17, BB1_17, -, -, BB4_17⟩ := (unhide BB_17).o
  obtain ⟨BC0_17, BC1_17, -, -, BC4_17⟩ := (unhide BC_17).o
  clear q17
  generalize w16.heap.size + 1 = B_U at *
  generalize w16.heap.size = B_H at *
  refine (of9_any _ 2 _ w17 (by decide)).mono ?_
  rintro e w18 ⟨LH, rfl, hi, k18⟩
  have K18 := hide ((unhide K17).trans k18)
  have IA_18 := hide ((unhide IA_17).keep k18)
  have FA_18 := hide ((unhide FA_17).keep k18)
  have IB_18 := hide ((unhide IB_17).keep k18)
  have FB_18 := hide ((unhide FB_17).keep k18)
  have IC_18 := hide ((unhide IC_17).keep k18)
  have FC_18 := hide ((unhide FC_17).keep k18)
  have H_18 := hide ((unhide H_17).keep k18)
  have U_18 := hide ((unhide U_17).keep k18)
  have BA_18 := hide ((unhide BA_17).keep k18)
  have BB_18 := hide ((unhide BB_17).keep k18)
  have BC_18 := hide ((unhide BC_17).keep k18)
  clear K17 IA_17 FA_17 IB_17 FB_17 IC_17 FC_17 H_17 U_17 BA_17 BA0_17 BA1_17 BA4_17 BB_17 BB0_17 BB1_17 BB4_17 BC_17 BC0_17 BC1_17 BC4_17
  obtain ⟨BA0_18, BA1_18, -, -, BA4_18⟩ := (unhide BA_18).o
  obtain ⟨BB0_18, BB1_18, -, -, BB4_18⟩ := (unhide BB_18).o
  obtain ⟨BC0_18, BC1_18, -, -, BC4_18⟩ := (unhide BC_18).o
  clear k18
  have V_18 : Hid (Ints w18 (.slice (some ⟨LH, 0, none⟩) 1 1) [2]) := hi
  clear hi
  go_wp2_with fail
  refine (do_all _ [⟨4, 0⟩, ⟨3, 0⟩] _ _ [2] [9221120237041090561, 9218868437227405312] w18 (unhide H_18) (unhide V_18) (unhide U_18)).mono ?_
  rw [show hoS [⟨4, 0⟩, ⟨3, 0⟩] [2] [9221120237041090561, 9218868437227405312] = [] by decide +kernel, show hoE [⟨4, 0⟩, ⟨3, 0⟩] [2] [9221120237041090561, 9218868437227405312] = 8 by decide +kernel, show hoD [⟨4, 0⟩, ⟨3, 0⟩] [2] [9221120237041090561, 9218868437227405312] = [] by decide +kernel]
  rintro e w19 ⟨dsH, ⟨aH, cH, bH, eH, rfl, i1, f1, -, -⟩, hc, k19⟩
  have K19 := hide ((unhide K18).trans k19)
  have IA_19 := hide ((unhide IA_18).keep k19)
  have FA_19 := hide ((unhide FA_18).keep k19)
  have IB_19 := hide ((unhide IB_18).keep k19)
  have FB_19 := hide ((unhide FB_18).keep k19)
  have IC_19 := hide ((unhide IC_18).keep k19)
  have FC_19 := hide ((unhide FC_18).keep k19)
  have H_19 := hide ((unhide H_18).keep k19)
  have U_19 := hide ((unhide U_18).keep k19)
  have V_19 := hide ((unhide V_18).keep k19)
  have BA_19 := hide ((unhide BA_18).keep k19)
  have BB_19 := hide ((unhide BB_18).keep k19)
  have BC_19 := hide ((unhide BC_18).keep k19)
  clear K18 IA_18 FA_18 IB_18 FB_18 IC_18 FC_18 H_18 U_18 V_18 BA_18 BA0_18 BA1_18 BA4_18 BB_18 BB0_18 BB1_18 BB4_18 BC_18 BC0_18 BC1_18 BC4_18
  obtain ⟨BA0_19, BA1_19, -, -, BA4_19⟩ := (unhide BA_19).o
  obtain ⟨BB0_19, BB1_19, -, -, BB4_19⟩ := (unhide BB_19).o
  obtain ⟨BC0_19, BC1_19, -, -, BC4_19⟩ := (unhide BC_19).o
  clear k19
  clear H_19
  clear U_19
  clear V_19
  have hlH : dsH.length = 0 := by have := congrArg List.length hc; simpa using this
  rw [hlH] at f1 ⊢
  have HCH := hide hc
  clear hc hlH
  clear i1 f1
  go_upto_region 9 with fail
  have BH_20 := hide (Bx.madeAt w19 (.slice aH 0 cH) (.slice bH 0 eH) (w19.heap.size) rfl)
  have q20 := Kp.alloc w19 (.cells #[(.slice aH 0 cH), (.slice bH 0 eH)] 31)
  generalize (w19.alloc (.cells #[(.slice aH 0 cH), (.slice bH 0 eH)] 31)) = w20 at *
  have K20 := hide ((unhide K19).trans q20)
  have IA_20 := hide ((unhide IA_19).keep q20)
  have FA_20 := hide ((unhide FA_19).keep q20)
  have IB_20 := hide ((unhide IB_19).keep q20)
  have FB_20 := hide ((unhide FB_19).keep q20)
  have IC_20 := hide ((unhide IC_19).keep q20)
  have FC_20 := hide ((unhide FC_19).keep q20)
  have BA_20 := hide ((unhide BA_19).keep q20)
  have BB_20 := hide ((unhide BB_19).keep q20)
  have BC_20 := hide ((unhide BC_19).keep q20)
  clear K19 IA_19 FA_19 IB_19 FB_19 IC_19 FC_19 BA_19 BA0_19 BA1_19 BA4_19 BB_19 BB0_19 BB1_19 BB4_19 BC_19 BC0_19 BC1_19 BC4_19
  obtain ⟨BA0_20, BA1_20, -, -, BA4_20⟩ := (unhide BA_20).o
  obtain ⟨BB0_20, BB1_20, -, -, BB4_20⟩ := (unhide BB_20).o
  obtain ⟨BC0_20, BC1_20, -, -, BC4_20⟩ := (unhide BC_20).o
  clear q20
  generalize w19.heap.size = B_BH at *
  obtain ⟨BH0_20, BH1_20, -, -, BH4_20⟩ := (unhide BH_20).o
  have mk1 := mk_hook1
  have CO := hide (fun w0 (k : Kp w20 w0) p r => (of9_any p 1 r w0 (by decide)).mono (R' := fun ee w' => ∃ L, ee = .returned (.agg #[.slice (some ⟨L, 0, none⟩) 1 1, .slice p 1 r]) ∧ Hid (Kp w0 w') ∧ Hid (Kp w20 w')) (by
    rintro ee w' ⟨L, rfl, hi, k'⟩
    exact ⟨L, rfl, k', k.trans k'⟩))
  have CD := hide (fun w0 (k : Kp w20 w0) v sv dv (hv : Hooks w0 v [⟨0, 0⟩]) => (do_no v [⟨0, 0⟩] sv dv w0 hv (by decide +kernel)).mono (R' := fun ee w' => ee = .returned (.tuple #[.agg #[.slice none 0 0, .slice none 0 0], .int .i64 8]) ∧ Hid (Kp w0 w') ∧ Hid (Kp w20 w')) (by
    rintro ee w' ⟨rfl, k'⟩
    exact ⟨rfl, k', k.trans k'⟩))
  go_cut [14] (fun ev wx => ev = .int .i64 8 ∧ Hid (Kp w20 wx))
  case first =>
    go_region_with (first
      | (go_at_call 18; refine ((unhide CO) _ ?_ _ _).mono ?_; (repeat (first | exact Kp.drew _ | exact Kp.alloc _ _ | refine Kp.trans ?_ (Kp.drew _) | refine Kp.trans ?_ (Kp.alloc _ _))); rintro ee z1 ⟨L1, rfl, J1, Q1⟩)
      | (go_at_call 13; refine ((unhide CD) _ ?_ _ _ _ ?_).mono ?_; (repeat (first | exact unhide Q1 | exact Kp.drew _ | exact Kp.alloc _ _ | refine Kp.trans ?_ (Kp.drew _) | refine Kp.trans ?_ (Kp.alloc _ _))); (repeat (first | (refine lit_hooks _ [⟨0, 0⟩] #[.int .i64 0, .float .f64 0] _ 1 1 rfl ?_ rfl (Nat.le_of_ble_eq_true rfl) rfl; (focus (first | with_reducible rfl | (rw [World.size_alloc]; done) | (rw [World.size_alloc, World.size_alloc]; done)))) | refine Hooks.keep ?_ (unhide J1) | refine Hooks.keep ?_ (Kp.drew _) | refine Hooks.keep ?_ (Kp.alloc _ _))); rintro ee z2 ⟨rfl, J2, Q2⟩; (first | (refine useBx (w := z2) (B := w20.heap.size) ?_ ?_; (focus ((repeat (first | (refine Bx.madeAt _ _ _ _ ?_; (focus (first | with_reducible rfl | (rw [World.size_alloc]; done) | (rw [World.size_alloc, World.size_alloc]; done)))) | refine Bx.keep ?_ (unhide J2) | refine Bx.keep ?_ (unhide J1) | refine Bx.keep ?_ (Kp.drew _) | refine Bx.keep ?_ (Kp.alloc _ _))); done)); rintro ⟨s0, s1, s2, s3, s4⟩) | (refine useBx (w := z2) (B := w20.heap.size + 1) ?_ ?_; (focus ((repeat (first | (refine Bx.madeAt _ _ _ _ ?_; (focus (first | with_reducible rfl | (rw [World.size_alloc]; done) | (rw [World.size_alloc, World.size_alloc]; done)))) | refine Bx.keep ?_ (unhide J2) | refine Bx.keep ?_ (unhide J1) | refine Bx.keep ?_ (Kp.drew _) | refine Bx.keep ?_ (Kp.alloc _ _))); done)); rintro ⟨s0, s1, s2, s3, s4⟩) | (refine useBx (w := z2) (B := w20.heap.size + 1 + 1) ?_ ?_; (focus ((repeat (first | (refine Bx.madeAt _ _ _ _ ?_; (focus (first | with_reducible rfl | (rw [World.size_alloc]; done) | (rw [World.size_alloc, World.size_alloc]; done)))) | refine Bx.keep ?_ (unhide J2) | refine Bx.keep ?_ (unhide J1) | refine Bx.keep ?_ (Kp.drew _) | refine Bx.keep ?_ (Kp.alloc _ _))); done)); rintro ⟨s0, s1, s2, s3, s4⟩) | (refine useBx (w := z2) (B := z1.heap.size) ?_ ?_; (focus ((repeat (first | (refine Bx.madeAt _ _ _ _ ?_; (focus (first | with_reducible rfl | (rw [World.size_alloc]; done) | (rw [World.size_alloc, World.size_alloc]; done)))) | refine Bx.keep ?_ (unhide J2) | refine Bx.keep ?_ (unhide J1) | refine Bx.keep ?_ (Kp.drew _) | refine Bx.keep ?_ (Kp.alloc _ _))); done)); rintro ⟨s0, s1, s2, s3, s4⟩) | (refine useBx (w := z2) (B := z1.heap.size + 1) ?_ ?_; (focus ((repeat (first | (refine Bx.madeAt _ _ _ _ ?_; (focus (first | with_reducible rfl | (rw [World.size_alloc]; done) | (rw [World.size_alloc, World.size_alloc]; done)))) | refine Bx.keep ?_ (unhide J2) | refine Bx.keep ?_ (unhide J1) | refine Bx.keep ?_ (Kp.drew _) | refine Bx.keep ?_ (Kp.alloc _ _))); done)); rintro ⟨s0, s1, s2, s3, s4⟩) | (refine useBx (w := z2) (B := w20.heap.size + 2) ?_ ?_; (focus ((repeat (first | (refine Bx.madeAt _ _ _ _ ?_; (focus (first | with_reducible rfl | (rw [World.size_alloc]; done) | (rw [World.size_alloc, World.size_alloc]; done)))) | refine Bx.keep ?_ (unhide J2) | refine Bx.keep ?_ (unhide J1) | refine Bx.keep ?_ (Kp.drew _) | refine Bx.keep ?_ (Kp.alloc _ _))); done)); rintro ⟨s0, s1, s2, s3, s4⟩) | skip)))
    all_goals (go_wp2_with fail; go_meet)
    all_goals exact ⟨rfl, by first | exact unhide Q2 | exact (unhide Q2).trans (Kp.alloc _ _) | exact ((unhide Q2).set (i := 0) (by have := (unhide Q1).size; omega) _).set (i := 1) (by have := (unhide Q1).size; omega) _⟩
  case rest =>
    obtain ⟨rfl, KC⟩ := hcut
    generalize wc = w21 at *
    have kc := unhide KC
    clear KC
    have K21 := hide ((unhide K20).trans kc)
    have IA_21 := hide ((unhide IA_20).keep kc)
    have FA_21 := hide ((unhide FA_20).keep kc)
    have IB_21 := hide ((unhide IB_20).keep kc)
    have FB_21 := hide ((unhide FB_20).keep kc)
    have IC_21 := hide ((unhide IC_20).keep kc)
    have FC_21 := hide ((unhide FC_20).keep kc)
    have BA_21 := hide ((unhide BA_20).keep kc)
    have BB_21 := hide ((unhide BB_20).keep kc)
    have BC_21 := hide ((unhide BC_20).keep kc)
    have BH_21 := hide ((unhide BH_20).keep kc)
    clear K20 IA_20 FA_20 IB_20 FB_20 IC_20 FC_20 BA_20 BA0_20 BA1_20 BA4_20 BB_20 BB0_20 BB1_20 BB4_20 BC_20 BC0_20 BC1_20 BC4_20 BH_20 BH0_20 BH1_20 BH4_20
    obtain ⟨BA0_21, BA1_21, -, -, BA4_21⟩ := (unhide BA_21).o
    obtain ⟨BB0_21, BB1_21, -, -, BB4_21⟩ := (unhide BB_21).o
    obtain ⟨BC0_21, BC1_21, -, -, BC4_21⟩ := (unhide BC_21).o
    obtain ⟨BH0_21, BH1_21, -, -, BH4_21⟩ := (unhide BH_21).o
    clear kc
    go_wp2_with fail
    refine (do_ten _ [] _ _ [] [] w21 (Hooks.nil _ _ _) (Ints.nil _) (Flts.nil _) (by decide +kernel) (by decide +kernel)).mono ?_
    rintro e w22 ⟨rfl, k22⟩
    have K22 := hide ((unhide K21).trans k22)
    have IA_22 := hide ((unhide IA_21).keep k22)
    have FA_22 := hide ((unhide FA_21).keep k22)
    have IB_22 := hide ((unhide IB_21).keep k22)
    have FB_22 := hide ((unhide FB_21).keep k22)
    have IC_22 := hide ((unhide IC_21).keep k22)
    have FC_22 := hide ((unhide FC_21).keep k22)
    have BA_22 := hide ((unhide BA_21).keep k22)
    have BB_22 := hide ((unhide BB_21).keep k22)
    have BC_22 := hide ((unhide BC_21).keep k22)
    have BH_22 := hide ((unhide BH_21).keep k22)
    clear K21 IA_21 FA_21 IB_21 FB_21 IC_21 FC_21 BA_21 BA0_21 BA1_21 BA4_21 BB_21 BB0_21 BB1_21 BB4_21 BC_21 BC0_21 BC1_21 BC4_21 BH_21 BH0_21 BH1_21 BH4_21
    obtain ⟨BA0_22, BA1_22, -, -, BA4_22⟩ := (unhide BA_22).o
    obtain ⟨BB0_22, BB1_22, -, -, BB4_22⟩ := (unhide BB_22).o
    obtain ⟨BC0_22, BC1_22, -, -, BC4_22⟩ := (unhide BC_22).o
    obtain ⟨BH0_22, BH1_22, -, -, BH4_22⟩ := (unhide BH_22).o
    clear k22
    go_upto_region 11 with fail
    have BJ_23 := hide (Bx.madeAt w22 (.slice none 0 0) (.slice none 0 0) (w22.heap.size) rfl)
    have q23 := Kp.alloc w22 (.cells #[(.slice none 0 0), (.slice none 0 0)] 31)
    generalize (w22.alloc (.cells #[(.slice none 0 0), (.slice none 0 0)] 31)) = w23 at *
    have K23 := hide ((unhide K22).trans q23)
    have IA_23 := hide ((unhide IA_22).keep q23)
    have FA_23 := hide ((unhide FA_22).keep q23)
    have IB_23 := hide ((unhide IB_22).keep q23)
    have FB_23 := hide ((unhide FB_22).keep q23)
    have IC_23 := hide ((unhide IC_22).keep q23)
    have FC_23 := hide ((unhide FC_22).keep q23)
    have BA_23 := hide ((unhide BA_22).keep q23)
    have BB_23 := hide ((unhide BB_22).keep q23)
    have BC_23 := hide ((unhide BC_22).keep q23)
    have BH_23 := hide ((unhide BH_22).keep q23)
    clear K22 IA_22 FA_22 IB_22 FB_22 IC_22 FC_22 BA_22 BA0_22 BA1_22 BA4_22 BB_22 BB0_22 BB1_22 BB4_22 BC_22 BC0_22 BC1_22 BC4_22 BH_22 BH0_22 BH1_22 BH4_22
    obtain ⟨BA0_23, BA1_23, -, -, BA4_23⟩ := (unhide BA_23).o
    obtain ⟨BB0_23, BB1_23, -, -, BB4_23⟩ := (unhide BB_23).o
    obtain ⟨BC0_23, BC1_23, -, -, BC4_23⟩ := (unhide BC_23).o
    obtain ⟨BH0_23, BH1_23, -, -, BH4_23⟩ := (unhide BH_23).o
    clear q23
    generalize w22.heap.size = B_BJ at *
    obtain ⟨BJ0_23, BJ1_23, -, -, BJ4_23⟩ := (unhide BJ_23).o
    have mk5 := mk_hook5
    go_upto_region 12 with fail
    have G0_24 := hide (((((((lit_hooks w23 [⟨2, 13830554455654793216⟩] #[.int .i64 2, .float .f64 13830554455654793216] (w23.heap.size) 1 1 rfl rfl rfl (by decide) (by decide)).keep (Kp.alloc (w23.alloc (.cells #[.int .i64 2, .float .f64 13830554455654793216] 52)) (.cells #[.int .i64 2, .float .f64 9221120237041090561] 52))).keep (Kp.alloc ((w23.alloc (.cells #[.int .i64 2, .float .f64 13830554455654793216] 52)).alloc (.cells #[.int .i64 2, .float .f64 9221120237041090561] 52)) (.cells #[.int .i64 3, .float .f64 4607182418800017408] 52))).keep (Kp.alloc (((w23.alloc (.cells #[.int .i64 2, .float .f64 13830554455654793216] 52)).alloc (.cells #[.int .i64 2, .float .f64 9221120237041090561] 52)).alloc (.cells #[.int .i64 3, .float .f64 4607182418800017408] 52)) (.cells #[.int .i64 4, .float .f64 9221120237041090561] 52))).keep (Kp.alloc ((((w23.alloc (.cells #[.int .i64 2, .float .f64 13830554455654793216] 52)).alloc (.cells #[.int .i64 2, .float .f64 9221120237041090561] 52)).alloc (.cells #[.int .i64 3, .float .f64 4607182418800017408] 52)).alloc (.cells #[.int .i64 4, .float .f64 9221120237041090561] 52)) (.cells #[.int .i64 0, .float .f64 0] 52))).keep (Kp.alloc (((((w23.alloc (.cells #[.int .i64 2, .float .f64 13830554455654793216] 52)).alloc (.cells #[.int .i64 2, .float .f64 9221120237041090561] 52)).alloc (.cells #[.int .i64 3, .float .f64 4607182418800017408] 52)).alloc (.cells #[.int .i64 4, .float .f64 9221120237041090561] 52)).alloc (.cells #[.int .i64 0, .float .f64 0] 52)) (.cells #[.int .i64 0, .float .f64 0, .int .i64 0, .float .f64 0, .int .i64 0, .float .f64 0, .int .i64 0, .float .f64 0, .int .i64 0, .float .f64 0] 52))).keep (Kp.alloc ((((((w23.alloc (.cells #[.int .i64 2, .float .f64 13830554455654793216] 52)).alloc (.cells #[.int .i64 2, .float .f64 9221120237041090561] 52)).alloc (.cells #[.int .i64 3, .float .f64 4607182418800017408] 52)).alloc (.cells #[.int .i64 4, .float .f64 9221120237041090561] 52)).alloc (.cells #[.int .i64 0, .float .f64 0] 52)).alloc (.cells #[.int .i64 0, .float .f64 0, .int .i64 0, .float .f64 0, .int .i64 0, .float .f64 0, .int .i64 0, .float .f64 0, .int .i64 0, .float .f64 0] 52)) (.cells #[.slice (some ⟨w23.heap.size, 0, none⟩) 1 1, .slice (some ⟨w23.heap.size + 1, 0, none⟩) 1 1, .slice (some ⟨w23.heap.size + 2, 0, none⟩) 1 1, .slice (some ⟨w23.heap.size + 3, 0, none⟩) 1 1, .slice (some ⟨w23.heap.size + 4, 0, none⟩) 1 1, .slice (some ⟨w23.heap.size + 5, 0, none⟩) 5 5] 39)))
    have G1_24 := hide ((((((lit_hooks (w23.alloc (.cells #[.int .i64 2, .float .f64 13830554455654793216] 52)) [⟨2, 9221120237041090561⟩] #[.int .i64 2, .float .f64 9221120237041090561] (w23.heap.size + 1) 1 1 rfl (by simp) rfl (by decide) (by decide)).keep (Kp.alloc ((w23.alloc (.cells #[.int .i64 2, .float .f64 13830554455654793216] 52)).alloc (.cells #[.int .i64 2, .float .f64 9221120237041090561] 52)) (.cells #[.int .i64 3, .float .f64 4607182418800017408] 52))).keep (Kp.alloc (((w23.alloc (.cells #[.int .i64 2, .float .f64 13830554455654793216] 52)).alloc (.cells #[.int .i64 2, .float .f64 9221120237041090561] 52)).alloc (.cells #[.int .i64 3, .float .f64 4607182418800017408] 52)) (.cells #[.int .i64 4, .float .f64 9221120237041090561] 52))).keep (Kp.alloc ((((w23.alloc (.cells #[.int .i64 2, .float .f64 13830554455654793216] 52)).alloc (.cells #[.int .i64 2, .float .f64 9221120237041090561] 52)).alloc (.cells #[.int .i64 3, .float .f64 4607182418800017408] 52)).alloc (.cells #[.int .i64 4, .float .f64 9221120237041090561] 52)) (.cells #[.int .i64 0, .float .f64 0] 52))).keep (Kp.alloc (((((w23.alloc (.cells #[.int .i64 2, .float .f64 13830554455654793216] 52)).alloc (.cells #[.int .i64 2, .float .f64 9221120237041090561] 52)).alloc (.cells #[.int .i64 3, .float .f64 4607182418800017408] 52)).alloc (.cells #[.int .i64 4, .float .f64 9221120237041090561] 52)).alloc (.cells #[.int .i64 0, .float .f64 0] 52)) (.cells #[.int .i64 0, .float .f64 0, .int .i64 0, .float .f64 0, .int .i64 0, .float .f64 0, .int .i64 0, .float .f64 0, .int .i64 0, .float .f64 0] 52))).keep (Kp.alloc ((((((w23.alloc (.cells #[.int .i64 2, .float .f64 13830554455654793216] 52)).alloc (.cells #[.int .i64 2, .float .f64 9221120237041090561] 52)).alloc (.cells #[.int .i64 3, .float .f64 4607182418800017408] 52)).alloc (.cells #[.int .i64 4, .float .f64 9221120237041090561] 52)).alloc (.cells #[.int .i64 0, .float .f64 0] 52)).alloc (.cells #[.int .i64 0, .float .f64 0, .int .i64 0, .float .f64 0, .int .i64 0, .float .f64 0, .int .i64 0, .float .f64 0, .int .i64 0, .float .f64 0] 52)) (.cells #[.slice (some ⟨w23.heap.size, 0, none⟩) 1 1, .slice (some ⟨w23.heap.size + 1, 0, none⟩) 1 1, .slice (some ⟨w23.heap.size + 2, 0, none⟩) 1 1, .slice (some ⟨w23.heap.size + 3, 0, none⟩) 1 1, .slice (some ⟨w23.heap.size + 4, 0, none⟩) 1 1, .slice (some ⟨w23.heap.size + 5, 0, none⟩) 5 5] 39)))
    have G2_24 := hide (((((lit_hooks ((w23.alloc (.cells #[.int .i64 2, .float .f64 13830554455654793216] 52)).alloc (.cells #[.int .i64 2, .float .f64 9221120237041090561] 52)) [⟨3, 4607182418800017408⟩] #[.int .i64 3, .float .f64 4607182418800017408] (w23.heap.size + 2) 1 1 rfl (by simp) rfl (by decide) (by decide)).keep (Kp.alloc (((w23.alloc (.cells #[.int .i64 2, .float .f64 13830554455654793216] 52)).alloc (.cells #[.int .i64 2, .float .f64 9221120237041090561] 52)).alloc (.cells #[.int .i64 3, .float .f64 4607182418800017408] 52)) (.cells #[.int .i64 4, .float .f64 9221120237041090561] 52))).keep (Kp.alloc ((((w23.alloc (.cells #[.int .i64 2, .float .f64 13830554455654793216] 52)).alloc (.cells #[.int .i64 2, .float .f64 9221120237041090561] 52)).alloc (.cells #[.int .i64 3, .float .f64 4607182418800017408] 52)).alloc (.cells #[.int .i64 4, .float .f64 9221120237041090561] 52)) (.cells #[.int .i64 0, .float .f64 0] 52))).keep (Kp.alloc (((((w23.alloc (.cells #[.int .i64 2, .float .f64 13830554455654793216] 52)).alloc (.cells #[.int .i64 2, .float .f64 9221120237041090561] 52)).alloc (.cells #[.int .i64 3, .float .f64 4607182418800017408] 52)).alloc (.cells #[.int .i64 4, .float .f64 9221120237041090561] 52)).alloc (.cells #[.int .i64 0, .float .f64 0] 52)) (.cells #[.int .i64 0, .float .f64 0, .int .i64 0, .float .f64 0, .int .i64 0, .float .f64 0, .int .i64 0, .float .f64 0, .int .i64 0, .float .f64 0] 52))).keep (Kp.alloc ((((((w23.alloc (.cells #[.int .i64 2, .float .f64 13830554455654793216] 52)).alloc (.cells #[.int .i64 2, .float .f64 9221120237041090561] 52)).alloc (.cells #[.int .i64 3, .float .f64 4607182418800017408] 52)).alloc (.cells #[.int .i64 4, .float .f64 9221120237041090561] 52)).alloc (.cells #[.int .i64 0, .float .f64 0] 52)).alloc (.cells #[.int .i64 0, .float .f64 0, .int .i64 0, .float .f64 0, .int .i64 0, .float .f64 0, .int .i64 0, .float .f64 0, .int .i64 0, .float .f64 0] 52)) (.cells #[.slice (some ⟨w23.heap.size, 0, none⟩) 1 1, .slice (some ⟨w23.heap.size + 1, 0, none⟩) 1 1, .slice (some ⟨w23.heap.size + 2, 0, none⟩) 1 1, .slice (some ⟨w23.heap.size + 3, 0, none⟩) 1 1, .slice (some ⟨w23.heap.size + 4, 0, none⟩) 1 1, .slice (some ⟨w23.heap.size + 5, 0, none⟩) 5 5] 39)))
    have G3_24 := hide ((((lit_hooks (((w23.alloc (.cells #[.int .i64 2, .float .f64 13830554455654793216] 52)).alloc (.cells #[.int .i64 2, .float .f64 9221120237041090561] 52)).alloc (.cells #[.int .i64 3, .float .f64 4607182418800017408] 52)) [⟨4, 9221120237041090561⟩] #[.int .i64 4, .float .f64 9221120237041090561] (w23.heap.size + 3) 1 1 rfl (by simp) rfl (by decide) (by decide)).keep (Kp.alloc ((((w23.alloc (.cells #[.int .i64 2, .float .f64 13830554455654793216] 52)).alloc (.cells #[.int .i64 2, .float .f64 9221120237041090561] 52)).alloc (.cells #[.int .i64 3, .float .f64 4607182418800017408] 52)).alloc (.cells #[.int .i64 4, .float .f64 9221120237041090561] 52)) (.cells #[.int .i64 0, .float .f64 0] 52))).keep (Kp.alloc (((((w23.alloc (.cells #[.int .i64 2, .float .f64 13830554455654793216] 52)).alloc (.cells #[.int .i64 2, .float .f64 9221120237041090561] 52)).alloc (.cells #[.int .i64 3, .float .f64 4607182418800017408] 52)).alloc (.cells #[.int .i64 4, .float .f64 9221120237041090561] 52)).alloc (.cells #[.int .i64 0, .float .f64 0] 52)) (.cells #[.int .i64 0, .float .f64 0, .int .i64 0, .float .f64 0, .int .i64 0, .float .f64 0, .int .i64 0, .float .f64 0, .int .i64 0, .float .f64 0] 52))).keep (Kp.alloc ((((((w23.alloc (.cells #[.int .i64 2, .float .f64 13830554455654793216] 52)).alloc (.cells #[.int .i64 2, .float .f64 9221120237041090561] 52)).alloc (.cells #[.int .i64 3, .float .f64 4607182418800017408] 52)).alloc (.cells #[.int .i64 4, .float .f64 9221120237041090561] 52)).alloc (.cells #[.int .i64 0, .float .f64 0] 52)).alloc (.cells #[.int .i64 0, .float .f64 0, .int .i64 0, .float .f64 0, .int .i64 0, .float .f64 0, .int .i64 0, .float .f64 0, .int .i64 0, .float .f64 0] 52)) (.cells #[.slice (some ⟨w23.heap.size, 0, none⟩) 1 1, .slice (some ⟨w23.heap.size + 1, 0, none⟩) 1 1, .slice (some ⟨w23.heap.size + 2, 0, none⟩) 1 1, .slice (some ⟨w23.heap.size + 3, 0, none⟩) 1 1, .slice (some ⟨w23.heap.size + 4, 0, none⟩) 1 1, .slice (some ⟨w23.heap.size + 5, 0, none⟩) 5 5] 39)))
    have G4_24 := hide (((lit_hooks ((((w23.alloc (.cells #[.int .i64 2, .float .f64 13830554455654793216] 52)).alloc (.cells #[.int .i64 2, .float .f64 9221120237041090561] 52)).alloc (.cells #[.int .i64 3, .float .f64 4607182418800017408] 52)).alloc (.cells #[.int .i64 4, .float .f64 9221120237041090561] 52)) [⟨0, 0⟩] #[.int .i64 0, .float .f64 0] (w23.heap.size + 4) 1 1 rfl (by simp) rfl (by decide) (by decide)).keep (Kp.alloc (((((w23.alloc (.cells #[.int .i64 2, .float .f64 13830554455654793216] 52)).alloc (.cells #[.int .i64 2, .float .f64 9221120237041090561] 52)).alloc (.cells #[.int .i64 3, .float .f64 4607182418800017408] 52)).alloc (.cells #[.int .i64 4, .float .f64 9221120237041090561] 52)).alloc (.cells #[.int .i64 0, .float .f64 0] 52)) (.cells #[.int .i64 0, .float .f64 0, .int .i64 0, .float .f64 0, .int .i64 0, .float .f64 0, .int .i64 0, .float .f64 0, .int .i64 0, .float .f64 0] 52))).keep (Kp.alloc ((((((w23.alloc (.cells #[.int .i64 2, .float .f64 13830554455654793216] 52)).alloc (.cells #[.int .i64 2, .float .f64 9221120237041090561] 52)).alloc (.cells #[.int .i64 3, .float .f64 4607182418800017408] 52)).alloc (.cells #[.int .i64 4, .float .f64 9221120237041090561] 52)).alloc (.cells #[.int .i64 0, .float .f64 0] 52)).alloc (.cells #[.int .i64 0, .float .f64 0, .int .i64 0, .float .f64 0, .int .i64 0, .float .f64 0, .int .i64 0, .float .f64 0, .int .i64 0, .float .f64 0] 52)) (.cells #[.slice (some ⟨w23.heap.size, 0, none⟩) 1 1, .slice (some ⟨w23.heap.size + 1, 0, none⟩) 1 1, .slice (some ⟨w23.heap.size + 2, 0, none⟩) 1 1, .slice (some ⟨w23.heap.size + 3, 0, none⟩) 1 1, .slice (some ⟨w23.heap.size + 4, 0, none⟩) 1 1, .slice (some ⟨w23.heap.size + 5, 0, none⟩) 5 5] 39)))
    have G5_24 := hide ((lit_hooks (((((w23.alloc (.cells #[.int .i64 2, .float .f64 13830554455654793216] 52)).alloc (.cells #[.int .i64 2, .float .f64 9221120237041090561] 52)).alloc (.cells #[.int .i64 3, .float .f64 4607182418800017408] 52)).alloc (.cells #[.int .i64 4, .float .f64 9221120237041090561] 52)).alloc (.cells #[.int .i64 0, .float .f64 0] 52)) [⟨0, 0⟩, ⟨0, 0⟩, ⟨0, 0⟩, ⟨0, 0⟩, ⟨0, 0⟩] #[.int .i64 0, .float .f64 0, .int .i64 0, .float .f64 0, .int .i64 0, .float .f64 0, .int .i64 0, .float .f64 0, .int .i64 0, .float .f64 0] (w23.heap.size + 5) 5 5 rfl (by simp) rfl (by decide) (by decide)).keep (Kp.alloc ((((((w23.alloc (.cells #[.int .i64 2, .float .f64 13830554455654793216] 52)).alloc (.cells #[.int .i64 2, .float .f64 9221120237041090561] 52)).alloc (.cells #[.int .i64 3, .float .f64 4607182418800017408] 52)).alloc (.cells #[.int .i64 4, .float .f64 9221120237041090561] 52)).alloc (.cells #[.int .i64 0, .float .f64 0] 52)).alloc (.cells #[.int .i64 0, .float .f64 0, .int .i64 0, .float .f64 0, .int .i64 0, .float .f64 0, .int .i64 0, .float .f64 0, .int .i64 0, .float .f64 0] 52)) (.cells #[.slice (some ⟨w23.heap.size, 0, none⟩) 1 1, .slice (some ⟨w23.heap.size + 1, 0, none⟩) 1 1, .slice (some ⟨w23.heap.size + 2, 0, none⟩) 1 1, .slice (some ⟨w23.heap.size + 3, 0, none⟩) 1 1, .slice (some ⟨w23.heap.size + 4, 0, none⟩) 1 1, .slice (some ⟨w23.heap.size + 5, 0, none⟩) 5 5] 39)))
    have LL_24 := hide (Rw.madeAt ((((((w23.alloc (.cells #[.int .i64 2, .float .f64 13830554455654793216] 52)).alloc (.cells #[.int .i64 2, .float .f64 9221120237041090561] 52)).alloc (.cells #[.int .i64 3, .float .f64 4607182418800017408] 52)).alloc (.cells #[.int .i64 4, .float .f64 9221120237041090561] 52)).alloc (.cells #[.int .i64 0, .float .f64 0] 52)).alloc (.cells #[.int .i64 0, .float .f64 0, .int .i64 0, .float .f64 0, .int .i64 0, .float .f64 0, .int .i64 0, .float .f64 0, .int .i64 0, .float .f64 0] 52)) #[.slice (some ⟨w23.heap.size, 0, none⟩) 1 1, .slice (some ⟨w23.heap.size + 1, 0, none⟩) 1 1, .slice (some ⟨w23.heap.size + 2, 0, none⟩) 1 1, .slice (some ⟨w23.heap.size + 3, 0, none⟩) 1 1, .slice (some ⟨w23.heap.size + 4, 0, none⟩) 1 1, .slice (some ⟨w23.heap.size + 5, 0, none⟩) 5 5] 39 (w23.heap.size + 6) (by simp))
    have q24 := ((((((Kp.alloc w23 (.cells #[.int .i64 2, .float .f64 13830554455654793216] 52)).trans (Kp.alloc (w23.alloc (.cells #[.int .i64 2, .float .f64 13830554455654793216] 52)) (.cells #[.int .i64 2, .float .f64 9221120237041090561] 52))).trans (Kp.alloc ((w23.alloc (.cells #[.int .i64 2, .float .f64 13830554455654793216] 52)).alloc (.cells #[.int .i64 2, .float .f64 9221120237041090561] 52)) (.cells #[.int .i64 3, .float .f64 4607182418800017408] 52))).trans (Kp.alloc (((w23.alloc (.cells #[.int .i64 2, .float .f64 13830554455654793216] 52)).alloc (.cells #[.int .i64 2, .float .f64 9221120237041090561] 52)).alloc (.cells #[.int .i64 3, .float .f64 4607182418800017408] 52)) (.cells #[.int .i64 4, .float .f64 9221120237041090561] 52))).trans (Kp.alloc ((((w23.alloc (.cells #[.int .i64 2, .float .f64 13830554455654793216] 52)).alloc (.cells #[.int .i64 2, .float .f64 9221120237041090561] 52)).alloc (.cells #[.int .i64 3, .float .f64 4607182418800017408] 52)).alloc (.cells #[.int .i64 4, .float .f64 9221120237041090561] 52)) (.cells #[.int .i64 0, .float .f64 0] 52))).trans (Kp.alloc (((((w23.alloc (.cells #[.int .i64 2, .float .f64 13830554455654793216] 52)).alloc (.cells #[.int .i64 2, .float .f64 9221120237041090561] 52)).alloc (.cells #[.int .i64 3, .float .f64 4607182418800017408] 52)).alloc (.cells #[.int .i64 4, .float .f64 9221120237041090561] 52)).alloc (.cells #[.int .i64 0, .float .f64 0] 52)) (.cells #[.int .i64 0, .float .f64 0, .int .i64 0, .float .f64 0, .int .i64 0, .float .f64 0, .int .i64 0, .float .f64 0, .int .i64 0, .float .f64 0] 52))).trans (Kp.alloc ((((((w23.alloc (.cells #[.int .i64 2, .float .f64 13830554455654793216] 52)).alloc (.cells #[.int .i64 2, .float .f64 9221120237041090561] 52)).alloc (.cells #[.int .i64 3, .float .f64 4607182418800017408] 52)).alloc (.cells #[.int .i64 4, .float .f64 9221120237041090561] 52)).alloc (.cells #[.int .i64 0, .float .f64 0] 52)).alloc (.cells #[.int .i64 0, .float .f64 0, .int .i64 0, .float .f64 0, .int .i64 0, .float .f64 0, .int .i64 0, .float .f64 0, .int .i64 0, .float .f64 0] 52)) (.cells #[.slice (some ⟨w23.heap.size, 0, none⟩) 1 1, .slice (some ⟨w23.heap.size + 1, 0, none⟩) 1 1, .slice (some ⟨w23.heap.size + 2, 0, none⟩) 1 1, .slice (some ⟨w23.heap.size + 3, 0, none⟩) 1 1, .slice (some ⟨w23.heap.size + 4, 0, none⟩) 1 1, .slice (some ⟨w23.heap.size + 5, 0, none⟩) 5 5] 39))
    generalize (((((((w23.alloc (.cells #[.int .i64 2, .float .f64 13830554455654793216] 52)).alloc (.cells #[.int .i64 2, .float .f64 9221120237041090561] 52)).alloc (.cells #[.int .i64 3, .float .f64 4607182418800017408] 52)).alloc (.cells #[.int .i64 4, .float .f64 9221120237041090561] 52)).alloc (.cells #[.int .i64 0, .float .f64 0] 52)).alloc (.cells #[.int .i64 0, .float .f64 0, .int .i64 0, .float .f64 0, .int .i64 0, .float .f64 0, .int .i64 0, .float .f64 0, .int .i64 0, .float .f64 0] 52)).alloc (.cells #[.slice (some ⟨w23.heap.size, 0, none⟩) 1 1, .slice (some ⟨w23.heap.size + 1, 0, none⟩) 1 1, .slice (some ⟨w23.heap.size + 2, 0, none⟩) 1 1, .slice (some ⟨w23.heap.size + 3, 0, none⟩) 1 1, .slice (some ⟨w23.heap.size + 4, 0, none⟩) 1 1, .slice (some ⟨w23.heap.size + 5, 0, none⟩) 5 5] 39)) = w24 at *
    have K24 := hide ((unhide K23).trans q24)
    have IA_24 := hide ((unhide IA_23).keep q24)
    have FA_24 := hide ((unhide FA_23).keep q24)
    have IB_24 := hide ((unhide IB_23).keep q24)
    have FB_24 := hide ((unhide FB_23).keep q24)
    have IC_24 := hide ((unhide IC_23).keep q24)
    have FC_24 := hide ((unhide FC_23).keep q24)
    have BA_24 := hide ((unhide BA_23).keep q24)
    have BB_24 := hide ((unhide BB_23).keep q24)
    have BC_24 := hide ((unhide BC_23).keep q24)
    have BH_24 := hide ((unhide BH_23).keep q24)
    have BJ_24 := hide ((unhide BJ_23).keep q24)
    clear K23 IA_23 FA_23 IB_23 FB_23 IC_23 FC_23 BA_23 BA0_23 BA1_23 BA4_23 BB_23 BB0_23 BB1_23 BB4_23 BC_23 BC0_23 BC1_23 BC4_23 BH_23 BH0_23 BH1_23 BH4_23 BJ_23 BJ0_23 BJ1_23 BJ4_23
    obtain ⟨BA0_24, BA1_24, -, -, BA4_24⟩ := (unhide BA_24).o
    obtain ⟨BB0_24, BB1_24, -, -, BB4_24⟩ := (unhide BB_24).o
    obtain ⟨BC0_24, BC1_24, -, -, BC4_24⟩ := (unhide BC_24).o
    obtain ⟨BH0_24, BH1_24, -, -, BH4_24⟩ := (unhide BH_24).o
    obtain ⟨BJ0_24, BJ1_24, -, -, BJ4_24⟩ := (unhide BJ_24).o
    clear q24
    generalize w23.heap.size + 6 = B_LL at *
    generalize w23.heap.size + 5 = B_G5 at *
    generalize w23.heap.size + 4 = B_G4 at *
    generalize w23.heap.size + 3 = B_G3 at *
    generalize w23.heap.size + 2 = B_G2 at *
    generalize w23.heap.size + 1 = B_G1 at *
    generalize w23.heap.size = B_G0 at *
    have HLL : Hid (∀ w', Kp w24 w' → ∀ k, k < 6 → ∃ (a : Option Addr) (n : Nat) (hs : List Hk), w'.cell? ⟨B_LL, k, none⟩ = some (.slice a n n) ∧ Hooks w' (.slice a n n) hs ∧ mayH hs = false) := by
      intro w' kk k hk
      match k, hk with
      | 0, _ => exact ⟨_, _, [⟨2, 13830554455654793216⟩], ((unhide LL_24).keep kk).cell rfl, (unhide G0_24).keep kk, by decide +kernel⟩
      | 1, _ => exact ⟨_, _, [⟨2, 9221120237041090561⟩], ((unhide LL_24).keep kk).cell rfl, (unhide G1_24).keep kk, by decide +kernel⟩
      | 2, _ => exact ⟨_, _, [⟨3, 4607182418800017408⟩], ((unhide LL_24).keep kk).cell rfl, (unhide G2_24).keep kk, by decide +kernel⟩
      | 3, _ => exact ⟨_, _, [⟨4, 9221120237041090561⟩], ((unhide LL_24).keep kk).cell rfl, (unhide G3_24).keep kk, by decide +kernel⟩
      | 4, _ => exact ⟨_, _, [⟨0, 0⟩], ((unhide LL_24).keep kk).cell rfl, (unhide G4_24).keep kk, by decide +kernel⟩
      | 5, _ => exact ⟨_, _, [⟨0, 0⟩, ⟨0, 0⟩, ⟨0, 0⟩, ⟨0, 0⟩, ⟨0, 0⟩], ((unhide LL_24).keep kk).cell rfl, (unhide G5_24).keep kk, by decide +kernel⟩
    clear mk1 mk5
    go_wp2
    go_loopw [18] (fun i wr => ∃ k : Nat, k ≤ 6 ∧ i = .int .i64 k ∧ Hid (Kp w24 wr)) (fun i _ => 6 - (intOf i).toNat)
    case atStart => exact ⟨0, Nat.zero_le _, rfl, Kp.refl _⟩
    case round =>
      obtain ⟨k, hk, rfl, KR⟩ := hrel
      by_cases hlt : k < 6
      · have hltI : (k : Int) < 6 := by omega
        obtain ⟨a, n, hs, hck, hh, hmm⟩ := unhide HLL wr (unhide KR) k hlt
        have HH := hide hh
        have HMM := hide hmm
        clear hh hmm
        go_wp2_with fail
        refine (mayH_run _ hs wr (unhide HH)).mono ?_
        rw [unhide HMM]
        rintro e wk ⟨rfl, kk⟩
        have KK := hide ((unhide KR).trans kk)
        clear kk hck
        go_wp2
        go_roundw
        case rel => exact ⟨k + 1, by omega, by go_num, unhide KK⟩
        case measure => simp [intOf]; omega
      · have hltI : ¬ (k : Int) < 6 := by omega
        clear HLL
        generalize wr = w25 at *
        have kr := unhide KR
        clear KR
        have K25 := hide ((unhide K24).trans kr)
        have IA_25 := hide ((unhide IA_24).keep kr)
        have FA_25 := hide ((unhide FA_24).keep kr)
        have IB_25 := hide ((unhide IB_24).keep kr)
        have FB_25 := hide ((unhide FB_24).keep kr)
        have IC_25 := hide ((unhide IC_24).keep kr)
        have FC_25 := hide ((unhide FC_24).keep kr)
        have BA_25 := hide ((unhide BA_24).keep kr)
        have BB_25 := hide ((unhide BB_24).keep kr)
        have BC_25 := hide ((unhide BC_24).keep kr)
        have BH_25 := hide ((unhide BH_24).keep kr)
        have BJ_25 := hide ((unhide BJ_24).keep kr)
        clear K24 IA_24 FA_24 IB_24 FB_24 IC_24 FC_24 BA_24 BA0_24 BA1_24 BA4_24 BB_24 BB0_24 BB1_24 BB4_24 BC_24 BC0_24 BC1_24 BC4_24 BH_24 BH0_24 BH1_24 BH4_24 BJ_24 BJ0_24 BJ1_24 BJ4_24
        obtain ⟨BA0_25, BA1_25, -, -, BA4_25⟩ := (unhide BA_25).o
        obtain ⟨BB0_25, BB1_25, -, -, BB4_25⟩ := (unhide BB_25).o
        obtain ⟨BC0_25, BC1_25, -, -, BC4_25⟩ := (unhide BC_25).o
        obtain ⟨BH0_25, BH1_25, -, -, BH4_25⟩ := (unhide BH_25).o
        obtain ⟨BJ0_25, BJ1_25, -, -, BJ4_25⟩ := (unhide BJ_25).o
        clear kr
        have hng := fun w => run_neg_any (P := Try.prog) w 9218868437227405312 18442240474082181120 (by decide +kernel)
        go_upto_region 18 with fail
        have Q_26 := hide (lit_hooks w25 [⟨1, 9221120237041090561⟩, ⟨1, 18442240474082181120⟩, ⟨2, 9218868437227405312⟩, ⟨3, 9223372036854775808⟩] #[.int .i64 1, .float .f64 9221120237041090561, .int .i64 1, .float .f64 18442240474082181120, .int .i64 2, .float .f64 9218868437227405312, .int .i64 3, .float .f64 9223372036854775808] (w25.heap.size) 4 4 rfl rfl rfl (by decide) (by decide))
        have q26 := Kp.alloc w25 (.cells #[.int .i64 1, .float .f64 9221120237041090561, .int .i64 1, .float .f64 18442240474082181120, .int .i64 2, .float .f64 9218868437227405312, .int .i64 3, .float .f64 9223372036854775808] 52)
        generalize (w25.alloc (.cells #[.int .i64 1, .float .f64 9221120237041090561, .int .i64 1, .float .f64 18442240474082181120, .int .i64 2, .float .f64 9218868437227405312, .int .i64 3, .float .f64 9223372036854775808] 52)) = w26 at *
        have K26 := hide ((unhide K25).trans q26)
        have IA_26 := hide ((unhide IA_25).keep q26)
        have FA_26 := hide ((unhide FA_25).keep q26)
        have IB_26 := hide ((unhide IB_25).keep q26)
        have FB_26 := hide ((unhide FB_25).keep q26)
        have IC_26 := hide ((unhide IC_25).keep q26)
        have FC_26 := hide ((unhide FC_25).keep q26)
        have BA_26 := hide ((unhide BA_25).keep q26)
        have BB_26 := hide ((unhide BB_25).keep q26)
        have BC_26 := hide ((unhide BC_25).keep q26)
        have BH_26 := hide ((unhide BH_25).keep q26)
        have BJ_26 := hide ((unhide BJ_25).keep q26)
        clear K25 IA_25 FA_25 IB_25 FB_25 IC_25 FC_25 BA_25 BA0_25 BA1_25 BA4_25 BB_25 BB0_25 BB1_25 BB4_25 BC_25 BC0_25 BC1_25 BC4_25 BH_25 BH0_25 BH1_25 BH4_25 BJ_25 BJ0_25 BJ1_25 BJ4_25
        obtain ⟨BA0_26, BA1_26, -, -, BA4_26⟩ := (unhide BA_26).o
        obtain ⟨BB0_26, BB1_26, -, -, BB4_26⟩ := (unhide BB_26).o
        obtain ⟨BC0_26, BC1_26, -, -, BC4_26⟩ := (unhide BC_26).o
        obtain ⟨BH0_26, BH1_26, -, -, BH4_26⟩ := (unhide BH_26).o
        obtain ⟨BJ0_26, BJ1_26, -, -, BJ4_26⟩ := (unhide BJ_26).o
        clear q26
        generalize w25.heap.size = B_Q at *
        clear hng
        have CO2 := hide (fun w0 (k : Kp w26 w0) p q r (hq : q ≤ 1000) => (of9_any p q r w0 hq).mono (R' := fun ee w' => ∃ L, ee = .returned (.agg #[.slice (some ⟨L, 0, none⟩) 1 1, .slice p q r]) ∧ Hid (Ints w' (.slice (some ⟨L, 0, none⟩) 1 1) [(q : Int)]) ∧ Hid (Kp w0 w') ∧ Hid (Kp w26 w') ∧ BxO w' B_BA (.slice aA 1 cA) (.slice bA 7 eA) ∧ BxO w' B_BB (.slice aB 1 cB) (.slice bB 4 eB) ∧ BxO w' B_BC (.slice aC 1 cC) (.slice bC 2 eC)) (by
          rintro ee w' ⟨L, rfl, hi, k'⟩
          exact ⟨L, rfl, hi, k', k.trans k', ((unhide BA_26).keep (k.trans k')).o, ((unhide BB_26).keep (k.trans k')).o, ((unhide BC_26).keep (k.trans k')).o⟩))
        have LFA : Hid (∀ w0 : World, Flts (w0.alloc (.cells #[.float .f64 13835058055282163712, .float .f64 13835058055282163712, .float .f64 4607182418800017408, .float .f64 4611686018427387904, .float .f64 4611686018427387904, .float .f64 4611686018427387904, .float .f64 9221120237041090561] 23)) (.slice (some ⟨w0.heap.size, 0, none⟩) 7 7) [13835058055282163712, 13835058055282163712, 4607182418800017408, 4611686018427387904, 4611686018427387904, 4611686018427387904, 9221120237041090561]) := fun w0 => lit_flts w0 23 [13835058055282163712, 13835058055282163712, 4607182418800017408, 4611686018427387904, 4611686018427387904, 4611686018427387904, 9221120237041090561] #[.float .f64 13835058055282163712, .float .f64 13835058055282163712, .float .f64 4607182418800017408, .float .f64 4611686018427387904, .float .f64 4611686018427387904, .float .f64 4611686018427387904, .float .f64 9221120237041090561] w0.heap.size 7 rfl rfl rfl (by unfold W64; decide) (by decide)
        have DDA := hide (fun w0 (k : Kp w26 w0) v u (hi : Ints w0 v [7]) (hf : Flts w0 u [13835058055282163712, 13835058055282163712, 4607182418800017408, 4611686018427387904, 4611686018427387904, 4611686018427387904, 9221120237041090561]) => (rsameT_any (.slice aA 1 cA) (.slice bA 7 eA) v u [7] dsA [7] [13835058055282163712, 13835058055282163712, 4607182418800017408, 4611686018427387904, 4611686018427387904, 4611686018427387904, 9221120237041090561] w0 ((unhide IA_26).keep k) ((unhide FA_26).keep k) hi hf).mono (R' := fun ee w' => ee = .returned (.bool true) ∧ Hid (Kp w26 w') ∧ BxO w' B_BA (.slice aA 1 cA) (.slice bA 7 eA) ∧ BxO w' B_BB (.slice aB 1 cB) (.slice bB 4 eB) ∧ BxO w' B_BC (.slice aC 1 cC) (.slice bC 2 eC)) (by
          rintro ee w' ⟨rfl, k'⟩
          exact ⟨by rw [sameT_cn9 ((unhide HCA).trans (show [13835058055282163712, 13835058055282163712, 4607182418800017408, 4611686018427387904, 4611686018427387904, 4611686018427387904, 9221120237041090561] = ([13835058055282163712, 13835058055282163712, 4607182418800017408, 4611686018427387904, 4611686018427387904, 4611686018427387904, 9221120237041090561]).map cn by decide +kernel))], k.trans k', ((unhide BA_26).keep (k.trans k')).o, ((unhide BB_26).keep (k.trans k')).o, ((unhide BC_26).keep (k.trans k')).o⟩))
        have LFB : Hid (∀ w0 : World, Flts (w0.alloc (.cells #[.float .f64 9223372036854775808, .float .f64 9223372036854775808, .float .f64 0, .float .f64 0] 23)) (.slice (some ⟨w0.heap.size, 0, none⟩) 4 4) [9223372036854775808, 9223372036854775808, 0, 0]) := fun w0 => lit_flts w0 23 [9223372036854775808, 9223372036854775808, 0, 0] #[.float .f64 9223372036854775808, .float .f64 9223372036854775808, .float .f64 0, .float .f64 0] w0.heap.size 4 rfl rfl rfl (by unfold W64; decide) (by decide)
        have DDB := hide (fun w0 (k : Kp w26 w0) v u (hi : Ints w0 v [4]) (hf : Flts w0 u [9223372036854775808, 9223372036854775808, 0, 0]) => (rsameT_any (.slice aB 1 cB) (.slice bB 4 eB) v u [4] dsB [4] [9223372036854775808, 9223372036854775808, 0, 0] w0 ((unhide IB_26).keep k) ((unhide FB_26).keep k) hi hf).mono (R' := fun ee w' => ee = .returned (.bool true) ∧ Hid (Kp w26 w') ∧ BxO w' B_BA (.slice aA 1 cA) (.slice bA 7 eA) ∧ BxO w' B_BB (.slice aB 1 cB) (.slice bB 4 eB) ∧ BxO w' B_BC (.slice aC 1 cC) (.slice bC 2 eC)) (by
          rintro ee w' ⟨rfl, k'⟩
          exact ⟨by rw [sameT_cn9 ((unhide HCB).trans (show [9223372036854775808, 9223372036854775808, 0, 0] = ([9223372036854775808, 9223372036854775808, 0, 0]).map cn by decide +kernel))], k.trans k', ((unhide BA_26).keep (k.trans k')).o, ((unhide BB_26).keep (k.trans k')).o, ((unhide BC_26).keep (k.trans k')).o⟩))
        have LFC : Hid (∀ w0 : World, Flts (w0.alloc (.cells #[.float .f64 0, .float .f64 0] 23)) (.slice (some ⟨w0.heap.size, 0, none⟩) 2 2) [0, 0]) := fun w0 => lit_flts w0 23 [0, 0] #[.float .f64 0, .float .f64 0] w0.heap.size 2 rfl rfl rfl (by unfold W64; decide) (by decide)
        have DDC := hide (fun w0 (k : Kp w26 w0) v u (hi : Ints w0 v [2]) (hf : Flts w0 u [0, 0]) => (rsameT_any (.slice aC 1 cC) (.slice bC 2 eC) v u [2] dsC [2] [0, 0] w0 ((unhide IC_26).keep k) ((unhide FC_26).keep k) hi hf).mono (R' := fun ee w' => ee = .returned (.bool true) ∧ Hid (Kp w26 w') ∧ BxO w' B_BA (.slice aA 1 cA) (.slice bA 7 eA) ∧ BxO w' B_BB (.slice aB 1 cB) (.slice bB 4 eB) ∧ BxO w' B_BC (.slice aC 1 cC) (.slice bC 2 eC)) (by
          rintro ee w' ⟨rfl, k'⟩
          exact ⟨by rw [sameT_cn9 ((unhide HCC).trans (show [0, 0] = ([0, 0]).map cn by decide +kernel))], k.trans k', ((unhide BA_26).keep (k.trans k')).o, ((unhide BB_26).keep (k.trans k')).o, ((unhide BC_26).keep (k.trans k')).o⟩))
        have CM := hide (fun w0 (k : Kp w26 w0) => (mayH_run _ [⟨1, 9221120237041090561⟩, ⟨1, 18442240474082181120⟩, ⟨2, 9218868437227405312⟩, ⟨3, 9223372036854775808⟩] w0 ((unhide Q_26).keep k)).mono (R' := fun ee w' => ee = .returned (.bool true) ∧ Hid (Kp w26 w') ∧ BxO w' B_BA (.slice aA 1 cA) (.slice bA 7 eA) ∧ BxO w' B_BB (.slice aB 1 cB) (.slice bB 4 eB) ∧ BxO w' B_BC (.slice aC 1 cC) (.slice bC 2 eC)) (by
          rintro ee w' ⟨rfl, k'⟩
          exact ⟨by rw [show mayH [⟨1, 9221120237041090561⟩, ⟨1, 18442240474082181120⟩, ⟨2, 9218868437227405312⟩, ⟨3, 9223372036854775808⟩] = true by decide +kernel], k.trans k', ((unhide BA_26).keep (k.trans k')).o, ((unhide BB_26).keep (k.trans k')).o, ((unhide BC_26).keep (k.trans k')).o⟩))
        go_region_held3 (fun w' => w'.cell? ⟨B_BA, 0, none⟩ = some (.slice aA 1 cA) ∧ w'.cell? ⟨B_BA, 1, none⟩ = some (.slice bA 7 eA) ∧ w'.cell? ⟨B_BB, 0, none⟩ = some (.slice aB 1 cB) ∧ w'.cell? ⟨B_BB, 1, none⟩ = some (.slice bB 4 eB) ∧ w'.cell? ⟨B_BC, 0, none⟩ = some (.slice aC 1 cC) ∧ w'.cell? ⟨B_BC, 1, none⟩ = some (.slice bC 2 eC)) (go_keep)
          (first
            | (go_at_call 18; have hkx := K4'; clear hkx; refine ((unhide CO2) _ ?_ _ _ _ (Nat.le_of_ble_eq_true rfl)).mono ?_; (repeat (first | exact unhide K4' | exact Kp.drew _ | exact Kp.alloc _ _ | refine Kp.trans ?_ (Kp.drew _) | refine Kp.trans ?_ (Kp.alloc _ _))); rintro ee z5 ⟨L5, rfl, I5', J5', K5', ⟨x0, x1, -, -, x4⟩, ⟨y0, y1, -, -, y4⟩, ⟨v0, v1, -, -, v4⟩⟩)
            | (go_at_call 18; have hkx := K2'; clear hkx; refine ((unhide CO2) _ ?_ _ _ _ (Nat.le_of_ble_eq_true rfl)).mono ?_; (repeat (first | exact unhide K2' | exact Kp.drew _ | exact Kp.alloc _ _ | refine Kp.trans ?_ (Kp.drew _) | refine Kp.trans ?_ (Kp.alloc _ _))); rintro ee z3 ⟨L3, rfl, I3', J3', K3', ⟨x0, x1, -, -, x4⟩, ⟨y0, y1, -, -, y4⟩, ⟨v0, v1, -, -, v4⟩⟩)
            | (go_at_call 18; refine ((unhide CO2) _ ?_ _ _ _ (Nat.le_of_ble_eq_true rfl)).mono ?_; (repeat (first | exact Kp.drew _ | exact Kp.alloc _ _ | refine Kp.trans ?_ (Kp.drew _) | refine Kp.trans ?_ (Kp.alloc _ _))); rintro ee z1 ⟨L1, rfl, I1', J1', K1', ⟨x0, x1, -, -, x4⟩, ⟨y0, y1, -, -, y4⟩, ⟨v0, v1, -, -, v4⟩⟩)
            | (go_at_call_of 10 (Value.agg #[Value.slice aA 1 cA, Value.slice bA 7 eA]); refine ((unhide DDA) _ (unhide K1') _ _ (unhide I1') ?_).mono ?_; (repeat (first | exact unhide LFA _ | refine Flts.keep ?_ (unhide J1') | refine Flts.keep ?_ (Kp.drew _))); rintro ee z2 ⟨rfl, K2', ⟨x0, x1, -, -, x4⟩, ⟨y0, y1, -, -, y4⟩, ⟨v0, v1, -, -, v4⟩⟩)
            | (go_at_call_of 10 (Value.agg #[Value.slice aB 1 cB, Value.slice bB 4 eB]); refine ((unhide DDB) _ (unhide K3') _ _ (unhide I3') ((unhide LFB z2).keep (unhide J3'))).mono ?_; rintro ee z4 ⟨rfl, K4', ⟨x0, x1, -, -, x4⟩, ⟨y0, y1, -, -, y4⟩, ⟨v0, v1, -, -, v4⟩⟩)
            | (go_at_call_of 10 (Value.agg #[Value.slice aC 1 cC, Value.slice bC 2 eC]); refine ((unhide DDC) _ (unhide K5') _ _ (unhide I5') ((unhide LFC z4).keep (unhide J5'))).mono ?_; rintro ee z6 ⟨rfl, K6', ⟨x0, x1, -, -, x4⟩, ⟨y0, y1, -, -, y4⟩, ⟨v0, v1, -, -, v4⟩⟩)
            | (go_at_call 15; refine ((unhide CM) _ (unhide K6')).mono ?_; rintro ee z7 ⟨rfl, K7', ⟨x0, x1, -, -, x4⟩, ⟨y0, y1, -, -, y4⟩, ⟨v0, v1, -, -, v4⟩⟩))
        all_goals (
          have KF := hide ((unhide K26).trans (unhide K7'))
          go_wp2
          go_ret
          exact ⟨rfl, unhide KF⟩)

end Go.Proofs.Ytlfjclnocbohbaa
