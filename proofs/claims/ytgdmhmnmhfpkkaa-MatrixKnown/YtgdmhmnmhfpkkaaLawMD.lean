
/- The law MatrixKnown, walked. -/
import Derived.Test.YtgdmhmnmhfpkkaaMatG
import Derived.Test.YtgdmhmnmhfpkkaaMatL
namespace Go.Proofs.Ytgdmhmnmhfpkkaa
open Go.RowKit

theorem sameT_self (s : List Int) (d : List Nat) : sameT s d s d = true := by
  unfold sameT sameB allB sameF
  simp
theorem turn_known (sv dv : Value) (f : List Int) (d : List Nat) (s : List Int) (L : List Nat) (q : Int) (w : World) (h1 : Ints w sv f) (hd : Flts w dv d) (es : turS f d = s) (eL : turL f d = L) (eq : turE f d = q) :
    Calls Try.prog 13 #[.agg #[sv, dv]] w fun ee w' => ∃ a1 c1 a2 c2, ee = .returned (.tuple #[.agg #[.slice a1 s.length c1, .slice a2 L.length c2], .int .i64 q]) ∧ Ints w' (.slice a1 s.length c1) s ∧ Flts w' (.slice a2 L.length c2) L ∧ Roomy (.slice a2 L.length c2) ∧ Kp w w' := by
  refine (turn_all sv dv f d w h1 hd).mono ?_
  rw [es, eL, eq]
  rintro ee w' ⟨⟨a1, c1, a2, c2, rfl, hs, hf, u, v⟩, k⟩
  exact ⟨a1, c1, a2, c2, rfl, hs, hf, roomy _ _ _ u v, k⟩
theorem sum_known (sv dv : Value) (f : List Int) (d : List Nat) (s : List Int) (L : List Nat) (q : Int) (w : World) (h1 : Ints w sv f) (hd : Flts w dv d) (hr : Roomy dv) (es : smS f d = s) (eL : smL f d = L) (hn : L.all (fun x => !nanW x) = true) (eq : smE f d = q) :
    Calls Try.prog 15 #[.agg #[sv, dv]] w fun ee w' => ∃ a1 c1 a2 c2, ee = .returned (.tuple #[.agg #[.slice a1 s.length c1, .slice a2 L.length c2], .int .i64 q]) ∧ Ints w' (.slice a1 s.length c1) s ∧ Flts w' (.slice a2 L.length c2) L ∧ Roomy (.slice a2 L.length c2) ∧ Kp w w' := by
  refine (sum_all sv dv f d w h1 hd hr).mono ?_
  rw [es, eL, eq]
  rintro ee w' ⟨ds, ⟨a1, c1, a2, c2, rfl, hs, hf, u, v⟩, hc, k⟩
  obtain rfl := list_num hc hn
  exact ⟨a1, c1, a2, c2, rfl, hs, hf, roomy _ _ _ u v, k⟩

set_option maxHeartbeats 1000000 in
theorem of_any (a b : Int) (p : Option Addr) (n c : Nat) (w : World) (ha : I64 a) (hb : I64 b) :
    Calls Try.prog 20 #[.int .i64 a, .int .i64 b, .slice p n c] w fun e w' => ∃ L, e = .returned (.agg #[.slice (some ⟨L, 0, none⟩) 2 2, .slice p n c]) ∧ Ints w' (.slice (some ⟨L, 0, none⟩) 2 2) [a, b] ∧ Kp w w' := by
  go_enter Try.func20, Try.ntmps20
  go_wp2_with fail
  have LI := lit_ints (w.alloc (.cells #[.slice (some ⟨w.heap.size + 1, 0, none⟩) 2 2, .slice p n c] 25)) 3 [a, b] #[.int .i64 a, .int .i64 b] (w.heap.size + 1) 2 rfl (by simp) rfl (by intro x hx; simp at hx; rcases hx with rfl | rfl <;> assumption) (by decide)
  have XB := (Bx.made w (.slice (some ⟨w.heap.size + 1, 0, none⟩) 2 2) (.slice p n c)).keep (Kp.alloc _ (.cells #[.int .i64 a, .int .i64 b] 3))
  obtain ⟨z0, z1, -, -, -⟩ := XB.o
  have KF := (Kp.alloc w (.cells #[.slice (some ⟨w.heap.size + 1, 0, none⟩) 2 2, .slice p n c] 25)).trans (Kp.alloc _ (.cells #[.int .i64 a, .int .i64 b] 3))
  generalize (w.alloc (.cells #[.slice (some ⟨w.heap.size + 1, 0, none⟩) 2 2, .slice p n c] 25)).alloc (.cells #[.int .i64 a, .int .i64 b] 3) = w9 at *
  refine bodyPost_ret (v := .agg #[.slice (some ⟨w.heap.size + 1, 0, none⟩) 2 2, .slice p n c]) (by simp [results, Try.results20, go_sem, z0, z1]) rfl ⟨_, rfl, LI, KF⟩

set_option maxRecDepth 10000 in
set_option maxHeartbeats 8000000 in
theorem known_walk (w : World) : Calls Try.prog 5 #[] w fun e w' => e = .returned (.bool true) ∧ Kp w w' := by
  go_enter Try.func5, Try.ntmps5
  go_wp2_with fail
  refine (awake5_any w).mono ?_
  rintro e w1 ⟨rfl, k1⟩
  have K1 := hide k1
  clear k1
  go_wp2_with fail
  have Q1_2 := hide (lit_flts w1 42 [4607182418800017408, 4611686018427387904, 4613937818241073152, 4616189618054758400] #[.float .f64 4607182418800017408, .float .f64 4611686018427387904, .float .f64 4613937818241073152, .float .f64 4616189618054758400] (w1.heap.size) 4 rfl rfl rfl (by unfold W64; decide) (by decide))
  have q2 := Kp.alloc w1 (.cells #[.float .f64 4607182418800017408, .float .f64 4611686018427387904, .float .f64 4613937818241073152, .float .f64 4616189618054758400] 42)
  generalize (w1.alloc (.cells #[.float .f64 4607182418800017408, .float .f64 4611686018427387904, .float .f64 4613937818241073152, .float .f64 4616189618054758400] 42)) = w2 at *
  have K2 := hide ((unhide K1).trans q2)
  clear K1
  clear q2
  generalize w1.heap.size = B_Q1 at *
  refine (of_any 2 2 _ _ _ w2 (by unfold I64; decide) (by unfold I64; decide)).mono ?_
  rintro e w3 ⟨L1, rfl, s1, k3⟩
  have K3 := hide ((unhide K2).trans k3)
  have Q1_3 := hide ((unhide Q1_2).keep k3)
  clear K2 Q1_2
  clear k3
  have S1_3 := hide s1
  clear s1
  go_wp2_with fail
  have Q2_4 := hide (lit_flts w3 42 [4617315517961601024, 4618441417868443648, 4619567317775286272, 4620693217682128896] #[.float .f64 4617315517961601024, .float .f64 4618441417868443648, .float .f64 4619567317775286272, .float .f64 4620693217682128896] (w3.heap.size) 4 rfl rfl rfl (by unfold W64; decide) (by decide))
  have q4 := Kp.alloc w3 (.cells #[.float .f64 4617315517961601024, .float .f64 4618441417868443648, .float .f64 4619567317775286272, .float .f64 4620693217682128896] 42)
  generalize (w3.alloc (.cells #[.float .f64 4617315517961601024, .float .f64 4618441417868443648, .float .f64 4619567317775286272, .float .f64 4620693217682128896] 42)) = w4 at *
  have K4 := hide ((unhide K3).trans q4)
  have Q1_4 := hide ((unhide Q1_3).keep q4)
  have S1_4 := hide ((unhide S1_3).keep q4)
  clear K3 Q1_3 S1_3
  clear q4
  generalize w3.heap.size = B_Q2 at *
  refine (of_any 2 2 _ _ _ w4 (by unfold I64; decide) (by unfold I64; decide)).mono ?_
  rintro e w5 ⟨L2, rfl, s2, k5⟩
  have K5 := hide ((unhide K4).trans k5)
  have Q1_5 := hide ((unhide Q1_4).keep k5)
  have S1_5 := hide ((unhide S1_4).keep k5)
  have Q2_5 := hide ((unhide Q2_4).keep k5)
  clear K4 Q1_4 S1_4 Q2_4
  clear k5
  have S2_5 := hide s2
  clear s2
  go_wp2_with fail
  refine (mul_known _ _ _ _ [2, 2] [2, 2] [4607182418800017408, 4611686018427387904, 4613937818241073152, 4616189618054758400] [4617315517961601024, 4618441417868443648, 4619567317775286272, 4620693217682128896] [2, 2] [4626041242239631360, 4626885667169763328, 4631248529308778496, 4632233691727265792] 0 w5 (unhide S1_5) (unhide Q1_5) (roomy _ _ _ (by decide) (by decide)) (unhide S2_5) (unhide Q2_5) (by decide +kernel) (by decide +kernel) (by decide +kernel) (by decide +kernel)).mono ?_
  rintro e w6 ⟨ax, cx, bx, dx, rfl, sx, fx, -, k6⟩
  have K6 := hide ((unhide K5).trans k6)
  have Q1_6 := hide ((unhide Q1_5).keep k6)
  have S1_6 := hide ((unhide S1_5).keep k6)
  have Q2_6 := hide ((unhide Q2_5).keep k6)
  have S2_6 := hide ((unhide S2_5).keep k6)
  clear K5 Q1_5 S1_5 Q2_5 S2_5
  clear k6
  have Sx_6 := hide sx
  have Dx_6 := hide fx
  clear sx fx
  clear S1_6
  clear Q1_6
  clear S2_6
  clear Q2_6
  go_wp2_with fail
  have Bx_7 := hide ((Bx.madeAt w6 (.slice ax 2 cx) (.slice bx 4 dx) (w6.heap.size) rfl).keep (Kp.alloc (w6.alloc (.cells #[(.slice ax 2 cx), (.slice bx 4 dx)] 25)) (.cells #[.float .f64 4607182418800017408, .float .f64 4611686018427387904] 42)))
  have Q1_7 := hide (lit_flts (w6.alloc (.cells #[(.slice ax 2 cx), (.slice bx 4 dx)] 25)) 42 [4607182418800017408, 4611686018427387904] #[.float .f64 4607182418800017408, .float .f64 4611686018427387904] (w6.heap.size + 1) 2 rfl (by simp) rfl (by unfold W64; decide) (by decide))
  have q7 := (Kp.alloc w6 (.cells #[(.slice ax 2 cx), (.slice bx 4 dx)] 25)).trans (Kp.alloc (w6.alloc (.cells #[(.slice ax 2 cx), (.slice bx 4 dx)] 25)) (.cells #[.float .f64 4607182418800017408, .float .f64 4611686018427387904] 42))
  generalize ((w6.alloc (.cells #[(.slice ax 2 cx), (.slice bx 4 dx)] 25)).alloc (.cells #[.float .f64 4607182418800017408, .float .f64 4611686018427387904] 42)) = w7 at *
  have K7 := hide ((unhide K6).trans q7)
  have Sx_7 := hide ((unhide Sx_6).keep q7)
  have Dx_7 := hide ((unhide Dx_6).keep q7)
  clear K6 Sx_6 Dx_6
  clear q7
  generalize w6.heap.size + 1 = B_Q1 at *
  generalize w6.heap.size = B_Bx at *
  obtain ⟨Bx0_7, Bx1_7, -, -, Bx4_7⟩ := (unhide Bx_7).o
  refine (of_any 1 2 _ _ _ w7 (by unfold I64; decide) (by unfold I64; decide)).mono ?_
  rintro e w8 ⟨L1, rfl, s1, k8⟩
  have K8 := hide ((unhide K7).trans k8)
  have Sx_8 := hide ((unhide Sx_7).keep k8)
  have Dx_8 := hide ((unhide Dx_7).keep k8)
  have Q1_8 := hide ((unhide Q1_7).keep k8)
  have Bx_8 := hide ((unhide Bx_7).keep k8)
  clear K7 Sx_7 Dx_7 Q1_7 Bx_7 Bx0_7 Bx1_7 Bx4_7
  obtain ⟨Bx0_8, Bx1_8, -, -, Bx4_8⟩ := (unhide Bx_8).o
  clear k8
  have S1_8 := hide s1
  clear s1
  go_wp2_with fail
  have Q2_9 := hide (lit_flts w8 42 [4607182418800017408, 4611686018427387904] #[.float .f64 4607182418800017408, .float .f64 4611686018427387904] (w8.heap.size) 2 rfl rfl rfl (by unfold W64; decide) (by decide))
  have q9 := Kp.alloc w8 (.cells #[.float .f64 4607182418800017408, .float .f64 4611686018427387904] 42)
  generalize (w8.alloc (.cells #[.float .f64 4607182418800017408, .float .f64 4611686018427387904] 42)) = w9 at *
  have K9 := hide ((unhide K8).trans q9)
  have Sx_9 := hide ((unhide Sx_8).keep q9)
  have Dx_9 := hide ((unhide Dx_8).keep q9)
  have Q1_9 := hide ((unhide Q1_8).keep q9)
  have S1_9 := hide ((unhide S1_8).keep q9)
  have Bx_9 := hide ((unhide Bx_8).keep q9)
  clear K8 Sx_8 Dx_8 Q1_8 S1_8 Bx_8 Bx0_8 Bx1_8 Bx4_8
  obtain ⟨Bx0_9, Bx1_9, -, -, Bx4_9⟩ := (unhide Bx_9).o
  clear q9
  generalize w8.heap.size = B_Q2 at *
  refine (of_any 1 2 _ _ _ w9 (by unfold I64; decide) (by unfold I64; decide)).mono ?_
  rintro e w10 ⟨L2, rfl, s2, k10⟩
  have K10 := hide ((unhide K9).trans k10)
  have Sx_10 := hide ((unhide Sx_9).keep k10)
  have Dx_10 := hide ((unhide Dx_9).keep k10)
  have Q1_10 := hide ((unhide Q1_9).keep k10)
  have S1_10 := hide ((unhide S1_9).keep k10)
  have Q2_10 := hide ((unhide Q2_9).keep k10)
  have Bx_10 := hide ((unhide Bx_9).keep k10)
  clear K9 Sx_9 Dx_9 Q1_9 S1_9 Q2_9 Bx_9 Bx0_9 Bx1_9 Bx4_9
  obtain ⟨Bx0_10, Bx1_10, -, -, Bx4_10⟩ := (unhide Bx_10).o
  clear k10
  have S2_10 := hide s2
  clear s2
  go_wp2_with fail
  refine (mul_known _ _ _ _ [1, 2] [1, 2] [4607182418800017408, 4611686018427387904] [4607182418800017408, 4611686018427387904] [] [] 2 w10 (unhide S1_10) (unhide Q1_10) (roomy _ _ _ (by decide) (by decide)) (unhide S2_10) (unhide Q2_10) (by decide +kernel) (by decide +kernel) (by decide +kernel) (by decide +kernel)).mono ?_
  rintro e w11 ⟨az, cz, bz, dz, rfl, sz, fz, -, k11⟩
  have K11 := hide ((unhide K10).trans k11)
  have Sx_11 := hide ((unhide Sx_10).keep k11)
  have Dx_11 := hide ((unhide Dx_10).keep k11)
  have Q1_11 := hide ((unhide Q1_10).keep k11)
  have S1_11 := hide ((unhide S1_10).keep k11)
  have Q2_11 := hide ((unhide Q2_10).keep k11)
  have S2_11 := hide ((unhide S2_10).keep k11)
  have Bx_11 := hide ((unhide Bx_10).keep k11)
  clear K10 Sx_10 Dx_10 Q1_10 S1_10 Q2_10 S2_10 Bx_10 Bx0_10 Bx1_10 Bx4_10
  obtain ⟨Bx0_11, Bx1_11, -, -, Bx4_11⟩ := (unhide Bx_11).o
  clear k11
  have Sz_11 := hide sz
  have Dz_11 := hide fz
  clear sz fz
  clear S1_11
  clear Q1_11
  clear S2_11
  clear Q2_11
  clear Sz_11
  clear Dz_11
  go_wp2_with fail
  have Bz_12 := hide ((((Bx.madeAt w11 (.slice az 0 cz) (.slice bz 0 dz) (w11.heap.size) rfl).keep (Kp.alloc (w11.alloc (.cells #[(.slice az 0 cz), (.slice bz 0 dz)] 25)) (.cells #[.int .i64 2] 3))).keep (Kp.alloc ((w11.alloc (.cells #[(.slice az 0 cz), (.slice bz 0 dz)] 25)).alloc (.cells #[.int .i64 2] 3)) (.cells #[.float .f64 4607182418800017408, .float .f64 4611686018427387904] 42))).keep (Kp.alloc (((w11.alloc (.cells #[(.slice az 0 cz), (.slice bz 0 dz)] 25)).alloc (.cells #[.int .i64 2] 3)).alloc (.cells #[.float .f64 4607182418800017408, .float .f64 4611686018427387904] 42)) (.cells #[.float .f64 4607182418800017408, .float .f64 4611686018427387904] 42)))
  have S1_12 := hide (((lit_ints (w11.alloc (.cells #[(.slice az 0 cz), (.slice bz 0 dz)] 25)) 3 [2] #[.int .i64 2] (w11.heap.size + 1) 1 rfl (by simp) rfl (by unfold I64; decide) (by decide)).keep (Kp.alloc ((w11.alloc (.cells #[(.slice az 0 cz), (.slice bz 0 dz)] 25)).alloc (.cells #[.int .i64 2] 3)) (.cells #[.float .f64 4607182418800017408, .float .f64 4611686018427387904] 42))).keep (Kp.alloc (((w11.alloc (.cells #[(.slice az 0 cz), (.slice bz 0 dz)] 25)).alloc (.cells #[.int .i64 2] 3)).alloc (.cells #[.float .f64 4607182418800017408, .float .f64 4611686018427387904] 42)) (.cells #[.float .f64 4607182418800017408, .float .f64 4611686018427387904] 42)))
  have Q1_12 := hide ((lit_flts ((w11.alloc (.cells #[(.slice az 0 cz), (.slice bz 0 dz)] 25)).alloc (.cells #[.int .i64 2] 3)) 42 [4607182418800017408, 4611686018427387904] #[.float .f64 4607182418800017408, .float .f64 4611686018427387904] (w11.heap.size + 2) 2 rfl (by simp) rfl (by unfold W64; decide) (by decide)).keep (Kp.alloc (((w11.alloc (.cells #[(.slice az 0 cz), (.slice bz 0 dz)] 25)).alloc (.cells #[.int .i64 2] 3)).alloc (.cells #[.float .f64 4607182418800017408, .float .f64 4611686018427387904] 42)) (.cells #[.float .f64 4607182418800017408, .float .f64 4611686018427387904] 42)))
  have Q2_12 := hide (lit_flts (((w11.alloc (.cells #[(.slice az 0 cz), (.slice bz 0 dz)] 25)).alloc (.cells #[.int .i64 2] 3)).alloc (.cells #[.float .f64 4607182418800017408, .float .f64 4611686018427387904] 42)) 42 [4607182418800017408, 4611686018427387904] #[.float .f64 4607182418800017408, .float .f64 4611686018427387904] (w11.heap.size + 3) 2 rfl (by simp) rfl (by unfold W64; decide) (by decide))
  have q12 := (((Kp.alloc w11 (.cells #[(.slice az 0 cz), (.slice bz 0 dz)] 25)).trans (Kp.alloc (w11.alloc (.cells #[(.slice az 0 cz), (.slice bz 0 dz)] 25)) (.cells #[.int .i64 2] 3))).trans (Kp.alloc ((w11.alloc (.cells #[(.slice az 0 cz), (.slice bz 0 dz)] 25)).alloc (.cells #[.int .i64 2] 3)) (.cells #[.float .f64 4607182418800017408, .float .f64 4611686018427387904] 42))).trans (Kp.alloc (((w11.alloc (.cells #[(.slice az 0 cz), (.slice bz 0 dz)] 25)).alloc (.cells #[.int .i64 2] 3)).alloc (.cells #[.float .f64 4607182418800017408, .float .f64 4611686018427387904] 42)) (.cells #[.float .f64 4607182418800017408, .float .f64 4611686018427387904] 42))
  generalize ((((w11.alloc (.cells #[(.slice az 0 cz), (.slice bz 0 dz)] 25)).alloc (.cells #[.int .i64 2] 3)).alloc (.cells #[.float .f64 4607182418800017408, .float .f64 4611686018427387904] 42)).alloc (.cells #[.float .f64 4607182418800017408, .float .f64 4611686018427387904] 42)) = w12 at *
  have K12 := hide ((unhide K11).trans q12)
  have Sx_12 := hide ((unhide Sx_11).keep q12)
  have Dx_12 := hide ((unhide Dx_11).keep q12)
  have Bx_12 := hide ((unhide Bx_11).keep q12)
  clear K11 Sx_11 Dx_11 Bx_11 Bx0_11 Bx1_11 Bx4_11
  obtain ⟨Bx0_12, Bx1_12, -, -, Bx4_12⟩ := (unhide Bx_12).o
  clear q12
  generalize w11.heap.size + 3 = B_Q2 at *
  generalize w11.heap.size + 2 = B_Q1 at *
  generalize w11.heap.size + 1 = B_S1 at *
  generalize w11.heap.size = B_Bz at *
  obtain ⟨Bz0_12, Bz1_12, -, -, Bz4_12⟩ := (unhide Bz_12).o
  refine (of_any 2 1 _ _ _ w12 (by unfold I64; decide) (by unfold I64; decide)).mono ?_
  rintro e w13 ⟨L2, rfl, s2, k13⟩
  have K13 := hide ((unhide K12).trans k13)
  have Sx_13 := hide ((unhide Sx_12).keep k13)
  have Dx_13 := hide ((unhide Dx_12).keep k13)
  have S1_13 := hide ((unhide S1_12).keep k13)
  have Q1_13 := hide ((unhide Q1_12).keep k13)
  have Q2_13 := hide ((unhide Q2_12).keep k13)
  have Bx_13 := hide ((unhide Bx_12).keep k13)
  have Bz_13 := hide ((unhide Bz_12).keep k13)
  clear K12 Sx_12 Dx_12 S1_12 Q1_12 Q2_12 Bx_12 Bx0_12 Bx1_12 Bx4_12 Bz_12 Bz0_12 Bz1_12 Bz4_12
  obtain ⟨Bx0_13, Bx1_13, -, -, Bx4_13⟩ := (unhide Bx_13).o
  obtain ⟨Bz0_13, Bz1_13, -, -, Bz4_13⟩ := (unhide Bz_13).o
  clear k13
  have S2_13 := hide s2
  clear s2
  go_wp2_with fail
  refine (mul_known _ _ _ _ [2] [2, 1] [4607182418800017408, 4611686018427387904] [4607182418800017408, 4611686018427387904] [] [] 2 w13 (unhide S1_13) (unhide Q1_13) (roomy _ _ _ (by decide) (by decide)) (unhide S2_13) (unhide Q2_13) (by decide +kernel) (by decide +kernel) (by decide +kernel) (by decide +kernel)).mono ?_
  rintro e w14 ⟨au, cu, bu, du, rfl, su, fu, -, k14⟩
  have K14 := hide ((unhide K13).trans k14)
  have Sx_14 := hide ((unhide Sx_13).keep k14)
  have Dx_14 := hide ((unhide Dx_13).keep k14)
  have S1_14 := hide ((unhide S1_13).keep k14)
  have Q1_14 := hide ((unhide Q1_13).keep k14)
  have Q2_14 := hide ((unhide Q2_13).keep k14)
  have S2_14 := hide ((unhide S2_13).keep k14)
  have Bx_14 := hide ((unhide Bx_13).keep k14)
  have Bz_14 := hide ((unhide Bz_13).keep k14)
  clear K13 Sx_13 Dx_13 S1_13 Q1_13 Q2_13 S2_13 Bx_13 Bx0_13 Bx1_13 Bx4_13 Bz_13 Bz0_13 Bz1_13 Bz4_13
  obtain ⟨Bx0_14, Bx1_14, -, -, Bx4_14⟩ := (unhide Bx_14).o
  obtain ⟨Bz0_14, Bz1_14, -, -, Bz4_14⟩ := (unhide Bz_14).o
  clear k14
  have Su_14 := hide su
  have Du_14 := hide fu
  clear su fu
  clear S1_14
  clear Q1_14
  clear S2_14
  clear Q2_14
  clear Su_14
  clear Du_14
  go_wp2_with fail
  have Bu_15 := hide ((Bx.madeAt w14 (.slice au 0 cu) (.slice bu 0 du) (w14.heap.size) rfl).keep (Kp.alloc (w14.alloc (.cells #[(.slice au 0 cu), (.slice bu 0 du)] 25)) (.cells #[.int .i64 100, .int .i64 1] 3)))
  have N_15 := hide (lit_ints (w14.alloc (.cells #[(.slice au 0 cu), (.slice bu 0 du)] 25)) 3 [100, 1] #[.int .i64 100, .int .i64 1] (w14.heap.size + 1) 2 rfl (by simp) rfl (by unfold I64; decide) (by decide))
  have q15 := (Kp.alloc w14 (.cells #[(.slice au 0 cu), (.slice bu 0 du)] 25)).trans (Kp.alloc (w14.alloc (.cells #[(.slice au 0 cu), (.slice bu 0 du)] 25)) (.cells #[.int .i64 100, .int .i64 1] 3))
  generalize ((w14.alloc (.cells #[(.slice au 0 cu), (.slice bu 0 du)] 25)).alloc (.cells #[.int .i64 100, .int .i64 1] 3)) = w15 at *
  have K15 := hide ((unhide K14).trans q15)
  have Sx_15 := hide ((unhide Sx_14).keep q15)
  have Dx_15 := hide ((unhide Dx_14).keep q15)
  have Bx_15 := hide ((unhide Bx_14).keep q15)
  have Bz_15 := hide ((unhide Bz_14).keep q15)
  clear K14 Sx_14 Dx_14 Bx_14 Bx0_14 Bx1_14 Bx4_14 Bz_14 Bz0_14 Bz1_14 Bz4_14
  obtain ⟨Bx0_15, Bx1_15, -, -, Bx4_15⟩ := (unhide Bx_15).o
  obtain ⟨Bz0_15, Bz1_15, -, -, Bz4_15⟩ := (unhide Bz_15).o
  clear q15
  generalize w14.heap.size + 1 = B_N at *
  generalize w14.heap.size = B_Bu at *
  obtain ⟨Bu0_15, Bu1_15, -, -, Bu4_15⟩ := (unhide Bu_15).o
  refine (rnew_yes _ [100, 1] 4607182418800017408 w15 (unhide N_15) (by decide +kernel)).mono ?_
  rintro e w16 ⟨al, nl, cl, Gl, ql, rfl, hnl, ol, hGl, ogl, k16⟩
  have K16 := hide ((unhide K15).trans k16)
  have Sx_16 := hide ((unhide Sx_15).keep k16)
  have Dx_16 := hide ((unhide Dx_15).keep k16)
  have N_16 := hide ((unhide N_15).keep k16)
  have Bx_16 := hide ((unhide Bx_15).keep k16)
  have Bz_16 := hide ((unhide Bz_15).keep k16)
  have Bu_16 := hide ((unhide Bu_15).keep k16)
  clear K15 Sx_15 Dx_15 N_15 Bx_15 Bx0_15 Bx1_15 Bx4_15 Bz_15 Bz0_15 Bz1_15 Bz4_15 Bu_15 Bu0_15 Bu1_15 Bu4_15
  obtain ⟨Bx0_16, Bx1_16, -, -, Bx4_16⟩ := (unhide Bx_16).o
  obtain ⟨Bz0_16, Bz1_16, -, -, Bz4_16⟩ := (unhide Bz_16).o
  obtain ⟨Bu0_16, Bu1_16, -, -, Bu4_16⟩ := (unhide Bu_16).o
  clear k16
  rw [show prodL [100, 1] = 100 by decide +kernel] at hnl
  obtain rfl : ql = 100 := by omega
  have Sl_16 := hide (ol.ints (by unfold I64; decide) (by decide))
  have Dl_16 := hide (ogl.flts (by intro y hy; rw [(List.mem_replicate.1 hy).2]; unfold W64; decide) (by decide))
  clear ol ogl hGl hnl
  clear N_16
  go_wp2_with fail
  have Bl_17 := hide ((Bx.madeAt w16 (.slice al nl cl) (.slice (some ⟨Gl, 0, none⟩) 100 100) (w16.heap.size) rfl).keep (Kp.alloc (w16.alloc (.cells #[(.slice al nl cl), (.slice (some ⟨Gl, 0, none⟩) 100 100)] 25)) (.cells #[.int .i64 1, .int .i64 100] 3)))
  have N_17 := hide (lit_ints (w16.alloc (.cells #[(.slice al nl cl), (.slice (some ⟨Gl, 0, none⟩) 100 100)] 25)) 3 [1, 100] #[.int .i64 1, .int .i64 100] (w16.heap.size + 1) 2 rfl (by simp) rfl (by unfold I64; decide) (by decide))
  have q17 := (Kp.alloc w16 (.cells #[(.slice al nl cl), (.slice (some ⟨Gl, 0, none⟩) 100 100)] 25)).trans (Kp.alloc (w16.alloc (.cells #[(.slice al nl cl), (.slice (some ⟨Gl, 0, none⟩) 100 100)] 25)) (.cells #[.int .i64 1, .int .i64 100] 3))
  generalize ((w16.alloc (.cells #[(.slice al nl cl), (.slice (some ⟨Gl, 0, none⟩) 100 100)] 25)).alloc (.cells #[.int .i64 1, .int .i64 100] 3)) = w17 at *
  have K17 := hide ((unhide K16).trans q17)
  have Sx_17 := hide ((unhide Sx_16).keep q17)
  have Dx_17 := hide ((unhide Dx_16).keep q17)
  have Sl_17 := hide ((unhide Sl_16).keep q17)
  have Dl_17 := hide ((unhide Dl_16).keep q17)
  have Bx_17 := hide ((unhide Bx_16).keep q17)
  have Bz_17 := hide ((unhide Bz_16).keep q17)
  have Bu_17 := hide ((unhide Bu_16).keep q17)
  clear K16 Sx_16 Dx_16 Sl_16 Dl_16 Bx_16 Bx0_16 Bx1_16 Bx4_16 Bz_16 Bz0_16 Bz1_16 Bz4_16 Bu_16 Bu0_16 Bu1_16 Bu4_16
  obtain ⟨Bx0_17, Bx1_17, -, -, Bx4_17⟩ := (unhide Bx_17).o
  obtain ⟨Bz0_17, Bz1_17, -, -, Bz4_17⟩ := (unhide Bz_17).o
  obtain ⟨Bu0_17, Bu1_17, -, -, Bu4_17⟩ := (unhide Bu_17).o
  clear q17
  generalize w16.heap.size + 1 = B_N at *
  generalize w16.heap.size = B_Bl at *
  obtain ⟨Bl0_17, Bl1_17, -, -, Bl4_17⟩ := (unhide Bl_17).o
  refine (rnew_yes _ [1, 100] 4607182418800017408 w17 (unhide N_17) (by decide +kernel)).mono ?_
  rintro e w18 ⟨am, nm, cm, Gm, qm, rfl, hnm, om, hGm, ogm, k18⟩
  have K18 := hide ((unhide K17).trans k18)
  have Sx_18 := hide ((unhide Sx_17).keep k18)
  have Dx_18 := hide ((unhide Dx_17).keep k18)
  have Sl_18 := hide ((unhide Sl_17).keep k18)
  have Dl_18 := hide ((unhide Dl_17).keep k18)
  have N_18 := hide ((unhide N_17).keep k18)
  have Bx_18 := hide ((unhide Bx_17).keep k18)
  have Bz_18 := hide ((unhide Bz_17).keep k18)
  have Bu_18 := hide ((unhide Bu_17).keep k18)
  have Bl_18 := hide ((unhide Bl_17).keep k18)
  clear K17 Sx_17 Dx_17 Sl_17 Dl_17 N_17 Bx_17 Bx0_17 Bx1_17 Bx4_17 Bz_17 Bz0_17 Bz1_17 Bz4_17 Bu_17 Bu0_17 Bu1_17 Bu4_17 Bl_17 Bl0_17 Bl1_17 Bl4_17
  obtain ⟨Bx0_18, Bx1_18, -, -, Bx4_18⟩ := (unhide Bx_18).o
  obtain ⟨Bz0_18, Bz1_18, -, -, Bz4_18⟩ := (unhide Bz_18).o
  obtain ⟨Bu0_18, Bu1_18, -, -, Bu4_18⟩ := (unhide Bu_18).o
  obtain ⟨Bl0_18, Bl1_18, -, -, Bl4_18⟩ := (unhide Bl_18).o
  clear k18
  rw [show prodL [1, 100] = 100 by decide +kernel] at hnm
  obtain rfl : qm = 100 := by omega
  have Sm_18 := hide (om.ints (by unfold I64; decide) (by decide))
  have Dm_18 := hide (ogm.flts (by intro y hy; rw [(List.mem_replicate.1 hy).2]; unfold W64; decide) (by decide))
  clear om ogm hGm hnm
  clear N_18
  go_wp2_with fail
  have Bm_19 := hide (Bx.madeAt w18 (.slice am nm cm) (.slice (some ⟨Gm, 0, none⟩) 100 100) (w18.heap.size) rfl)
  have q19 := Kp.alloc w18 (.cells #[(.slice am nm cm), (.slice (some ⟨Gm, 0, none⟩) 100 100)] 25)
  generalize (w18.alloc (.cells #[(.slice am nm cm), (.slice (some ⟨Gm, 0, none⟩) 100 100)] 25)) = w19 at *
  have K19 := hide ((unhide K18).trans q19)
  have Sx_19 := hide ((unhide Sx_18).keep q19)
  have Dx_19 := hide ((unhide Dx_18).keep q19)
  have Sl_19 := hide ((unhide Sl_18).keep q19)
  have Dl_19 := hide ((unhide Dl_18).keep q19)
  have Sm_19 := hide ((unhide Sm_18).keep q19)
  have Dm_19 := hide ((unhide Dm_18).keep q19)
  have Bx_19 := hide ((unhide Bx_18).keep q19)
  have Bz_19 := hide ((unhide Bz_18).keep q19)
  have Bu_19 := hide ((unhide Bu_18).keep q19)
  have Bl_19 := hide ((unhide Bl_18).keep q19)
  clear K18 Sx_18 Dx_18 Sl_18 Dl_18 Sm_18 Dm_18 Bx_18 Bx0_18 Bx1_18 Bx4_18 Bz_18 Bz0_18 Bz1_18 Bz4_18 Bu_18 Bu0_18 Bu1_18 Bu4_18 Bl_18 Bl0_18 Bl1_18 Bl4_18
  obtain ⟨Bx0_19, Bx1_19, -, -, Bx4_19⟩ := (unhide Bx_19).o
  obtain ⟨Bz0_19, Bz1_19, -, -, Bz4_19⟩ := (unhide Bz_19).o
  obtain ⟨Bu0_19, Bu1_19, -, -, Bu4_19⟩ := (unhide Bu_19).o
  obtain ⟨Bl0_19, Bl1_19, -, -, Bl4_19⟩ := (unhide Bl_19).o
  clear q19
  generalize w18.heap.size = B_Bm at *
  obtain ⟨Bm0_19, Bm1_19, -, -, Bm4_19⟩ := (unhide Bm_19).o
  refine (mul_known _ _ _ _ [100, 1] [1, 100] (List.replicate 100 4607182418800017408) (List.replicate 100 4607182418800017408) [] [] 3 w19 (unhide Sl_19) (unhide Dl_19) (roomy _ _ _ (by decide) (by decide)) (unhide Sm_19) (unhide Dm_19) (by decide +kernel) (by decide +kernel) (by decide +kernel) (by decide +kernel)).mono ?_
  rintro e w20 ⟨av, cv, bv, dv, rfl, sv, fv, -, k20⟩
  have K20 := hide ((unhide K19).trans k20)
  have Sx_20 := hide ((unhide Sx_19).keep k20)
  have Dx_20 := hide ((unhide Dx_19).keep k20)
  have Sl_20 := hide ((unhide Sl_19).keep k20)
  have Dl_20 := hide ((unhide Dl_19).keep k20)
  have Sm_20 := hide ((unhide Sm_19).keep k20)
  have Dm_20 := hide ((unhide Dm_19).keep k20)
  have Bx_20 := hide ((unhide Bx_19).keep k20)
  have Bz_20 := hide ((unhide Bz_19).keep k20)
  have Bu_20 := hide ((unhide Bu_19).keep k20)
  have Bl_20 := hide ((unhide Bl_19).keep k20)
  have Bm_20 := hide ((unhide Bm_19).keep k20)
  clear K19 Sx_19 Dx_19 Sl_19 Dl_19 Sm_19 Dm_19 Bx_19 Bx0_19 Bx1_19 Bx4_19 Bz_19 Bz0_19 Bz1_19 Bz4_19 Bu_19 Bu0_19 Bu1_19 Bu4_19 Bl_19 Bl0_19 Bl1_19 Bl4_19 Bm_19 Bm0_19 Bm1_19 Bm4_19
  obtain ⟨Bx0_20, Bx1_20, -, -, Bx4_20⟩ := (unhide Bx_20).o
  obtain ⟨Bz0_20, Bz1_20, -, -, Bz4_20⟩ := (unhide Bz_20).o
  obtain ⟨Bu0_20, Bu1_20, -, -, Bu4_20⟩ := (unhide Bu_20).o
  obtain ⟨Bl0_20, Bl1_20, -, -, Bl4_20⟩ := (unhide Bl_20).o
  obtain ⟨Bm0_20, Bm1_20, -, -, Bm4_20⟩ := (unhide Bm_20).o
  clear k20
  clear sv fv
  clear Sl_20
  clear Dl_20
  clear Sm_20
  clear Dm_20
  go_wp2_with fail
  have Bv_21 := hide ((Bx.madeAt w20 (.slice av 0 cv) (.slice bv 0 dv) (w20.heap.size) rfl).keep (Kp.alloc (w20.alloc (.cells #[(.slice av 0 cv), (.slice bv 0 dv)] 25)) (.cells #[.float .f64 4607182418800017408, .float .f64 4611686018427387904, .float .f64 4613937818241073152, .float .f64 4616189618054758400, .float .f64 4617315517961601024, .float .f64 4618441417868443648] 42)))
  have Q1_21 := hide (lit_flts (w20.alloc (.cells #[(.slice av 0 cv), (.slice bv 0 dv)] 25)) 42 [4607182418800017408, 4611686018427387904, 4613937818241073152, 4616189618054758400, 4617315517961601024, 4618441417868443648] #[.float .f64 4607182418800017408, .float .f64 4611686018427387904, .float .f64 4613937818241073152, .float .f64 4616189618054758400, .float .f64 4617315517961601024, .float .f64 4618441417868443648] (w20.heap.size + 1) 6 rfl (by simp) rfl (by unfold W64; decide) (by decide))
  have q21 := (Kp.alloc w20 (.cells #[(.slice av 0 cv), (.slice bv 0 dv)] 25)).trans (Kp.alloc (w20.alloc (.cells #[(.slice av 0 cv), (.slice bv 0 dv)] 25)) (.cells #[.float .f64 4607182418800017408, .float .f64 4611686018427387904, .float .f64 4613937818241073152, .float .f64 4616189618054758400, .float .f64 4617315517961601024, .float .f64 4618441417868443648] 42))
  generalize ((w20.alloc (.cells #[(.slice av 0 cv), (.slice bv 0 dv)] 25)).alloc (.cells #[.float .f64 4607182418800017408, .float .f64 4611686018427387904, .float .f64 4613937818241073152, .float .f64 4616189618054758400, .float .f64 4617315517961601024, .float .f64 4618441417868443648] 42)) = w21 at *
  have K21 := hide ((unhide K20).trans q21)
  have Sx_21 := hide ((unhide Sx_20).keep q21)
  have Dx_21 := hide ((unhide Dx_20).keep q21)
  have Bx_21 := hide ((unhide Bx_20).keep q21)
  have Bz_21 := hide ((unhide Bz_20).keep q21)
  have Bu_21 := hide ((unhide Bu_20).keep q21)
  have Bl_21 := hide ((unhide Bl_20).keep q21)
  have Bm_21 := hide ((unhide Bm_20).keep q21)
  clear K20 Sx_20 Dx_20 Bx_20 Bx0_20 Bx1_20 Bx4_20 Bz_20 Bz0_20 Bz1_20 Bz4_20 Bu_20 Bu0_20 Bu1_20 Bu4_20 Bl_20 Bl0_20 Bl1_20 Bl4_20 Bm_20 Bm0_20 Bm1_20 Bm4_20
  obtain ⟨Bx0_21, Bx1_21, -, -, Bx4_21⟩ := (unhide Bx_21).o
  obtain ⟨Bz0_21, Bz1_21, -, -, Bz4_21⟩ := (unhide Bz_21).o
  obtain ⟨Bu0_21, Bu1_21, -, -, Bu4_21⟩ := (unhide Bu_21).o
  obtain ⟨Bl0_21, Bl1_21, -, -, Bl4_21⟩ := (unhide Bl_21).o
  obtain ⟨Bm0_21, Bm1_21, -, -, Bm4_21⟩ := (unhide Bm_21).o
  clear q21
  generalize w20.heap.size + 1 = B_Q1 at *
  generalize w20.heap.size = B_Bv at *
  obtain ⟨Bv0_21, Bv1_21, -, -, Bv4_21⟩ := (unhide Bv_21).o
  refine (of_any 2 3 _ _ _ w21 (by unfold I64; decide) (by unfold I64; decide)).mono ?_
  rintro e w22 ⟨L1, rfl, s1, k22⟩
  have K22 := hide ((unhide K21).trans k22)
  have Sx_22 := hide ((unhide Sx_21).keep k22)
  have Dx_22 := hide ((unhide Dx_21).keep k22)
  have Q1_22 := hide ((unhide Q1_21).keep k22)
  have Bx_22 := hide ((unhide Bx_21).keep k22)
  have Bz_22 := hide ((unhide Bz_21).keep k22)
  have Bu_22 := hide ((unhide Bu_21).keep k22)
  have Bl_22 := hide ((unhide Bl_21).keep k22)
  have Bm_22 := hide ((unhide Bm_21).keep k22)
  have Bv_22 := hide ((unhide Bv_21).keep k22)
  clear K21 Sx_21 Dx_21 Q1_21 Bx_21 Bx0_21 Bx1_21 Bx4_21 Bz_21 Bz0_21 Bz1_21 Bz4_21 Bu_21 Bu0_21 Bu1_21 Bu4_21 Bl_21 Bl0_21 Bl1_21 Bl4_21 Bm_21 Bm0_21 Bm1_21 Bm4_21 Bv_21 Bv0_21 Bv1_21 Bv4_21
  obtain ⟨Bx0_22, Bx1_22, -, -, Bx4_22⟩ := (unhide Bx_22).o
  obtain ⟨Bz0_22, Bz1_22, -, -, Bz4_22⟩ := (unhide Bz_22).o
  obtain ⟨Bu0_22, Bu1_22, -, -, Bu4_22⟩ := (unhide Bu_22).o
  obtain ⟨Bl0_22, Bl1_22, -, -, Bl4_22⟩ := (unhide Bl_22).o
  obtain ⟨Bm0_22, Bm1_22, -, -, Bm4_22⟩ := (unhide Bm_22).o
  obtain ⟨Bv0_22, Bv1_22, -, -, Bv4_22⟩ := (unhide Bv_22).o
  clear k22
  have S1_22 := hide s1
  clear s1
  go_wp2_with fail
  refine (turn_known _ _ [2, 3] [4607182418800017408, 4611686018427387904, 4613937818241073152, 4616189618054758400, 4617315517961601024, 4618441417868443648] [3, 2] [4607182418800017408, 4616189618054758400, 4611686018427387904, 4617315517961601024, 4613937818241073152, 4618441417868443648] 0 w22 (unhide S1_22) (unhide Q1_22) (by decide +kernel) (by decide +kernel) (by decide +kernel)).mono ?_
  rintro e w23 ⟨ar, cr, br, dr, rfl, sr, fr, -, k23⟩
  have K23 := hide ((unhide K22).trans k23)
  have Sx_23 := hide ((unhide Sx_22).keep k23)
  have Dx_23 := hide ((unhide Dx_22).keep k23)
  have Q1_23 := hide ((unhide Q1_22).keep k23)
  have S1_23 := hide ((unhide S1_22).keep k23)
  have Bx_23 := hide ((unhide Bx_22).keep k23)
  have Bz_23 := hide ((unhide Bz_22).keep k23)
  have Bu_23 := hide ((unhide Bu_22).keep k23)
  have Bl_23 := hide ((unhide Bl_22).keep k23)
  have Bm_23 := hide ((unhide Bm_22).keep k23)
  have Bv_23 := hide ((unhide Bv_22).keep k23)
  clear K22 Sx_22 Dx_22 Q1_22 S1_22 Bx_22 Bx0_22 Bx1_22 Bx4_22 Bz_22 Bz0_22 Bz1_22 Bz4_22 Bu_22 Bu0_22 Bu1_22 Bu4_22 Bl_22 Bl0_22 Bl1_22 Bl4_22 Bm_22 Bm0_22 Bm1_22 Bm4_22 Bv_22 Bv0_22 Bv1_22 Bv4_22
  obtain ⟨Bx0_23, Bx1_23, -, -, Bx4_23⟩ := (unhide Bx_23).o
  obtain ⟨Bz0_23, Bz1_23, -, -, Bz4_23⟩ := (unhide Bz_23).o
  obtain ⟨Bu0_23, Bu1_23, -, -, Bu4_23⟩ := (unhide Bu_23).o
  obtain ⟨Bl0_23, Bl1_23, -, -, Bl4_23⟩ := (unhide Bl_23).o
  obtain ⟨Bm0_23, Bm1_23, -, -, Bm4_23⟩ := (unhide Bm_23).o
  obtain ⟨Bv0_23, Bv1_23, -, -, Bv4_23⟩ := (unhide Bv_23).o
  clear k23
  have Sr_23 := hide sr
  have Dr_23 := hide fr
  clear sr fr
  clear S1_23
  clear Q1_23
  go_wp2_with fail
  have Br_24 := hide (((Bx.madeAt w23 (.slice ar 2 cr) (.slice br 6 dr) (w23.heap.size) rfl).keep (Kp.alloc (w23.alloc (.cells #[(.slice ar 2 cr), (.slice br 6 dr)] 25)) (.cells #[.int .i64 1] 3))).keep (Kp.alloc ((w23.alloc (.cells #[(.slice ar 2 cr), (.slice br 6 dr)] 25)).alloc (.cells #[.int .i64 1] 3)) (.cells #[.float .f64 4607182418800017408] 42)))
  have S1_24 := hide ((lit_ints (w23.alloc (.cells #[(.slice ar 2 cr), (.slice br 6 dr)] 25)) 3 [1] #[.int .i64 1] (w23.heap.size + 1) 1 rfl (by simp) rfl (by unfold I64; decide) (by decide)).keep (Kp.alloc ((w23.alloc (.cells #[(.slice ar 2 cr), (.slice br 6 dr)] 25)).alloc (.cells #[.int .i64 1] 3)) (.cells #[.float .f64 4607182418800017408] 42)))
  have Q1_24 := hide (lit_flts ((w23.alloc (.cells #[(.slice ar 2 cr), (.slice br 6 dr)] 25)).alloc (.cells #[.int .i64 1] 3)) 42 [4607182418800017408] #[.float .f64 4607182418800017408] (w23.heap.size + 2) 1 rfl (by simp) rfl (by unfold W64; decide) (by decide))
  have q24 := ((Kp.alloc w23 (.cells #[(.slice ar 2 cr), (.slice br 6 dr)] 25)).trans (Kp.alloc (w23.alloc (.cells #[(.slice ar 2 cr), (.slice br 6 dr)] 25)) (.cells #[.int .i64 1] 3))).trans (Kp.alloc ((w23.alloc (.cells #[(.slice ar 2 cr), (.slice br 6 dr)] 25)).alloc (.cells #[.int .i64 1] 3)) (.cells #[.float .f64 4607182418800017408] 42))
  generalize (((w23.alloc (.cells #[(.slice ar 2 cr), (.slice br 6 dr)] 25)).alloc (.cells #[.int .i64 1] 3)).alloc (.cells #[.float .f64 4607182418800017408] 42)) = w24 at *
  have K24 := hide ((unhide K23).trans q24)
  have Sx_24 := hide ((unhide Sx_23).keep q24)
  have Dx_24 := hide ((unhide Dx_23).keep q24)
  have Sr_24 := hide ((unhide Sr_23).keep q24)
  have Dr_24 := hide ((unhide Dr_23).keep q24)
  have Bx_24 := hide ((unhide Bx_23).keep q24)
  have Bz_24 := hide ((unhide Bz_23).keep q24)
  have Bu_24 := hide ((unhide Bu_23).keep q24)
  have Bl_24 := hide ((unhide Bl_23).keep q24)
  have Bm_24 := hide ((unhide Bm_23).keep q24)
  have Bv_24 := hide ((unhide Bv_23).keep q24)
  clear K23 Sx_23 Dx_23 Sr_23 Dr_23 Bx_23 Bx0_23 Bx1_23 Bx4_23 Bz_23 Bz0_23 Bz1_23 Bz4_23 Bu_23 Bu0_23 Bu1_23 Bu4_23 Bl_23 Bl0_23 Bl1_23 Bl4_23 Bm_23 Bm0_23 Bm1_23 Bm4_23 Bv_23 Bv0_23 Bv1_23 Bv4_23
  obtain ⟨Bx0_24, Bx1_24, -, -, Bx4_24⟩ := (unhide Bx_24).o
  obtain ⟨Bz0_24, Bz1_24, -, -, Bz4_24⟩ := (unhide Bz_24).o
  obtain ⟨Bu0_24, Bu1_24, -, -, Bu4_24⟩ := (unhide Bu_24).o
  obtain ⟨Bl0_24, Bl1_24, -, -, Bl4_24⟩ := (unhide Bl_24).o
  obtain ⟨Bm0_24, Bm1_24, -, -, Bm4_24⟩ := (unhide Bm_24).o
  obtain ⟨Bv0_24, Bv1_24, -, -, Bv4_24⟩ := (unhide Bv_24).o
  clear q24
  generalize w23.heap.size + 2 = B_Q1 at *
  generalize w23.heap.size + 1 = B_S1 at *
  generalize w23.heap.size = B_Br at *
  obtain ⟨Br0_24, Br1_24, -, -, Br4_24⟩ := (unhide Br_24).o
  refine (turn_known _ _ [1] [4607182418800017408] [] [] 2 w24 (unhide S1_24) (unhide Q1_24) (by decide +kernel) (by decide +kernel) (by decide +kernel)).mono ?_
  rintro e w25 ⟨ao, co, bo, do_, rfl, so, fo, -, k25⟩
  have K25 := hide ((unhide K24).trans k25)
  have Sx_25 := hide ((unhide Sx_24).keep k25)
  have Dx_25 := hide ((unhide Dx_24).keep k25)
  have Sr_25 := hide ((unhide Sr_24).keep k25)
  have Dr_25 := hide ((unhide Dr_24).keep k25)
  have S1_25 := hide ((unhide S1_24).keep k25)
  have Q1_25 := hide ((unhide Q1_24).keep k25)
  have Bx_25 := hide ((unhide Bx_24).keep k25)
  have Bz_25 := hide ((unhide Bz_24).keep k25)
  have Bu_25 := hide ((unhide Bu_24).keep k25)
  have Bl_25 := hide ((unhide Bl_24).keep k25)
  have Bm_25 := hide ((unhide Bm_24).keep k25)
  have Bv_25 := hide ((unhide Bv_24).keep k25)
  have Br_25 := hide ((unhide Br_24).keep k25)
  clear K24 Sx_24 Dx_24 Sr_24 Dr_24 S1_24 Q1_24 Bx_24 Bx0_24 Bx1_24 Bx4_24 Bz_24 Bz0_24 Bz1_24 Bz4_24 Bu_24 Bu0_24 Bu1_24 Bu4_24 Bl_24 Bl0_24 Bl1_24 Bl4_24 Bm_24 Bm0_24 Bm1_24 Bm4_24 Bv_24 Bv0_24 Bv1_24 Bv4_24 Br_24 Br0_24 Br1_24 Br4_24
  obtain ⟨Bx0_25, Bx1_25, -, -, Bx4_25⟩ := (unhide Bx_25).o
  obtain ⟨Bz0_25, Bz1_25, -, -, Bz4_25⟩ := (unhide Bz_25).o
  obtain ⟨Bu0_25, Bu1_25, -, -, Bu4_25⟩ := (unhide Bu_25).o
  obtain ⟨Bl0_25, Bl1_25, -, -, Bl4_25⟩ := (unhide Bl_25).o
  obtain ⟨Bm0_25, Bm1_25, -, -, Bm4_25⟩ := (unhide Bm_25).o
  obtain ⟨Bv0_25, Bv1_25, -, -, Bv4_25⟩ := (unhide Bv_25).o
  obtain ⟨Br0_25, Br1_25, -, -, Br4_25⟩ := (unhide Br_25).o
  clear k25
  clear so fo
  clear S1_25
  clear Q1_25
  go_wp2_with fail
  have Bo_26 := hide ((Bx.madeAt w25 (.slice ao 0 co) (.slice bo 0 do_) (w25.heap.size) rfl).keep (Kp.alloc (w25.alloc (.cells #[(.slice ao 0 co), (.slice bo 0 do_)] 25)) (.cells #[.float .f64 4616189618054758400] 42)))
  have Q1_26 := hide (lit_flts (w25.alloc (.cells #[(.slice ao 0 co), (.slice bo 0 do_)] 25)) 42 [4616189618054758400] #[.float .f64 4616189618054758400] (w25.heap.size + 1) 1 rfl (by simp) rfl (by unfold W64; decide) (by decide))
  have q26 := (Kp.alloc w25 (.cells #[(.slice ao 0 co), (.slice bo 0 do_)] 25)).trans (Kp.alloc (w25.alloc (.cells #[(.slice ao 0 co), (.slice bo 0 do_)] 25)) (.cells #[.float .f64 4616189618054758400] 42))
  generalize ((w25.alloc (.cells #[(.slice ao 0 co), (.slice bo 0 do_)] 25)).alloc (.cells #[.float .f64 4616189618054758400] 42)) = w26 at *
  have K26 := hide ((unhide K25).trans q26)
  have Sx_26 := hide ((unhide Sx_25).keep q26)
  have Dx_26 := hide ((unhide Dx_25).keep q26)
  have Sr_26 := hide ((unhide Sr_25).keep q26)
  have Dr_26 := hide ((unhide Dr_25).keep q26)
  have Bx_26 := hide ((unhide Bx_25).keep q26)
  have Bz_26 := hide ((unhide Bz_25).keep q26)
  have Bu_26 := hide ((unhide Bu_25).keep q26)
  have Bl_26 := hide ((unhide Bl_25).keep q26)
  have Bm_26 := hide ((unhide Bm_25).keep q26)
  have Bv_26 := hide ((unhide Bv_25).keep q26)
  have Br_26 := hide ((unhide Br_25).keep q26)
  clear K25 Sx_25 Dx_25 Sr_25 Dr_25 Bx_25 Bx0_25 Bx1_25 Bx4_25 Bz_25 Bz0_25 Bz1_25 Bz4_25 Bu_25 Bu0_25 Bu1_25 Bu4_25 Bl_25 Bl0_25 Bl1_25 Bl4_25 Bm_25 Bm0_25 Bm1_25 Bm4_25 Bv_25 Bv0_25 Bv1_25 Bv4_25 Br_25 Br0_25 Br1_25 Br4_25
  obtain ⟨Bx0_26, Bx1_26, -, -, Bx4_26⟩ := (unhide Bx_26).o
  obtain ⟨Bz0_26, Bz1_26, -, -, Bz4_26⟩ := (unhide Bz_26).o
  obtain ⟨Bu0_26, Bu1_26, -, -, Bu4_26⟩ := (unhide Bu_26).o
  obtain ⟨Bl0_26, Bl1_26, -, -, Bl4_26⟩ := (unhide Bl_26).o
  obtain ⟨Bm0_26, Bm1_26, -, -, Bm4_26⟩ := (unhide Bm_26).o
  obtain ⟨Bv0_26, Bv1_26, -, -, Bv4_26⟩ := (unhide Bv_26).o
  obtain ⟨Br0_26, Br1_26, -, -, Br4_26⟩ := (unhide Br_26).o
  clear q26
  generalize w25.heap.size + 1 = B_Q1 at *
  generalize w25.heap.size = B_Bo at *
  obtain ⟨Bo0_26, Bo1_26, -, -, Bo4_26⟩ := (unhide Bo_26).o
  refine (sum_known _ _ [] [4616189618054758400] [1] [4616189618054758400] 0 w26 (Ints.nil _) (unhide Q1_26) (roomy _ _ _ (by decide) (by decide)) (by decide +kernel) (by decide +kernel) (by decide +kernel) (by decide +kernel)).mono ?_
  rintro e w27 ⟨ae, ce, be, de, rfl, se, fe_, -, k27⟩
  have K27 := hide ((unhide K26).trans k27)
  have Sx_27 := hide ((unhide Sx_26).keep k27)
  have Dx_27 := hide ((unhide Dx_26).keep k27)
  have Sr_27 := hide ((unhide Sr_26).keep k27)
  have Dr_27 := hide ((unhide Dr_26).keep k27)
  have Q1_27 := hide ((unhide Q1_26).keep k27)
  have Bx_27 := hide ((unhide Bx_26).keep k27)
  have Bz_27 := hide ((unhide Bz_26).keep k27)
  have Bu_27 := hide ((unhide Bu_26).keep k27)
  have Bl_27 := hide ((unhide Bl_26).keep k27)
  have Bm_27 := hide ((unhide Bm_26).keep k27)
  have Bv_27 := hide ((unhide Bv_26).keep k27)
  have Br_27 := hide ((unhide Br_26).keep k27)
  have Bo_27 := hide ((unhide Bo_26).keep k27)
  clear K26 Sx_26 Dx_26 Sr_26 Dr_26 Q1_26 Bx_26 Bx0_26 Bx1_26 Bx4_26 Bz_26 Bz0_26 Bz1_26 Bz4_26 Bu_26 Bu0_26 Bu1_26 Bu4_26 Bl_26 Bl0_26 Bl1_26 Bl4_26 Bm_26 Bm0_26 Bm1_26 Bm4_26 Bv_26 Bv0_26 Bv1_26 Bv4_26 Br_26 Br0_26 Br1_26 Br4_26 Bo_26 Bo0_26 Bo1_26 Bo4_26
  obtain ⟨Bx0_27, Bx1_27, -, -, Bx4_27⟩ := (unhide Bx_27).o
  obtain ⟨Bz0_27, Bz1_27, -, -, Bz4_27⟩ := (unhide Bz_27).o
  obtain ⟨Bu0_27, Bu1_27, -, -, Bu4_27⟩ := (unhide Bu_27).o
  obtain ⟨Bl0_27, Bl1_27, -, -, Bl4_27⟩ := (unhide Bl_27).o
  obtain ⟨Bm0_27, Bm1_27, -, -, Bm4_27⟩ := (unhide Bm_27).o
  obtain ⟨Bv0_27, Bv1_27, -, -, Bv4_27⟩ := (unhide Bv_27).o
  obtain ⟨Br0_27, Br1_27, -, -, Br4_27⟩ := (unhide Br_27).o
  obtain ⟨Bo0_27, Bo1_27, -, -, Bo4_27⟩ := (unhide Bo_27).o
  clear k27
  have Se_27 := hide se
  have De_27 := hide fe_
  clear se fe_
  clear Q1_27
  go_upto_region 13 with fail
  have Be_28 := hide (Bx.madeAt w27 (.slice ae 1 ce) (.slice be 1 de) (w27.heap.size) rfl)
  have q28 := Kp.alloc w27 (.cells #[(.slice ae 1 ce), (.slice be 1 de)] 25)
  generalize (w27.alloc (.cells #[(.slice ae 1 ce), (.slice be 1 de)] 25)) = w28 at *
  have K28 := hide ((unhide K27).trans q28)
  have Sx_28 := hide ((unhide Sx_27).keep q28)
  have Dx_28 := hide ((unhide Dx_27).keep q28)
  have Sr_28 := hide ((unhide Sr_27).keep q28)
  have Dr_28 := hide ((unhide Dr_27).keep q28)
  have Se_28 := hide ((unhide Se_27).keep q28)
  have De_28 := hide ((unhide De_27).keep q28)
  have Bx_28 := hide ((unhide Bx_27).keep q28)
  have Bz_28 := hide ((unhide Bz_27).keep q28)
  have Bu_28 := hide ((unhide Bu_27).keep q28)
  have Bl_28 := hide ((unhide Bl_27).keep q28)
  have Bm_28 := hide ((unhide Bm_27).keep q28)
  have Bv_28 := hide ((unhide Bv_27).keep q28)
  have Br_28 := hide ((unhide Br_27).keep q28)
  have Bo_28 := hide ((unhide Bo_27).keep q28)
  clear K27 Sx_27 Dx_27 Sr_27 Dr_27 Se_27 De_27 Bx_27 Bx0_27 Bx1_27 Bx4_27 Bz_27 Bz0_27 Bz1_27 Bz4_27 Bu_27 Bu0_27 Bu1_27 Bu4_27 Bl_27 Bl0_27 Bl1_27 Bl4_27 Bm_27 Bm0_27 Bm1_27 Bm4_27 Bv_27 Bv0_27 Bv1_27 Bv4_27 Br_27 Br0_27 Br1_27 Br4_27 Bo_27 Bo0_27 Bo1_27 Bo4_27
  obtain ⟨Bx0_28, Bx1_28, -, -, Bx4_28⟩ := (unhide Bx_28).o
  obtain ⟨Bz0_28, Bz1_28, -, -, Bz4_28⟩ := (unhide Bz_28).o
  obtain ⟨Bu0_28, Bu1_28, -, -, Bu4_28⟩ := (unhide Bu_28).o
  obtain ⟨Bl0_28, Bl1_28, -, -, Bl4_28⟩ := (unhide Bl_28).o
  obtain ⟨Bm0_28, Bm1_28, -, -, Bm4_28⟩ := (unhide Bm_28).o
  obtain ⟨Bv0_28, Bv1_28, -, -, Bv4_28⟩ := (unhide Bv_28).o
  obtain ⟨Br0_28, Br1_28, -, -, Br4_28⟩ := (unhide Br_28).o
  obtain ⟨Bo0_28, Bo1_28, -, -, Bo4_28⟩ := (unhide Bo_28).o
  clear q28
  generalize w27.heap.size = B_Be at *
  obtain ⟨Be0_28, Be1_28, -, -, Be4_28⟩ := (unhide Be_28).o
  have LF1 : Hid (∀ w0 : World, Flts (w0.alloc (.cells #[.float .f64 4626041242239631360, .float .f64 4626885667169763328, .float .f64 4631248529308778496, .float .f64 4632233691727265792] 42)) (.slice (some ⟨w0.heap.size, 0, none⟩) 4 4) [4626041242239631360, 4626885667169763328, 4631248529308778496, 4632233691727265792]) := fun w0 => lit_flts w0 42 [4626041242239631360, 4626885667169763328, 4631248529308778496, 4632233691727265792] #[.float .f64 4626041242239631360, .float .f64 4626885667169763328, .float .f64 4631248529308778496, .float .f64 4632233691727265792] w0.heap.size 4 rfl rfl rfl (by unfold W64; decide) (by decide)
  have LF2 : Hid (∀ w0 : World, Flts (w0.alloc (.cells #[.float .f64 4607182418800017408, .float .f64 4616189618054758400, .float .f64 4611686018427387904, .float .f64 4617315517961601024, .float .f64 4613937818241073152, .float .f64 4618441417868443648] 42)) (.slice (some ⟨w0.heap.size, 0, none⟩) 6 6) [4607182418800017408, 4616189618054758400, 4611686018427387904, 4617315517961601024, 4613937818241073152, 4618441417868443648]) := fun w0 => lit_flts w0 42 [4607182418800017408, 4616189618054758400, 4611686018427387904, 4617315517961601024, 4613937818241073152, 4618441417868443648] #[.float .f64 4607182418800017408, .float .f64 4616189618054758400, .float .f64 4611686018427387904, .float .f64 4617315517961601024, .float .f64 4613937818241073152, .float .f64 4618441417868443648] w0.heap.size 6 rfl rfl rfl (by unfold W64; decide) (by decide)
  have LF3 : Hid (∀ w0 : World, Flts (w0.alloc (.cells #[.float .f64 4616189618054758400] 42)) (.slice (some ⟨w0.heap.size, 0, none⟩) 1 1) [4616189618054758400]) := fun w0 => lit_flts w0 42 [4616189618054758400] #[.float .f64 4616189618054758400] w0.heap.size 1 rfl rfl rfl (by unfold W64; decide) (by decide)
  have LI3 : Hid (∀ w0 : World, Ints (w0.alloc (.cells #[.int .i64 1] 3)) (.slice (some ⟨w0.heap.size, 0, none⟩) 1 1) [1]) := fun w0 => lit_ints w0 3 [1] #[.int .i64 1] w0.heap.size 1 rfl rfl rfl i64_one (by decide)
  have LF4 : Hid (∀ w0 : World, Flts ((w0.alloc (.cells #[.int .i64 1] 3)).alloc (.cells #[.float .f64 4616189618054758400] 42)) (.slice (some ⟨w0.heap.size + 1, 0, none⟩) 1 1) [4616189618054758400]) := by
    intro w0
    have := unhide LF3 (w0.alloc (.cells #[.int .i64 1] 3))
    rw [World.size_alloc] at this
    exact this
  have LI4 : Hid (∀ w0 : World, Ints ((w0.alloc (.cells #[.float .f64 4616189618054758400] 42)).alloc (.cells #[.int .i64 1] 3)) (.slice (some ⟨w0.heap.size + 1, 0, none⟩) 1 1) [1]) := by
    intro w0
    have := unhide LI3 (w0.alloc (.cells #[.float .f64 4616189618054758400] 42))
    rw [World.size_alloc] at this
    exact this
  have C1 := hide (fun w0 (k : Kp w28 w0) p q r => (of_any 2 2 p q r w0 (by unfold I64; decide) (by unfold I64; decide)).mono (R' := fun ee w' => ∃ L, ee = .returned (.agg #[.slice (some ⟨L, 0, none⟩) 2 2, .slice p q r]) ∧ Hid (Ints w' (.slice (some ⟨L, 0, none⟩) 2 2) [2, 2]) ∧ Hid (Kp w0 w') ∧ Hid (Kp w28 w') ∧ BxO w' B_Bx (.slice ax 2 cx) (.slice bx 4 dx) ∧ BxO w' B_Br (.slice ar 2 cr) (.slice br 6 dr) ∧ BxO w' B_Be (.slice ae 1 ce) (.slice be 1 de)) (by
    rintro ee w' ⟨L, rfl, hi, k'⟩
    exact ⟨L, rfl, hi, k', k.trans k', ((unhide Bx_28).keep (k.trans k')).o, ((unhide Br_28).keep (k.trans k')).o, ((unhide Be_28).keep (k.trans k')).o⟩))
  have C2 := hide (fun w0 (k : Kp w28 w0) p q r => (of_any 3 2 p q r w0 (by unfold I64; decide) (by unfold I64; decide)).mono (R' := fun ee w' => ∃ L, ee = .returned (.agg #[.slice (some ⟨L, 0, none⟩) 2 2, .slice p q r]) ∧ Hid (Ints w' (.slice (some ⟨L, 0, none⟩) 2 2) [3, 2]) ∧ Hid (Kp w0 w') ∧ Hid (Kp w28 w') ∧ BxO w' B_Bx (.slice ax 2 cx) (.slice bx 4 dx) ∧ BxO w' B_Br (.slice ar 2 cr) (.slice br 6 dr) ∧ BxO w' B_Be (.slice ae 1 ce) (.slice be 1 de)) (by
    rintro ee w' ⟨L, rfl, hi, k'⟩
    exact ⟨L, rfl, hi, k', k.trans k', ((unhide Bx_28).keep (k.trans k')).o, ((unhide Br_28).keep (k.trans k')).o, ((unhide Be_28).keep (k.trans k')).o⟩))
  have D1 := hide (fun w0 (k : Kp w28 w0) v u (hi : Ints w0 v [2, 2]) (hf : Flts w0 u [4626041242239631360, 4626885667169763328, 4631248529308778496, 4632233691727265792]) => (rsameT_any (.slice ax 2 cx) (.slice bx 4 dx) v u [2, 2] [4626041242239631360, 4626885667169763328, 4631248529308778496, 4632233691727265792] [2, 2] [4626041242239631360, 4626885667169763328, 4631248529308778496, 4632233691727265792] w0 ((show Ints w28 (.slice ax 2 cx) [2, 2] from unhide Sx_28).keep k) ((show Flts w28 (.slice bx 4 dx) [4626041242239631360, 4626885667169763328, 4631248529308778496, 4632233691727265792] from unhide Dx_28).keep k) hi hf).mono (R' := fun ee w' => ee = .returned (.bool true) ∧ Hid (Kp w28 w') ∧ BxO w' B_Bx (.slice ax 2 cx) (.slice bx 4 dx) ∧ BxO w' B_Br (.slice ar 2 cr) (.slice br 6 dr) ∧ BxO w' B_Be (.slice ae 1 ce) (.slice be 1 de)) (by
    rintro ee w' ⟨rfl, k'⟩
    exact ⟨by rw [sameT_self], k.trans k', ((unhide Bx_28).keep (k.trans k')).o, ((unhide Br_28).keep (k.trans k')).o, ((unhide Be_28).keep (k.trans k')).o⟩))
  have D2 := hide (fun w0 (k : Kp w28 w0) v u (hi : Ints w0 v [3, 2]) (hf : Flts w0 u [4607182418800017408, 4616189618054758400, 4611686018427387904, 4617315517961601024, 4613937818241073152, 4618441417868443648]) => (rsameT_any (.slice ar 2 cr) (.slice br 6 dr) v u [3, 2] [4607182418800017408, 4616189618054758400, 4611686018427387904, 4617315517961601024, 4613937818241073152, 4618441417868443648] [3, 2] [4607182418800017408, 4616189618054758400, 4611686018427387904, 4617315517961601024, 4613937818241073152, 4618441417868443648] w0 ((show Ints w28 (.slice ar 2 cr) [3, 2] from unhide Sr_28).keep k) ((show Flts w28 (.slice br 6 dr) [4607182418800017408, 4616189618054758400, 4611686018427387904, 4617315517961601024, 4613937818241073152, 4618441417868443648] from unhide Dr_28).keep k) hi hf).mono (R' := fun ee w' => ee = .returned (.bool true) ∧ Hid (Kp w28 w') ∧ BxO w' B_Bx (.slice ax 2 cx) (.slice bx 4 dx) ∧ BxO w' B_Br (.slice ar 2 cr) (.slice br 6 dr) ∧ BxO w' B_Be (.slice ae 1 ce) (.slice be 1 de)) (by
    rintro ee w' ⟨rfl, k'⟩
    exact ⟨by rw [sameT_self], k.trans k', ((unhide Bx_28).keep (k.trans k')).o, ((unhide Br_28).keep (k.trans k')).o, ((unhide Be_28).keep (k.trans k')).o⟩))
  have D3 := hide (fun w0 (k : Kp w28 w0) v u (hi : Ints w0 v [1]) (hf : Flts w0 u [4616189618054758400]) => (rsameT_any (.slice ae 1 ce) (.slice be 1 de) v u [1] [4616189618054758400] [1] [4616189618054758400] w0 ((show Ints w28 (.slice ae 1 ce) [1] from unhide Se_28).keep k) ((show Flts w28 (.slice be 1 de) [4616189618054758400] from unhide De_28).keep k) hi hf).mono (R' := fun ee w' => ee = .returned (.bool true) ∧ Hid (Kp w28 w') ∧ BxO w' B_Bx (.slice ax 2 cx) (.slice bx 4 dx) ∧ BxO w' B_Br (.slice ar 2 cr) (.slice br 6 dr) ∧ BxO w' B_Be (.slice ae 1 ce) (.slice be 1 de)) (by
    rintro ee w' ⟨rfl, k'⟩
    exact ⟨by rw [sameT_self], k.trans k', ((unhide Bx_28).keep (k.trans k')).o, ((unhide Br_28).keep (k.trans k')).o, ((unhide Be_28).keep (k.trans k')).o⟩))
  go_region_held3 (fun w' => w'.cell? ⟨B_Bx, 0, none⟩ = some (.slice ax 2 cx) ∧ w'.cell? ⟨B_Bx, 1, none⟩ = some (.slice bx 4 dx) ∧ w'.cell? ⟨B_Br, 0, none⟩ = some (.slice ar 2 cr) ∧ w'.cell? ⟨B_Br, 1, none⟩ = some (.slice br 6 dr) ∧ w'.cell? ⟨B_Be, 0, none⟩ = some (.slice ae 1 ce) ∧ w'.cell? ⟨B_Be, 1, none⟩ = some (.slice be 1 de)) (go_keep)
    (first
      | (go_at_call_of 20 (Value.int IntKind.i64 3); refine ((unhide C2) _ ?_ _ _ _).mono ?_; (exact (unhide K2').trans (Kp.alloc z2 (.cells #[.float .f64 4607182418800017408, .float .f64 4616189618054758400, .float .f64 4611686018427387904, .float .f64 4617315517961601024, .float .f64 4613937818241073152, .float .f64 4618441417868443648] 42))); rintro ee z3 ⟨L3, rfl, I3, J3, K3', ⟨bx0, bx1, -, -, bx4⟩, ⟨br0, br1, -, -, br4⟩, ⟨be0, be1, -, -, be4⟩⟩)
      | (go_at_call_of 20 (Value.int IntKind.i64 2); refine ((unhide C1) _ ?_ _ _ _).mono ?_; (exact (Kp.alloc w28 (.cells #[.float .f64 4626041242239631360, .float .f64 4626885667169763328, .float .f64 4631248529308778496, .float .f64 4632233691727265792] 42)).trans (Kp.drew _)); rintro ee z1 ⟨L1, rfl, I1, J1, K1', ⟨bx0, bx1, -, -, bx4⟩, ⟨br0, br1, -, -, br4⟩, ⟨be0, be1, -, -, be4⟩⟩)
      | (go_at_call_of 22 (Value.agg #[Value.slice ax 2 cx, Value.slice bx 4 dx]); refine ((unhide D1) _ (unhide K1') _ _ (unhide I1) (((unhide LF1 w28).keep (Kp.drew _)).keep (unhide J1))).mono ?_; rintro ee z2 ⟨rfl, K2', ⟨bx0, bx1, -, -, bx4⟩, ⟨br0, br1, -, -, br4⟩, ⟨be0, be1, -, -, be4⟩⟩)
      | (go_at_call_of 22 (Value.agg #[Value.slice ar 2 cr, Value.slice br 6 dr]); refine ((unhide D2) _ (unhide K3') _ _ (unhide I3) ((unhide LF2 z2).keep (unhide J3))).mono ?_; rintro ee z4 ⟨rfl, K4', ⟨bx0, bx1, -, -, bx4⟩, ⟨br0, br1, -, -, br4⟩, ⟨be0, be1, -, -, be4⟩⟩)
      | (go_at_call_of 22 (Value.agg #[Value.slice ae 1 ce, Value.slice be 1 de]); (first | with_reducible refine ((unhide D3) ((z4.alloc (.cells #[.int .i64 1] 3)).alloc (.cells #[.float .f64 4616189618054758400] 42)) (((unhide K4').trans (Kp.alloc z4 (.cells #[.int .i64 1] 3))).trans (Kp.alloc (z4.alloc (.cells #[.int .i64 1] 3)) (.cells #[.float .f64 4616189618054758400] 42))) _ _ ((unhide LI3 z4).keep (Kp.alloc (z4.alloc (.cells #[.int .i64 1] 3)) (.cells #[.float .f64 4616189618054758400] 42))) (unhide LF4 z4)).mono ?_ | with_reducible refine ((unhide D3) ((z4.alloc (.cells #[.float .f64 4616189618054758400] 42)).alloc (.cells #[.int .i64 1] 3)) (((unhide K4').trans (Kp.alloc z4 (.cells #[.float .f64 4616189618054758400] 42))).trans (Kp.alloc (z4.alloc (.cells #[.float .f64 4616189618054758400] 42)) (.cells #[.int .i64 1] 3))) _ _ (unhide LI4 z4) ((unhide LF3 z4).keep (Kp.alloc (z4.alloc (.cells #[.float .f64 4616189618054758400] 42)) (.cells #[.int .i64 1] 3)))).mono ?_); rintro ee z5 ⟨rfl, K5', ⟨bx0, bx1, -, -, bx4⟩, ⟨br0, br1, -, -, br4⟩, ⟨be0, be1, -, -, be4⟩⟩))
  all_goals (
    have KF := hide ((unhide K28).trans (unhide K5'))
    go_wp2
    go_ret
    exact ⟨rfl, unhide KF⟩)

end Go.Proofs.Ytgdmhmnmhfpkkaa
