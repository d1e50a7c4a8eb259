
/- The law TensorKnown, walked. -/
import Derived.Test.YtehlkbgjaegpjaaLawTA
import Derived.Deep.DeepCutAuto
namespace Go.Proofs.Ytehlkbgjaegpjaa
open Go.RowKit

theorem BlkF.litAt (w : World) (e : TypeId) (ys : List Nat) (c : Array Value) (B : Nat) (hc : c = (ys.map (Value.float .f64)).toArray) (hB : B = w.heap.size) : BlkF (w.alloc (.cells c e)) e B ys := by
  subst hc hB
  unfold BlkF
  simp only [World.alloc, Array.getElem?_push_size]
theorem Blk.litAt (w : World) (e : TypeId) (ys : List Int) (c : Array Value) (B : Nat) (hc : c = (ys.map (Value.int .i64)).toArray) (hB : B = w.heap.size) : Blk (w.alloc (.cells c e)) e B ys := by
  subst hc hB
  unfold Blk
  simp only [World.alloc, Array.getElem?_push_size]
theorem Blk.ne {w : World} {e e' : TypeId} {B B' : Nat} {xs : List Int} {ys : List Nat} (h : Blk w e B xs) (h' : BlkF w e' B' ys) (hne : e ≠ e') : ¬ B = B' := by
  intro e1
  subst e1
  unfold Blk at h
  unfold BlkF at h'
  rw [h] at h'
  injection h' with e2
  injection e2 with _ e3
  exact hne e3
theorem Blk.setF {w : World} {e : TypeId} {B B' : Nat} {xs : List Int} (h : Blk w e B xs) (hne : ¬ B = B') (i : Nat) (u : Value) : Blk (w.setCell ⟨B', i, none⟩ u) e B xs :=
  (Below.heap_setCell w ⟨B', i, none⟩ u B hne).trans h
theorem Bx.setF {w : World} {e : TypeId} {B B' : Nat} {x y : Value} {ys : List Nat} (h : Bx w B x y) (h' : BlkF w e B' ys) (hne : e ≠ 27) (i : Nat) (u : Value) : Bx (w.setCell ⟨B', i, none⟩ u) B x y := by
  have hn : ¬ B = B' := by
    intro e1
    subst e1
    unfold Bx at h
    unfold BlkF at h'
    rw [h] at h'
    injection h' with e2
    injection e2 with _ e3
    exact hne e3.symm
  exact (Below.heap_setCell w ⟨B', i, none⟩ u B hn).trans h
theorem Bx.setI {w : World} {e : TypeId} {B B' : Nat} {x y : Value} {ys : List Int} (h : Bx w B x y) (h' : Blk w e B' ys) (hne : e ≠ 27) (i : Nat) (u : Value) : Bx (w.setCell ⟨B', i, none⟩ u) B x y := by
  have hn : ¬ B = B' := by
    intro e1
    subst e1
    unfold Bx at h
    unfold Blk at h'
    rw [h] at h'
    injection h' with e2
    injection e2 with _ e3
    exact hne e3.symm
  exact (Below.heap_setCell w ⟨B', i, none⟩ u B hn).trans h

theorem ninf_any (w : World) : Calls Try.prog 25 #[.int .i64 (-1)] w fun e w' => e = .returned (.float .f64 18442240474082181120) ∧ w' = w := by
  have hb := frombits_run 18442240474082181120
  go_enter Try.func25, Try.ntmps25
  go_wp2
  go_ret
  exact ⟨rfl, rfl⟩

theorem kn3a : atN [2, 3] [4607182418800017408, 4611686018427387904, 4613937818241073152, 4616189618054758400, 4617315517961601024, 4618441417868443648] [0, 0] = 4607182418800017408 := by decide +kernel
theorem kn3b : atB [2, 3] [4607182418800017408, 4611686018427387904, 4613937818241073152, 4616189618054758400, 4617315517961601024, 4618441417868443648] [0, 0] = true := by decide +kernel
theorem kn3c : atN [2, 3] [4607182418800017408, 4611686018427387904, 4613937818241073152, 4616189618054758400, 4617315517961601024, 4618441417868443648] [1, 2] = 4618441417868443648 := by decide +kernel
theorem kn3d : atB [2, 3] [4607182418800017408, 4611686018427387904, 4613937818241073152, 4616189618054758400, 4617315517961601024, 4618441417868443648] [1, 2] = true := by decide +kernel
theorem kn3e : atB [2, 3] [4607182418800017408, 4611686018427387904, 4613937818241073152, 4616189618054758400, 4617315517961601024, 4618441417868443648] [2, 0] = false := by decide +kernel
theorem kn3f : atB [2, 3] [4607182418800017408, 4611686018427387904, 4613937818241073152, 4616189618054758400, 4617315517961601024, 4618441417868443648] [0] = false := by decide +kernel
theorem kn3g : szE [0] = 2 := by decide +kernel
theorem kn3h : szE [100, 100] = 3 := by decide +kernel
theorem kn3i : mayT [] (List.replicate 1 4617315517961601024) = true := by decide +kernel
theorem kn3j : mayT [] [] = false := by decide +kernel
theorem kn3k : finT [1] [18442240474082181120] = false := by decide +kernel

set_option maxHeartbeats 2000000 in
theorem known3_walk (w : World) : Calls Try.prog 5 #[] w fun e w' => e = .returned (.bool true) ∧ Kp w w' := by
  have hq1 : (FloatKind.f64.format.order 4607182418800017408 4607182418800017408 == some Ordering.eq) = true := by decide +kernel
  have hq6 : (FloatKind.f64.format.order 4618441417868443648 4618441417868443648 == some Ordering.eq) = true := by decide +kernel
  go_enter Try.func5, Try.ntmps5
  go_wp2_with fail
  refine (awake3_any w).mono ?_
  rintro e w1 ⟨rfl, k1⟩
  have K1 := hide k1
  clear k1
  go_wp2_with fail
  have HQ : Hid (w.heap.size ≤ w1.heap.size) := (unhide K1).size
  have HP : Hid (w.heap.size ≤ w1.heap.size + 1) := Nat.le_succ_of_le (unhide K1).size
  have FQ_2 := hide ((BlkF.litAt w1 23 [4607182418800017408, 4611686018427387904, 4613937818241073152, 4616189618054758400, 4617315517961601024, 4618441417868443648] #[.float .f64 4607182418800017408, .float .f64 4611686018427387904, .float .f64 4613937818241073152, .float .f64 4616189618054758400, .float .f64 4617315517961601024, .float .f64 4618441417868443648] w1.heap.size rfl rfl).keep (Kp.alloc (w1.alloc (.cells #[.float .f64 4607182418800017408, .float .f64 4611686018427387904, .float .f64 4613937818241073152, .float .f64 4616189618054758400, .float .f64 4617315517961601024, .float .f64 4618441417868443648] 23)) (.cells #[.int .i64 2, .int .i64 3] 3)))
  have FP_2 := hide (Blk.litAt (w1.alloc (.cells #[.float .f64 4607182418800017408, .float .f64 4611686018427387904, .float .f64 4613937818241073152, .float .f64 4616189618054758400, .float .f64 4617315517961601024, .float .f64 4618441417868443648] 23)) 3 [2, 3] #[.int .i64 2, .int .i64 3] (w1.heap.size + 1) rfl (by simp))
  have Q_2 := hide ((lit_flts w1 23 [4607182418800017408, 4611686018427387904, 4613937818241073152, 4616189618054758400, 4617315517961601024, 4618441417868443648] #[.float .f64 4607182418800017408, .float .f64 4611686018427387904, .float .f64 4613937818241073152, .float .f64 4616189618054758400, .float .f64 4617315517961601024, .float .f64 4618441417868443648] (w1.heap.size) 6 rfl rfl rfl (by unfold W64; decide) (by decide)).keep (Kp.alloc (w1.alloc (.cells #[.float .f64 4607182418800017408, .float .f64 4611686018427387904, .float .f64 4613937818241073152, .float .f64 4616189618054758400, .float .f64 4617315517961601024, .float .f64 4618441417868443648] 23)) (.cells #[.int .i64 2, .int .i64 3] 3)))
  have P_2 := hide (lit_ints (w1.alloc (.cells #[.float .f64 4607182418800017408, .float .f64 4611686018427387904, .float .f64 4613937818241073152, .float .f64 4616189618054758400, .float .f64 4617315517961601024, .float .f64 4618441417868443648] 23)) 3 [2, 3] #[.int .i64 2, .int .i64 3] (w1.heap.size + 1) 2 rfl (by simp) rfl (by unfold I64; decide) (by decide))
  have q2 := (Kp.alloc w1 (.cells #[.float .f64 4607182418800017408, .float .f64 4611686018427387904, .float .f64 4613937818241073152, .float .f64 4616189618054758400, .float .f64 4617315517961601024, .float .f64 4618441417868443648] 23)).trans (Kp.alloc (w1.alloc (.cells #[.float .f64 4607182418800017408, .float .f64 4611686018427387904, .float .f64 4613937818241073152, .float .f64 4616189618054758400, .float .f64 4617315517961601024, .float .f64 4618441417868443648] 23)) (.cells #[.int .i64 2, .int .i64 3] 3))
  generalize ((w1.alloc (.cells #[.float .f64 4607182418800017408, .float .f64 4611686018427387904, .float .f64 4613937818241073152, .float .f64 4616189618054758400, .float .f64 4617315517961601024, .float .f64 4618441417868443648] 23)).alloc (.cells #[.int .i64 2, .int .i64 3] 3)) = w2 at *
  have K2 := hide ((unhide K1).trans q2)
  clear K1
  clear q2
  generalize w1.heap.size + 1 = B_P at *
  generalize w1.heap.size = B_Q at *
  have LQ := hide (unhide FQ_2).lt
  have LP := hide (unhide FP_2).lt
  have NE : Hid (¬ B_P = B_Q) := (unhide FP_2).ne (unhide FQ_2) (by decide)
  refine (of_yes _ _ [2, 3] [4607182418800017408, 4611686018427387904, 4613937818241073152, 4616189618054758400, 4617315517961601024, 4618441417868443648] w2 (unhide P_2) (unhide Q_2) (by decide +kernel)).mono ?_
  rintro e w3 ⟨a1, n1, c1, G, c, rfl, o1, hG, og, k3⟩
  have K3 := hide ((unhide K2).trans k3)
  have Q_3 := hide ((unhide Q_2).keep k3)
  have P_3 := hide ((unhide P_2).keep k3)
  have FQ_3 := hide ((unhide FQ_2).keep k3)
  have FP_3 := hide ((unhide FP_2).keep k3)
  clear K2 Q_2 P_2 FQ_2 FP_2
  clear k3
  have O1_3 := hide o1
  have G1_3 := hide og
  have GQ : Hid (¬ B_Q = G) := hide (by have := unhide LQ; omega)
  have GP : Hid (¬ B_P = G) := hide (by have := unhide LP; omega)
  clear o1 og hG
  clear P_3
  clear Q_3
  go_upto_region 8 with fail
  have T_4 := hide (Bx.madeAt w3 (.slice a1 n1 c1) (.slice (some ⟨G, 0, none⟩) 6 c) (w3.heap.size) rfl)
  have q4 := Kp.alloc w3 (.cells #[(.slice a1 n1 c1), (.slice (some ⟨G, 0, none⟩) 6 c)] 27)
  generalize (w3.alloc (.cells #[(.slice a1 n1 c1), (.slice (some ⟨G, 0, none⟩) 6 c)] 27)) = w4 at *
  have K4 := hide ((unhide K3).trans q4)
  have FQ_4 := hide ((unhide FQ_3).keep q4)
  have FP_4 := hide ((unhide FP_3).keep q4)
  have O1_4 := hide ((unhide O1_3).keep q4)
  have G1_4 := hide ((unhide G1_3).keep q4)
  clear K3 FQ_3 FP_3 O1_3 G1_3
  clear q4
  generalize w3.heap.size = B_T at *
  obtain ⟨T0_4, T1_4, -, -, T4_4⟩ := (unhide T_4).o
  have q0 := (unhide FQ_4).cell (i := 0) (by decide)
  have q1 := (unhide FQ_4).frozen 0
  have r0 := (unhide FP_4).cell (i := 0) (by decide)
  have r1 := (unhide FP_4).frozen 0
  have hne := unhide NE
  have hne2 : ¬ B_Q = B_P := fun e => hne e.symm
  have hst : ∀ (a : Addr) (x : Nat) (w : World), (store a (.float .f64 x)).run Try.prog w = stored Try.prog w a (.float .f64 x) .plain := fun a x w => run_store _ w a _ _ rfl
  go_upto_region 9 with fail
  have S_5 := hide (((((unhide O1_4).setBelow (unhide LQ) 0 (.float .f64 4621256167635550208)).setBelow (unhide LP) 0 (.int .i64 9)).ints (by unfold I64; decide) (by decide)))
  have D_5 := hide (((((unhide G1_4).setOther (unhide GQ) 0 (.float .f64 4621256167635550208)).setOther (unhide GP) 0 (.int .i64 9)).flts (by unfold W64; decide) (by decide)))
  have K5 := hide (((unhide K4).set (unhide HQ) (i := 0) (.float .f64 4621256167635550208)).set (unhide HP) (i := 0) (.int .i64 9))
  have T_5 := hide (((unhide T_4).setF (unhide FQ_4) (by decide) 0 (.float .f64 4621256167635550208)).setI ((unhide FP_4).setF hne 0 (.float .f64 4621256167635550208)) (by decide) 0 (.int .i64 9))
  generalize ((w4.setCell ⟨B_Q, 0, none⟩ (.float .f64 4621256167635550208)).setCell ⟨B_P, 0, none⟩ (.int .i64 9)) = w5 at *
  clear q0 q1 r0 r1 hne hne2 hst T0_4 T1_4 T4_4 T_4 FQ_4 FP_4 O1_4 G1_4 K4 LQ LP NE GQ GP HQ HP
  obtain ⟨T0_5, T1_5, -, -, T4_5⟩ := (unhide T_5).o
  go_wp2_with fail
  have A_6 := hide (lit_ints w5 3 [0, 0] #[.int .i64 0, .int .i64 0] (w5.heap.size) 2 rfl rfl rfl (by unfold I64; decide) (by decide))
  have q6 := Kp.alloc w5 (.cells #[.int .i64 0, .int .i64 0] 3)
  generalize (w5.alloc (.cells #[.int .i64 0, .int .i64 0] 3)) = w6 at *
  have K6 := hide ((unhide K5).trans q6)
  have S_6 := hide ((unhide S_5).keep q6)
  have D_6 := hide ((unhide D_5).keep q6)
  have T_6 := hide ((unhide T_5).keep q6)
  clear K5 S_5 D_5 T_5 T0_5 T1_5 T4_5
  obtain ⟨T0_6, T1_6, -, -, T4_6⟩ := (unhide T_6).o
  clear q6
  generalize w5.heap.size = B_A at *
  refine (at_any _ _ _ [2, 3] [4607182418800017408, 4611686018427387904, 4613937818241073152, 4616189618054758400, 4617315517961601024, 4618441417868443648] [0, 0] w6 (unhide S_6) (unhide D_6) (unhide A_6)).mono ?_
  rw [kn3a, kn3b]
  rintro e w7 ⟨rfl, k7⟩
  have K7 := hide ((unhide K6).trans k7)
  have S_7 := hide ((unhide S_6).keep k7)
  have D_7 := hide ((unhide D_6).keep k7)
  have A_7 := hide ((unhide A_6).keep k7)
  have T_7 := hide ((unhide T_6).keep k7)
  clear K6 S_6 D_6 A_6 T_6 T0_6 T1_6 T4_6
  obtain ⟨T0_7, T1_7, -, -, T4_7⟩ := (unhide T_7).o
  clear k7
  clear A_7
  go_wp2_with fail
  have A_8 := hide (lit_ints w7 3 [1, 2] #[.int .i64 1, .int .i64 2] (w7.heap.size) 2 rfl rfl rfl (by unfold I64; decide) (by decide))
  have q8 := Kp.alloc w7 (.cells #[.int .i64 1, .int .i64 2] 3)
  generalize (w7.alloc (.cells #[.int .i64 1, .int .i64 2] 3)) = w8 at *
  have K8 := hide ((unhide K7).trans q8)
  have S_8 := hide ((unhide S_7).keep q8)
  have D_8 := hide ((unhide D_7).keep q8)
  have T_8 := hide ((unhide T_7).keep q8)
  clear K7 S_7 D_7 T_7 T0_7 T1_7 T4_7
  obtain ⟨T0_8, T1_8, -, -, T4_8⟩ := (unhide T_8).o
  clear q8
  generalize w7.heap.size = B_A at *
  refine (at_any _ _ _ [2, 3] [4607182418800017408, 4611686018427387904, 4613937818241073152, 4616189618054758400, 4617315517961601024, 4618441417868443648] [1, 2] w8 (unhide S_8) (unhide D_8) (unhide A_8)).mono ?_
  rw [kn3c, kn3d]
  rintro e w9 ⟨rfl, k9⟩
  have K9 := hide ((unhide K8).trans k9)
  have S_9 := hide ((unhide S_8).keep k9)
  have D_9 := hide ((unhide D_8).keep k9)
  have A_9 := hide ((unhide A_8).keep k9)
  have T_9 := hide ((unhide T_8).keep k9)
  clear K8 S_8 D_8 A_8 T_8 T0_8 T1_8 T4_8
  obtain ⟨T0_9, T1_9, -, -, T4_9⟩ := (unhide T_9).o
  clear k9
  clear A_9
  go_wp2_with fail
  have A_10 := hide (lit_ints w9 3 [2, 0] #[.int .i64 2, .int .i64 0] (w9.heap.size) 2 rfl rfl rfl (by unfold I64; decide) (by decide))
  have q10 := Kp.alloc w9 (.cells #[.int .i64 2, .int .i64 0] 3)
  generalize (w9.alloc (.cells #[.int .i64 2, .int .i64 0] 3)) = w10 at *
  have K10 := hide ((unhide K9).trans q10)
  have S_10 := hide ((unhide S_9).keep q10)
  have D_10 := hide ((unhide D_9).keep q10)
  have T_10 := hide ((unhide T_9).keep q10)
  clear K9 S_9 D_9 T_9 T0_9 T1_9 T4_9
  obtain ⟨T0_10, T1_10, -, -, T4_10⟩ := (unhide T_10).o
  clear q10
  generalize w9.heap.size = B_A at *
  refine (at_any _ _ _ [2, 3] [4607182418800017408, 4611686018427387904, 4613937818241073152, 4616189618054758400, 4617315517961601024, 4618441417868443648] [2, 0] w10 (unhide S_10) (unhide D_10) (unhide A_10)).mono ?_
  rw [kn3e]
  rintro e w11 ⟨rfl, k11⟩
  have K11 := hide ((unhide K10).trans k11)
  have S_11 := hide ((unhide S_10).keep k11)
  have D_11 := hide ((unhide D_10).keep k11)
  have A_11 := hide ((unhide A_10).keep k11)
  have T_11 := hide ((unhide T_10).keep k11)
  clear K10 S_10 D_10 A_10 T_10 T0_10 T1_10 T4_10
  obtain ⟨T0_11, T1_11, -, -, T4_11⟩ := (unhide T_11).o
  clear k11
  clear A_11
  go_wp2_with fail
  have A_12 := hide (lit_ints w11 3 [0] #[.int .i64 0] (w11.heap.size) 1 rfl rfl rfl (by unfold I64; decide) (by decide))
  have q12 := Kp.alloc w11 (.cells #[.int .i64 0] 3)
  generalize (w11.alloc (.cells #[.int .i64 0] 3)) = w12 at *
  have K12 := hide ((unhide K11).trans q12)
  have S_12 := hide ((unhide S_11).keep q12)
  have D_12 := hide ((unhide D_11).keep q12)
  have T_12 := hide ((unhide T_11).keep q12)
  clear K11 S_11 D_11 T_11 T0_11 T1_11 T4_11
  obtain ⟨T0_12, T1_12, -, -, T4_12⟩ := (unhide T_12).o
  clear q12
  generalize w11.heap.size = B_A at *
  refine (at_any _ _ _ [2, 3] [4607182418800017408, 4611686018427387904, 4613937818241073152, 4616189618054758400, 4617315517961601024, 4618441417868443648] [0] w12 (unhide S_12) (unhide D_12) (unhide A_12)).mono ?_
  rw [kn3f]
  rintro e w13 ⟨rfl, k13⟩
  have K13 := hide ((unhide K12).trans k13)
  have S_13 := hide ((unhide S_12).keep k13)
  have D_13 := hide ((unhide D_12).keep k13)
  have A_13 := hide ((unhide A_12).keep k13)
  have T_13 := hide ((unhide T_12).keep k13)
  clear K12 S_12 D_12 A_12 T_12 T0_12 T1_12 T4_12
  obtain ⟨T0_13, T1_13, -, -, T4_13⟩ := (unhide T_13).o
  clear k13
  clear A_13
  clear S_13
  clear D_13
  go_wp2_with fail
  have A_14 := hide (lit_ints w13 3 [0] #[.int .i64 0] (w13.heap.size) 1 rfl rfl rfl (by unfold I64; decide) (by decide))
  have q14 := Kp.alloc w13 (.cells #[.int .i64 0] 3)
  generalize (w13.alloc (.cells #[.int .i64 0] 3)) = w14 at *
  have K14 := hide ((unhide K13).trans q14)
  have T_14 := hide ((unhide T_13).keep q14)
  clear K13 T_13 T0_13 T1_13 T4_13
  obtain ⟨T0_14, T1_14, -, -, T4_14⟩ := (unhide T_14).o
  clear q14
  generalize w13.heap.size = B_A at *
  refine (new_no _ [0] 4607182418800017408 w14 (unhide A_14) (by decide +kernel)).mono ?_
  rw [kn3g]
  rintro e w15 ⟨rfl, k15⟩
  have K15 := hide ((unhide K14).trans k15)
  have A_15 := hide ((unhide A_14).keep k15)
  have T_15 := hide ((unhide T_14).keep k15)
  clear K14 A_14 T_14 T0_14 T1_14 T4_14
  obtain ⟨T0_15, T1_15, -, -, T4_15⟩ := (unhide T_15).o
  clear k15
  clear A_15
  go_wp2_with fail
  have X_16 := hide (((Bx.madeAt w15 (.slice none 0 0) (.slice none 0 0) (w15.heap.size) rfl).keep (Kp.alloc (w15.alloc (.cells #[(.slice none 0 0), (.slice none 0 0)] 27)) (.cells #[.int .i64 2] 3))).keep (Kp.alloc ((w15.alloc (.cells #[(.slice none 0 0), (.slice none 0 0)] 27)).alloc (.cells #[.int .i64 2] 3)) (.cells #[.float .f64 4607182418800017408] 23)))
  have A_16 := hide ((lit_ints (w15.alloc (.cells #[(.slice none 0 0), (.slice none 0 0)] 27)) 3 [2] #[.int .i64 2] (w15.heap.size + 1) 1 rfl (by simp) rfl (by unfold I64; decide) (by decide)).keep (Kp.alloc ((w15.alloc (.cells #[(.slice none 0 0), (.slice none 0 0)] 27)).alloc (.cells #[.int .i64 2] 3)) (.cells #[.float .f64 4607182418800017408] 23)))
  have C_16 := hide (lit_flts ((w15.alloc (.cells #[(.slice none 0 0), (.slice none 0 0)] 27)).alloc (.cells #[.int .i64 2] 3)) 23 [4607182418800017408] #[.float .f64 4607182418800017408] (w15.heap.size + 2) 1 rfl (by simp) rfl (by unfold W64; decide) (by decide))
  have q16 := ((Kp.alloc w15 (.cells #[(.slice none 0 0), (.slice none 0 0)] 27)).trans (Kp.alloc (w15.alloc (.cells #[(.slice none 0 0), (.slice none 0 0)] 27)) (.cells #[.int .i64 2] 3))).trans (Kp.alloc ((w15.alloc (.cells #[(.slice none 0 0), (.slice none 0 0)] 27)).alloc (.cells #[.int .i64 2] 3)) (.cells #[.float .f64 4607182418800017408] 23))
  generalize (((w15.alloc (.cells #[(.slice none 0 0), (.slice none 0 0)] 27)).alloc (.cells #[.int .i64 2] 3)).alloc (.cells #[.float .f64 4607182418800017408] 23)) = w16 at *
  have K16 := hide ((unhide K15).trans q16)
  have T_16 := hide ((unhide T_15).keep q16)
  clear K15 T_15 T0_15 T1_15 T4_15
  obtain ⟨T0_16, T1_16, -, -, T4_16⟩ := (unhide T_16).o
  clear q16
  generalize w15.heap.size + 2 = B_C at *
  generalize w15.heap.size + 1 = B_A at *
  generalize w15.heap.size = B_X at *
  obtain ⟨X0_16, X1_16, -, -, X4_16⟩ := (unhide X_16).o
  refine (of_len _ _ [2] [4607182418800017408] w16 (unhide A_16) (unhide C_16) (by decide +kernel) (by decide +kernel)).mono ?_
  rintro e w17 ⟨rfl, k17⟩
  have K17 := hide ((unhide K16).trans k17)
  have A_17 := hide ((unhide A_16).keep k17)
  have C_17 := hide ((unhide C_16).keep k17)
  have T_17 := hide ((unhide T_16).keep k17)
  have X_17 := hide ((unhide X_16).keep k17)
  clear K16 A_16 C_16 T_16 T0_16 T1_16 T4_16 X_16 X0_16 X1_16 X4_16
  obtain ⟨T0_17, T1_17, -, -, T4_17⟩ := (unhide T_17).o
  obtain ⟨X0_17, X1_17, -, -, X4_17⟩ := (unhide X_17).o
  clear k17
  clear A_17
  clear C_17
  go_wp2_with fail
  have Y_18 := hide ((Bx.madeAt w17 (.slice none 0 0) (.slice none 0 0) (w17.heap.size) rfl).keep (Kp.alloc (w17.alloc (.cells #[(.slice none 0 0), (.slice none 0 0)] 27)) (.cells #[.int .i64 100, .int .i64 100] 3)))
  have A_18 := hide (lit_ints (w17.alloc (.cells #[(.slice none 0 0), (.slice none 0 0)] 27)) 3 [100, 100] #[.int .i64 100, .int .i64 100] (w17.heap.size + 1) 2 rfl (by simp) rfl (by unfold I64; decide) (by decide))
  have q18 := (Kp.alloc w17 (.cells #[(.slice none 0 0), (.slice none 0 0)] 27)).trans (Kp.alloc (w17.alloc (.cells #[(.slice none 0 0), (.slice none 0 0)] 27)) (.cells #[.int .i64 100, .int .i64 100] 3))
  generalize ((w17.alloc (.cells #[(.slice none 0 0), (.slice none 0 0)] 27)).alloc (.cells #[.int .i64 100, .int .i64 100] 3)) = w18 at *
  have K18 := hide ((unhide K17).trans q18)
  have T_18 := hide ((unhide T_17).keep q18)
  have X_18 := hide ((unhide X_17).keep q18)
  clear K17 T_17 T0_17 T1_17 T4_17 X_17 X0_17 X1_17 X4_17
  obtain ⟨T0_18, T1_18, -, -, T4_18⟩ := (unhide T_18).o
  obtain ⟨X0_18, X1_18, -, -, X4_18⟩ := (unhide X_18).o
  clear q18
  generalize w17.heap.size + 1 = B_A at *
  generalize w17.heap.size = B_Y at *
  obtain ⟨Y0_18, Y1_18, -, -, Y4_18⟩ := (unhide Y_18).o
  refine (of_no _ _ [100, 100] w18 (unhide A_18) (by decide +kernel)).mono ?_
  rw [kn3h]
  rintro e w19 ⟨rfl, k19⟩
  have K19 := hide ((unhide K18).trans k19)
  have A_19 := hide ((unhide A_18).keep k19)
  have T_19 := hide ((unhide T_18).keep k19)
  have X_19 := hide ((unhide X_18).keep k19)
  have Y_19 := hide ((unhide Y_18).keep k19)
  clear K18 A_18 T_18 T0_18 T1_18 T4_18 X_18 X0_18 X1_18 X4_18 Y_18 Y0_18 Y1_18 Y4_18
  obtain ⟨T0_19, T1_19, -, -, T4_19⟩ := (unhide T_19).o
  obtain ⟨X0_19, X1_19, -, -, X4_19⟩ := (unhide X_19).o
  obtain ⟨Y0_19, Y1_19, -, -, Y4_19⟩ := (unhide Y_19).o
  clear k19
  clear A_19
  go_wp2_with fail
  have Z_20 := hide (Bx.madeAt w19 (.slice none 0 0) (.slice none 0 0) (w19.heap.size) rfl)
  have q20 := Kp.alloc w19 (.cells #[(.slice none 0 0), (.slice none 0 0)] 27)
  generalize (w19.alloc (.cells #[(.slice none 0 0), (.slice none 0 0)] 27)) = w20 at *
  have K20 := hide ((unhide K19).trans q20)
  have T_20 := hide ((unhide T_19).keep q20)
  have X_20 := hide ((unhide X_19).keep q20)
  have Y_20 := hide ((unhide Y_19).keep q20)
  clear K19 T_19 T0_19 T1_19 T4_19 X_19 X0_19 X1_19 X4_19 Y_19 Y0_19 Y1_19 Y4_19
  obtain ⟨T0_20, T1_20, -, -, T4_20⟩ := (unhide T_20).o
  obtain ⟨X0_20, X1_20, -, -, X4_20⟩ := (unhide X_20).o
  obtain ⟨Y0_20, Y1_20, -, -, Y4_20⟩ := (unhide Y_20).o
  clear q20
  generalize w19.heap.size = B_Z at *
  obtain ⟨Z0_20, Z1_20, -, -, Z4_20⟩ := (unhide Z_20).o
  refine (new_yes _ [] 4617315517961601024 w20 (Ints.nil _) (by unfold W64; decide) (by decide +kernel)).mono ?_
  rintro e w21 ⟨a3, n3, c3, G3, n, rfl, hn, o3, hG, og, k21⟩
  have K21 := hide ((unhide K20).trans k21)
  have T_21 := hide ((unhide T_20).keep k21)
  have X_21 := hide ((unhide X_20).keep k21)
  have Y_21 := hide ((unhide Y_20).keep k21)
  have Z_21 := hide ((unhide Z_20).keep k21)
  clear K20 T_20 T0_20 T1_20 T4_20 X_20 X0_20 X1_20 X4_20 Y_20 Y0_20 Y1_20 Y4_20 Z_20 Z0_20 Z1_20 Z4_20
  obtain ⟨T0_21, T1_21, -, -, T4_21⟩ := (unhide T_21).o
  obtain ⟨X0_21, X1_21, -, -, X4_21⟩ := (unhide X_21).o
  obtain ⟨Y0_21, Y1_21, -, -, Y4_21⟩ := (unhide Y_21).o
  obtain ⟨Z0_21, Z1_21, -, -, Z4_21⟩ := (unhide Z_21).o
  clear k21
  obtain rfl : n = 1 := by have : prodL [] = 1 := rfl; omega
  have S_21 := hide (o3.ints (by simp) (by decide))
  have D_21 := hide (og.flts (by unfold W64; decide) (by decide))
  clear hn o3 hG og
  go_wp2_with fail
  have O_22 := hide (Bx.madeAt w21 (.slice a3 n3 c3) (.slice (some ⟨G3, 0, none⟩) 1 1) (w21.heap.size) rfl)
  have q22 := Kp.alloc w21 (.cells #[(.slice a3 n3 c3), (.slice (some ⟨G3, 0, none⟩) 1 1)] 27)
  generalize (w21.alloc (.cells #[(.slice a3 n3 c3), (.slice (some ⟨G3, 0, none⟩) 1 1)] 27)) = w22 at *
  have K22 := hide ((unhide K21).trans q22)
  have S_22 := hide ((unhide S_21).keep q22)
  have D_22 := hide ((unhide D_21).keep q22)
  have T_22 := hide ((unhide T_21).keep q22)
  have X_22 := hide ((unhide X_21).keep q22)
  have Y_22 := hide ((unhide Y_21).keep q22)
  have Z_22 := hide ((unhide Z_21).keep q22)
  clear K21 S_21 D_21 T_21 T0_21 T1_21 T4_21 X_21 X0_21 X1_21 X4_21 Y_21 Y0_21 Y1_21 Y4_21 Z_21 Z0_21 Z1_21 Z4_21
  obtain ⟨T0_22, T1_22, -, -, T4_22⟩ := (unhide T_22).o
  obtain ⟨X0_22, X1_22, -, -, X4_22⟩ := (unhide X_22).o
  obtain ⟨Y0_22, Y1_22, -, -, Y4_22⟩ := (unhide Y_22).o
  obtain ⟨Z0_22, Z1_22, -, -, Z4_22⟩ := (unhide Z_22).o
  clear q22
  generalize w21.heap.size = B_O at *
  obtain ⟨O0_22, O1_22, -, -, O4_22⟩ := (unhide O_22).o
  refine (mayT_any _ _ [] (List.replicate 1 4617315517961601024) w22 (unhide S_22) (unhide D_22)).mono ?_
  rw [kn3i]
  rintro e w23 ⟨rfl, k23⟩
  have K23 := hide ((unhide K22).trans k23)
  have S_23 := hide ((unhide S_22).keep k23)
  have D_23 := hide ((unhide D_22).keep k23)
  have T_23 := hide ((unhide T_22).keep k23)
  have X_23 := hide ((unhide X_22).keep k23)
  have Y_23 := hide ((unhide Y_22).keep k23)
  have Z_23 := hide ((unhide Z_22).keep k23)
  have O_23 := hide ((unhide O_22).keep k23)
  clear K22 S_22 D_22 T_22 T0_22 T1_22 T4_22 X_22 X0_22 X1_22 X4_22 Y_22 Y0_22 Y1_22 Y4_22 Z_22 Z0_22 Z1_22 Z4_22 O_22 O0_22 O1_22 O4_22
  obtain ⟨T0_23, T1_23, -, -, T4_23⟩ := (unhide T_23).o
  obtain ⟨X0_23, X1_23, -, -, X4_23⟩ := (unhide X_23).o
  obtain ⟨Y0_23, Y1_23, -, -, Y4_23⟩ := (unhide Y_23).o
  obtain ⟨Z0_23, Z1_23, -, -, Z4_23⟩ := (unhide Z_23).o
  obtain ⟨O0_23, O1_23, -, -, O4_23⟩ := (unhide O_23).o
  clear k23
  clear S_23
  clear D_23
  go_wp2_with fail
  refine (mayT_any _ _ [] [] w23 (Ints.nil _) (Flts.nil _)).mono ?_
  rw [kn3j]
  rintro e w24 ⟨rfl, k24⟩
  have K24 := hide ((unhide K23).trans k24)
  have T_24 := hide ((unhide T_23).keep k24)
  have X_24 := hide ((unhide X_23).keep k24)
  have Y_24 := hide ((unhide Y_23).keep k24)
  have Z_24 := hide ((unhide Z_23).keep k24)
  have O_24 := hide ((unhide O_23).keep k24)
  clear K23 T_23 T0_23 T1_23 T4_23 X_23 X0_23 X1_23 X4_23 Y_23 Y0_23 Y1_23 Y4_23 Z_23 Z0_23 Z1_23 Z4_23 O_23 O0_23 O1_23 O4_23
  obtain ⟨T0_24, T1_24, -, -, T4_24⟩ := (unhide T_24).o
  obtain ⟨X0_24, X1_24, -, -, X4_24⟩ := (unhide X_24).o
  obtain ⟨Y0_24, Y1_24, -, -, Y4_24⟩ := (unhide Y_24).o
  obtain ⟨Z0_24, Z1_24, -, -, Z4_24⟩ := (unhide Z_24).o
  obtain ⟨O0_24, O1_24, -, -, O4_24⟩ := (unhide O_24).o
  clear k24
  go_wp2_with fail
  have A_25 := hide (lit_ints w24 3 [1] #[.int .i64 1] (w24.heap.size) 1 rfl rfl rfl (by unfold I64; decide) (by decide))
  have q25 := Kp.alloc w24 (.cells #[.int .i64 1] 3)
  generalize (w24.alloc (.cells #[.int .i64 1] 3)) = w25 at *
  have K25 := hide ((unhide K24).trans q25)
  have T_25 := hide ((unhide T_24).keep q25)
  have X_25 := hide ((unhide X_24).keep q25)
  have Y_25 := hide ((unhide Y_24).keep q25)
  have Z_25 := hide ((unhide Z_24).keep q25)
  have O_25 := hide ((unhide O_24).keep q25)
  clear K24 T_24 T0_24 T1_24 T4_24 X_24 X0_24 X1_24 X4_24 Y_24 Y0_24 Y1_24 Y4_24 Z_24 Z0_24 Z1_24 Z4_24 O_24 O0_24 O1_24 O4_24
  obtain ⟨T0_25, T1_25, -, -, T4_25⟩ := (unhide T_25).o
  obtain ⟨X0_25, X1_25, -, -, X4_25⟩ := (unhide X_25).o
  obtain ⟨Y0_25, Y1_25, -, -, Y4_25⟩ := (unhide Y_25).o
  obtain ⟨Z0_25, Z1_25, -, -, Z4_25⟩ := (unhide Z_25).o
  obtain ⟨O0_25, O1_25, -, -, O4_25⟩ := (unhide O_25).o
  clear q25
  generalize w24.heap.size = B_A at *
  refine (kp_of (ninf_any w25)).mono ?_
  rintro e w26 ⟨rfl, k26⟩
  have K26 := hide ((unhide K25).trans k26)
  have A_26 := hide ((unhide A_25).keep k26)
  have T_26 := hide ((unhide T_25).keep k26)
  have X_26 := hide ((unhide X_25).keep k26)
  have Y_26 := hide ((unhide Y_25).keep k26)
  have Z_26 := hide ((unhide Z_25).keep k26)
  have O_26 := hide ((unhide O_25).keep k26)
  clear K25 A_25 T_25 T0_25 T1_25 T4_25 X_25 X0_25 X1_25 X4_25 Y_25 Y0_25 Y1_25 Y4_25 Z_25 Z0_25 Z1_25 Z4_25 O_25 O0_25 O1_25 O4_25
  obtain ⟨T0_26, T1_26, -, -, T4_26⟩ := (unhide T_26).o
  obtain ⟨X0_26, X1_26, -, -, X4_26⟩ := (unhide X_26).o
  obtain ⟨Y0_26, Y1_26, -, -, Y4_26⟩ := (unhide Y_26).o
  obtain ⟨Z0_26, Z1_26, -, -, Z4_26⟩ := (unhide Z_26).o
  obtain ⟨O0_26, O1_26, -, -, O4_26⟩ := (unhide O_26).o
  clear k26
  go_wp2_with fail
  have C_27 := hide (lit_flts w26 23 [18442240474082181120] #[.float .f64 18442240474082181120] (w26.heap.size) 1 rfl rfl rfl (by unfold W64; decide) (by decide))
  have q27 := Kp.alloc w26 (.cells #[.float .f64 18442240474082181120] 23)
  generalize (w26.alloc (.cells #[.float .f64 18442240474082181120] 23)) = w27 at *
  have K27 := hide ((unhide K26).trans q27)
  have A_27 := hide ((unhide A_26).keep q27)
  have T_27 := hide ((unhide T_26).keep q27)
  have X_27 := hide ((unhide X_26).keep q27)
  have Y_27 := hide ((unhide Y_26).keep q27)
  have Z_27 := hide ((unhide Z_26).keep q27)
  have O_27 := hide ((unhide O_26).keep q27)
  clear K26 A_26 T_26 T0_26 T1_26 T4_26 X_26 X0_26 X1_26 X4_26 Y_26 Y0_26 Y1_26 Y4_26 Z_26 Z0_26 Z1_26 Z4_26 O_26 O0_26 O1_26 O4_26
  obtain ⟨T0_27, T1_27, -, -, T4_27⟩ := (unhide T_27).o
  obtain ⟨X0_27, X1_27, -, -, X4_27⟩ := (unhide X_27).o
  obtain ⟨Y0_27, Y1_27, -, -, Y4_27⟩ := (unhide Y_27).o
  obtain ⟨Z0_27, Z1_27, -, -, Z4_27⟩ := (unhide Z_27).o
  obtain ⟨O0_27, O1_27, -, -, O4_27⟩ := (unhide O_27).o
  clear q27
  generalize w26.heap.size = B_C at *
  refine (finT_any _ _ [1] [18442240474082181120] w27 (unhide A_27) (unhide C_27)).mono ?_
  rw [kn3k]
  rintro e w28 ⟨rfl, k28⟩
  have K28 := hide ((unhide K27).trans k28)
  have A_28 := hide ((unhide A_27).keep k28)
  have C_28 := hide ((unhide C_27).keep k28)
  have T_28 := hide ((unhide T_27).keep k28)
  have X_28 := hide ((unhide X_27).keep k28)
  have Y_28 := hide ((unhide Y_27).keep k28)
  have Z_28 := hide ((unhide Z_27).keep k28)
  have O_28 := hide ((unhide O_27).keep k28)
  clear K27 A_27 C_27 T_27 T0_27 T1_27 T4_27 X_27 X0_27 X1_27 X4_27 Y_27 Y0_27 Y1_27 Y4_27 Z_27 Z0_27 Z1_27 Z4_27 O_27 O0_27 O1_27 O4_27
  obtain ⟨T0_28, T1_28, -, -, T4_28⟩ := (unhide T_28).o
  obtain ⟨X0_28, X1_28, -, -, X4_28⟩ := (unhide X_28).o
  obtain ⟨Y0_28, Y1_28, -, -, Y4_28⟩ := (unhide Y_28).o
  obtain ⟨Z0_28, Z1_28, -, -, Z4_28⟩ := (unhide Z_28).o
  obtain ⟨O0_28, O1_28, -, -, O4_28⟩ := (unhide O_28).o
  clear k28
  go_wp2
  go_ret
  exact ⟨rfl, unhide K28⟩

end Go.Proofs.Ytehlkbgjaegpjaa
