
/- The document's own case, as the laws of tensors ask for it first. -/
import Derived.Test.YtehlkbgjaegpjaaTenK
namespace Go.Proofs.Ytehlkbgjaegpjaa
open Go.RowKit

theorem aw3a : atN [2] (List.replicate 2 4607182418800017408) [1] = 4607182418800017408 := by decide +kernel
theorem aw3b : atB [2] (List.replicate 2 4607182418800017408) [1] = true := by decide +kernel
theorem aw3c : mayT [2] (List.replicate 2 4607182418800017408) = true := by decide +kernel
theorem aw3d : finT [2] (List.replicate 2 4607182418800017408) = true := by decide +kernel
theorem aw3e : sameT [2] (List.replicate 2 4607182418800017408) [2] (List.replicate 2 4607182418800017408) = true := by decide +kernel

set_option maxHeartbeats 1000000 in
theorem awake3_any (w : World) : Calls Try.prog 8 #[] w fun e w' => e = .returned (.bool true) ∧ Kp w w' := by
  have hq1 : (FloatKind.f64.format.order 4607182418800017408 4607182418800017408 == some Ordering.eq) = true := by decide +kernel
  go_enter Try.func8, Try.ntmps8
  go_wp2_with fail
  have L_1 := hide (lit_ints w 3 [2] #[.int .i64 2] (w.heap.size) 1 rfl rfl rfl (by unfold I64; decide) (by decide))
  have q1 := Kp.alloc w (.cells #[.int .i64 2] 3)
  generalize (w.alloc (.cells #[.int .i64 2] 3)) = w1 at *
  have K1 := hide q1
  clear q1
  generalize w.heap.size = B_L at *
  refine (new_yes _ [2] 4607182418800017408 w1 (unhide L_1) (by unfold W64; decide) (by decide +kernel)).mono ?_
  rintro e w2 ⟨a1, n1, c1, G, n, rfl, hn, o1, hG, og, k2⟩
  have K2 := hide ((unhide K1).trans k2)
  have L_2 := hide ((unhide L_1).keep k2)
  clear K1 L_1
  clear k2
  obtain rfl : n = 2 := by have : prodL [2] = 2 := rfl; omega
  have S_2 := hide (o1.ints (by unfold I64; decide) (by decide))
  have D_2 := hide (og.flts (by unfold W64; decide) (by decide))
  clear hn o1 hG og
  clear L_2
  go_wp2_with fail
  have T_3 := hide ((Bx.madeAt w2 (.slice a1 n1 c1) (.slice (some ⟨G, 0, none⟩) 2 2) (w2.heap.size) rfl).keep (Kp.alloc (w2.alloc (.cells #[(.slice a1 n1 c1), (.slice (some ⟨G, 0, none⟩) 2 2)] 27)) (.cells #[.int .i64 1] 3)))
  have A_3 := hide (lit_ints (w2.alloc (.cells #[(.slice a1 n1 c1), (.slice (some ⟨G, 0, none⟩) 2 2)] 27)) 3 [1] #[.int .i64 1] (w2.heap.size + 1) 1 rfl (by simp) rfl (by unfold I64; decide) (by decide))
  have q3 := (Kp.alloc w2 (.cells #[(.slice a1 n1 c1), (.slice (some ⟨G, 0, none⟩) 2 2)] 27)).trans (Kp.alloc (w2.alloc (.cells #[(.slice a1 n1 c1), (.slice (some ⟨G, 0, none⟩) 2 2)] 27)) (.cells #[.int .i64 1] 3))
  generalize ((w2.alloc (.cells #[(.slice a1 n1 c1), (.slice (some ⟨G, 0, none⟩) 2 2)] 27)).alloc (.cells #[.int .i64 1] 3)) = w3 at *
  have K3 := hide ((unhide K2).trans q3)
  have S_3 := hide ((unhide S_2).keep q3)
  have D_3 := hide ((unhide D_2).keep q3)
  clear K2 S_2 D_2
  clear q3
  generalize w2.heap.size + 1 = B_A at *
  generalize w2.heap.size = B_T at *
  obtain ⟨T0_3, T1_3, -, -, T4_3⟩ := (unhide T_3).o
  refine (at_any _ _ _ [2] (List.replicate 2 4607182418800017408) [1] w3 (unhide S_3) (unhide D_3) (unhide A_3)).mono ?_
  rw [aw3a, aw3b]
  rintro e w4 ⟨rfl, k4⟩
  have K4 := hide ((unhide K3).trans k4)
  have S_4 := hide ((unhide S_3).keep k4)
  have D_4 := hide ((unhide D_3).keep k4)
  have A_4 := hide ((unhide A_3).keep k4)
  have T_4 := hide ((unhide T_3).keep k4)
  clear K3 S_3 D_3 A_3 T_3 T0_3 T1_3 T4_3
  obtain ⟨T0_4, T1_4, -, -, T4_4⟩ := (unhide T_4).o
  clear k4
  clear A_4
  go_wp2_with fail
  refine (mayT_any _ _ [2] (List.replicate 2 4607182418800017408) w4 (unhide S_4) (unhide D_4)).mono ?_
  rw [aw3c]
  rintro e w5 ⟨rfl, k5⟩
  have K5 := hide ((unhide K4).trans k5)
  have S_5 := hide ((unhide S_4).keep k5)
  have D_5 := hide ((unhide D_4).keep k5)
  have T_5 := hide ((unhide T_4).keep k5)
  clear K4 S_4 D_4 T_4 T0_4 T1_4 T4_4
  obtain ⟨T0_5, T1_5, -, -, T4_5⟩ := (unhide T_5).o
  clear k5
  go_wp2_with fail
  refine (finT_any _ _ [2] (List.replicate 2 4607182418800017408) w5 (unhide S_5) (unhide D_5)).mono ?_
  rw [aw3d]
  rintro e w6 ⟨rfl, k6⟩
  have K6 := hide ((unhide K5).trans k6)
  have S_6 := hide ((unhide S_5).keep k6)
  have D_6 := hide ((unhide D_5).keep k6)
  have T_6 := hide ((unhide T_5).keep k6)
  clear K5 S_5 D_5 T_5 T0_5 T1_5 T4_5
  obtain ⟨T0_6, T1_6, -, -, T4_6⟩ := (unhide T_6).o
  clear k6
  go_wp2_with fail
  refine (sameT_any _ _ _ _ [2] (List.replicate 2 4607182418800017408) [2] (List.replicate 2 4607182418800017408) w6 (unhide S_6) (unhide D_6) (unhide S_6) (unhide D_6)).mono ?_
  rw [aw3e]
  rintro e w7 ⟨rfl, k7⟩
  have K7 := hide ((unhide K6).trans k7)
  have S_7 := hide ((unhide S_6).keep k7)
  have D_7 := hide ((unhide D_6).keep k7)
  have T_7 := hide ((unhide T_6).keep k7)
  clear K6 S_6 D_6 T_6 T0_6 T1_6 T4_6
  obtain ⟨T0_7, T1_7, -, -, T4_7⟩ := (unhide T_7).o
  clear k7
  go_wp2
  go_ret
  exact ⟨rfl, unhide K7⟩

end Go.Proofs.Ytehlkbgjaegpjaa
