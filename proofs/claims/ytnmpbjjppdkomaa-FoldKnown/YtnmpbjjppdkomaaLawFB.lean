
/- The law FoldKnown, walked. -/
import Derived.Test.YtnmpbjjppdkomaaLawFA
namespace Go.Proofs.Ytnmpbjjppdkomaa
open Go.RowKit

set_option maxHeartbeats 400000 in
theorem of8_any (p : Option Addr) (q r : Nat) (w : World) (hq : q ≤ 1000) :
    Calls Try.prog 17 #[.slice p q r] w fun e w' => ∃ L, e = .returned (.agg #[.slice (some ⟨L, 0, none⟩) 1 1, .slice p q r]) ∧ Ints w' (.slice (some ⟨L, 0, none⟩) 1 1) [(q : Int)] ∧ Kp w w' := by
  go_enter Try.func17, Try.ntmps17
  go_upto_region 1 with fail
  obtain ⟨W, hW, x2, k0⟩ := box_in w (.slice none 0 0) (.slice none 0 0)
  rw [← hW]
  clear hW
  generalize hR : w.heap.size = R at x2 ⊢
  have hRS : w.heap.size ≤ R := by omega
  have hl := lit_ints W 3 [(q : Int)] #[.int .i64 (q : Int)] W.heap.size 1 rfl rfl rfl (by intro x hx; rw [List.mem_singleton.1 hx]; unfold I64; omega) (by decide)
  have ka := Kp.alloc W (.cells #[.int .i64 (q : Int)] 3)
  have xa := x2.keep ka
  have x3 := xa.set (.slice (some ⟨W.heap.size, 0, none⟩) 1 1) (.slice p q r)
  have ALL := xa.all
  have kx : Kx R (W.alloc (.cells #[.int .i64 (q : Int)] 3)) (((W.alloc (.cells #[.int .i64 (q : Int)] 3)).setCell ⟨R, 0, none⟩ (.slice (some ⟨W.heap.size, 0, none⟩) 1 1)).setCell ⟨R, 1, none⟩ (.slice p q r)) := ((Kx.refl R _).set _ _).set _ _
  have HI := hide (hl.keepS ALL kx)
  have KF := hide (((k0.trans ka).set hRS (i := 0) (.slice (some ⟨W.heap.size, 0, none⟩) 1 1)).set hRS (i := 1) (.slice p q r))
  obtain ⟨z0, z1, -, -, -⟩ := x3.o
  obtain ⟨d0, d1, d2, d3, -⟩ := x2.o
  obtain ⟨e0, e1, e2, e3, -⟩ := xa.o
  clear x2 x3 xa kx ALL hl ka k0 hR
  go_wp2
  generalize (((W.alloc (.cells #[.int .i64 (q : Int)] 3)).setCell ⟨R, 0, none⟩ (.slice (some ⟨W.heap.size, 0, none⟩) 1 1)).setCell ⟨R, 1, none⟩ (.slice p q r)) = w9 at *
  refine bodyPost_ret (v := .agg #[.slice (some ⟨W.heap.size, 0, none⟩) 1 1, .slice p q r]) (by simp [results, Try.results17, go_sem, z0, z1]) rfl ⟨_, rfl, unhide HI, unhide KF⟩

set_option maxRecDepth 20000 in
set_option maxHeartbeats 8000000 in
theorem known8_walk (w : World) : Calls Try.prog 5 #[] w fun e w' => e = .returned (.bool true) ∧ Kp w w' := by
  go_enter Try.func5, Try.ntmps5
  go_wp2_with fail
  refine (awake8_any w).mono ?_
  rintro e w1 ⟨rfl, k1⟩
  have K1 := hide k1
  clear k1
  go_wp2_with fail
  have P_2 := hide (lit_ints w1 3 [2] #[.int .i64 2] (w1.heap.size) 1 rfl rfl rfl (by unfold I64; decide) (by decide))
  have q2 := Kp.alloc w1 (.cells #[.int .i64 2] 3)
  generalize (w1.alloc (.cells #[.int .i64 2] 3)) = w2 at *
  have K2 := hide ((unhide K1).trans q2)
  clear K1
  clear q2
  generalize w1.heap.size = B_P at *
  refine (fnew_yes _ [2] 0 w2 (unhide P_2) (by decide +kernel) (by decide)).mono ?_
  rintro e w3 ⟨B1, C1, rfl, s1, -, -, k3⟩
  have K3 := hide ((unhide K2).trans k3)
  have P_3 := hide ((unhide P_2).keep k3)
  clear K2 P_2
  clear k3
  have S_3 : Hid (Slots w3 B1 C1 0 [2] []) := s1
  clear s1
  clear P_3
  go_wp2_with fail
  have P_4 := hide (lit_ints w3 3 [2] #[.int .i64 2] (w3.heap.size) 1 rfl rfl rfl (by unfold I64; decide) (by decide))
  have q4 := Kp.alloc w3 (.cells #[.int .i64 2] 3)
  generalize (w3.alloc (.cells #[.int .i64 2] 3)) = w4 at *
  have K4 := hide ((unhide K3).trans q4)
  have S_4 := hide ((unhide S_3).keep q4)
  clear K3 S_3
  clear q4
  generalize w3.heap.size = B_P at *
  have KN := K4
  have SLT := And.intro (unhide S_4).ltB (unhide S_4).ltC
  refine (fnew_yes _ [2] 1 w4 (unhide P_4) (by decide +kernel) (by decide)).mono ?_
  rintro e w5 ⟨B2, C2, rfl, s2, hC2, hB2, k5⟩
  have K5 := hide ((unhide K4).trans k5)
  have S_5 := hide ((unhide S_4).keep k5)
  have P_5 := hide ((unhide P_4).keep k5)
  clear K4 S_4 P_4
  clear k5
  have HW2 : Hid (w.heap.size ≤ C2) := Nat.le_trans (unhide KN).size hC2
  have NE1 : Hid (¬ B1 = C2) := by unfold Hid; have := SLT.1; omega
  have NE2 : Hid (¬ C1 = C2) := by unfold Hid; have := SLT.2; omega
  clear hC2 hB2 SLT KN
  have G_5 : Hid (Slots w5 B2 C2 1 [2] [tnil]) := s2
  clear s2
  clear P_5
  go_wp2_with fail
  have P_6 := hide (lit_ints w5 3 [0] #[.int .i64 0] (w5.heap.size) 1 rfl rfl rfl (by unfold I64; decide) (by decide))
  have q6 := Kp.alloc w5 (.cells #[.int .i64 0] 3)
  generalize (w5.alloc (.cells #[.int .i64 0] 3)) = w6 at *
  have K6 := hide ((unhide K5).trans q6)
  have S_6 := hide ((unhide S_5).keep q6)
  have G_6 := hide ((unhide G_5).keep q6)
  clear K5 S_5 G_5
  clear q6
  generalize w5.heap.size = B_P at *
  refine (fnew_no _ [0] 1 w6 (unhide P_6) (by decide +kernel)).mono ?_
  rw [show szE [0] = 2 by decide +kernel]
  rintro e w7 ⟨rfl, k7⟩
  have K7 := hide ((unhide K6).trans k7)
  have S_7 := hide ((unhide S_6).keep k7)
  have G_7 := hide ((unhide G_6).keep k7)
  have P_7 := hide ((unhide P_6).keep k7)
  clear K6 S_6 G_6 P_6
  clear k7
  clear P_7
  go_wp2_with fail
  have P_8 := hide (lit_ints w7 3 [2] #[.int .i64 2] (w7.heap.size) 1 rfl rfl rfl (by unfold I64; decide) (by decide))
  have q8 := Kp.alloc w7 (.cells #[.int .i64 2] 3)
  generalize (w7.alloc (.cells #[.int .i64 2] 3)) = w8 at *
  have K8 := hide ((unhide K7).trans q8)
  have S_8 := hide ((unhide S_7).keep q8)
  have G_8 := hide ((unhide G_7).keep q8)
  clear K7 S_7 G_7
  clear q8
  generalize w7.heap.size = B_P at *
  refine (fnew_low _ [2] (-1) w8 (unhide P_8) (by decide +kernel) (by decide)).mono ?_
  rintro e w9 ⟨rfl, k9⟩
  have K9 := hide ((unhide K8).trans k9)
  have S_9 := hide ((unhide S_8).keep k9)
  have G_9 := hide ((unhide G_8).keep k9)
  have P_9 := hide ((unhide P_8).keep k9)
  clear K8 S_8 G_8 P_8
  clear k9
  clear P_9
  go_wp2_with fail
  have P_10 := hide (lit_ints w9 3 [2] #[.int .i64 2] (w9.heap.size) 1 rfl rfl rfl (by unfold I64; decide) (by decide))
  have q10 := Kp.alloc w9 (.cells #[.int .i64 2] 3)
  generalize (w9.alloc (.cells #[.int .i64 2] 3)) = w10 at *
  have K10 := hide ((unhide K9).trans q10)
  have S_10 := hide ((unhide S_9).keep q10)
  have G_10 := hide ((unhide G_9).keep q10)
  clear K9 S_9 G_9
  clear q10
  generalize w9.heap.size = B_P at *
  refine (fnew_high _ [2] 1025 w10 (unhide P_10) (by decide +kernel) (by decide)).mono ?_
  rintro e w11 ⟨rfl, k11⟩
  have K11 := hide ((unhide K10).trans k11)
  have S_11 := hide ((unhide S_10).keep k11)
  have G_11 := hide ((unhide G_10).keep k11)
  have P_11 := hide ((unhide P_10).keep k11)
  clear K10 S_10 G_10 P_10
  clear k11
  clear P_11
  go_wp2_with fail
  refine (value_none B1 C1 [2] [] w11 (unhide S_11)).mono ?_
  rintro e w12 ⟨n, hn, ⟨a1, c1, a2, c2, rfl, i1, f1, -, -⟩, k12⟩
  have K12 := hide ((unhide K11).trans k12)
  have S_12 := hide ((unhide S_11).keep k12)
  have G_12 := hide ((unhide G_11).keep k12)
  clear K11 S_11 G_11
  clear k12
  obtain rfl : n = 2 := by rw [show prodL [2] = 2 by decide +kernel] at hn; omega
  clear hn
  have IA_12 : Hid (Ints w12 (.slice a1 1 c1) [2]) := i1
  clear i1
  have FA_12 : Hid (Flts w12 (.slice a2 2 c2) [0, 0]) := f1
  clear f1
  have GLT : Hid (C2 < w12.heap.size) := (unhide G_12).ltC
  go_wp2_with fail
  have A_13 := hide ((Bx.madeAt w12 (.slice a1 1 c1) (.slice a2 2 c2) (w12.heap.size) rfl).keep (Kp.alloc (w12.alloc (.cells #[(.slice a1 1 c1), (.slice a2 2 c2)] 28)) (.cells #[.float .f64 4607182418800017408, .float .f64 4611686018427387904] 44)))
  have U_13 := hide (lit_flts (w12.alloc (.cells #[(.slice a1 1 c1), (.slice a2 2 c2)] 28)) 44 [4607182418800017408, 4611686018427387904] #[.float .f64 4607182418800017408, .float .f64 4611686018427387904] (w12.heap.size + 1) 2 rfl (by simp) rfl (by unfold W64; decide) (by decide))
  have q13 := (Kp.alloc w12 (.cells #[(.slice a1 1 c1), (.slice a2 2 c2)] 28)).trans (Kp.alloc (w12.alloc (.cells #[(.slice a1 1 c1), (.slice a2 2 c2)] 28)) (.cells #[.float .f64 4607182418800017408, .float .f64 4611686018427387904] 44))
  generalize ((w12.alloc (.cells #[(.slice a1 1 c1), (.slice a2 2 c2)] 28)).alloc (.cells #[.float .f64 4607182418800017408, .float .f64 4611686018427387904] 44)) = w13 at *
  have K13 := hide ((unhide K12).trans q13)
  have S_13 := hide ((unhide S_12).keep q13)
  have G_13 := hide ((unhide G_12).keep q13)
  have IA_13 := hide ((unhide IA_12).keep q13)
  have FA_13 := hide ((unhide FA_12).keep q13)
  clear K12 S_12 G_12 IA_12 FA_12
  clear q13
  generalize w12.heap.size + 1 = B_U at *
  generalize w12.heap.size = B_A at *
  obtain ⟨A0_13, A1_13, -, -, A4_13⟩ := (unhide A_13).o
  have NEA : Hid (¬ B_A = C2) := by unfold Hid; have h1 := (unhide GLT); omega
  refine (of8_any _ 2 _ w13 (by decide)).mono ?_
  rintro e w14 ⟨L, rfl, hi, k14⟩
  have K14 := hide ((unhide K13).trans k14)
  have S_14 := hide ((unhide S_13).keep k14)
  have G_14 := hide ((unhide G_13).keep k14)
  have IA_14 := hide ((unhide IA_13).keep k14)
  have FA_14 := hide ((unhide FA_13).keep k14)
  have U_14 := hide ((unhide U_13).keep k14)
  have A_14 := hide ((unhide A_13).keep k14)
  clear K13 S_13 G_13 IA_13 FA_13 U_13 A_13 A0_13 A1_13 A4_13
  obtain ⟨A0_14, A1_14, -, -, A4_14⟩ := (unhide A_14).o
  clear k14
  have V_14 : Hid (Ints w14 (.slice (some ⟨L, 0, none⟩) 1 1) [2]) := hi
  clear hi
  go_wp2_with fail
  refine (put_high B2 C2 1 [2] [tnil] 1 ⟨[2], [4607182418800017408, 4611686018427387904]⟩ _ _ w14 (unhide G_14) (unhide V_14) (unhide U_14) (by decide)).mono ?_
  rintro e w15 ⟨rfl, k15⟩
  have K15 := hide ((unhide K14).trans k15)
  have S_15 := hide ((unhide S_14).keep k15)
  have G_15 := hide ((unhide G_14).keep k15)
  have IA_15 := hide ((unhide IA_14).keep k15)
  have FA_15 := hide ((unhide FA_14).keep k15)
  have U_15 := hide ((unhide U_14).keep k15)
  have V_15 := hide ((unhide V_14).keep k15)
  have A_15 := hide ((unhide A_14).keep k15)
  clear K14 S_14 G_14 IA_14 FA_14 U_14 V_14 A_14 A0_14 A1_14 A4_14
  obtain ⟨A0_15, A1_15, -, -, A4_15⟩ := (unhide A_15).o
  clear k15
  clear V_15
  clear U_15
  go_wp2_with fail
  have U_16 := hide (lit_flts w15 44 [4607182418800017408] #[.float .f64 4607182418800017408] (w15.heap.size) 1 rfl rfl rfl (by unfold W64; decide) (by decide))
  have q16 := Kp.alloc w15 (.cells #[.float .f64 4607182418800017408] 44)
  generalize (w15.alloc (.cells #[.float .f64 4607182418800017408] 44)) = w16 at *
  have K16 := hide ((unhide K15).trans q16)
  have S_16 := hide ((unhide S_15).keep q16)
  have G_16 := hide ((unhide G_15).keep q16)
  have IA_16 := hide ((unhide IA_15).keep q16)
  have FA_16 := hide ((unhide FA_15).keep q16)
  have A_16 := hide ((unhide A_15).keep q16)
  clear K15 S_15 G_15 IA_15 FA_15 A_15 A0_15 A1_15 A4_15
  obtain ⟨A0_16, A1_16, -, -, A4_16⟩ := (unhide A_16).o
  clear q16
  generalize w15.heap.size = B_U at *
  refine (of8_any _ 1 _ w16 (by decide)).mono ?_
  rintro e w17 ⟨L, rfl, hi, k17⟩
  have K17 := hide ((unhide K16).trans k17)
  have S_17 := hide ((unhide S_16).keep k17)
  have G_17 := hide ((unhide G_16).keep k17)
  have IA_17 := hide ((unhide IA_16).keep k17)
  have FA_17 := hide ((unhide FA_16).keep k17)
  have U_17 := hide ((unhide U_16).keep k17)
  have A_17 := hide ((unhide A_16).keep k17)
  clear K16 S_16 G_16 IA_16 FA_16 U_16 A_16 A0_16 A1_16 A4_16
  obtain ⟨A0_17, A1_17, -, -, A4_17⟩ := (unhide A_17).o
  clear k17
  have V_17 : Hid (Ints w17 (.slice (some ⟨L, 0, none⟩) 1 1) [1]) := hi
  clear hi
  go_wp2_with fail
  refine (put_shape B2 C2 1 [2] [tnil] 0 ⟨[1], [4607182418800017408]⟩ _ _ w17 (unhide G_17) (unhide V_17) (unhide U_17) (by decide) rfl (by decide +kernel)).mono ?_
  rintro e w18 ⟨rfl, k18⟩
  have K18 := hide ((unhide K17).trans k18)
  have S_18 := hide ((unhide S_17).keep k18)
  have G_18 := hide ((unhide G_17).keep k18)
  have IA_18 := hide ((unhide IA_17).keep k18)
  have FA_18 := hide ((unhide FA_17).keep k18)
  have U_18 := hide ((unhide U_17).keep k18)
  have V_18 := hide ((unhide V_17).keep k18)
  have A_18 := hide ((unhide A_17).keep k18)
  clear K17 S_17 G_17 IA_17 FA_17 U_17 V_17 A_17 A0_17 A1_17 A4_17
  obtain ⟨A0_18, A1_18, -, -, A4_18⟩ := (unhide A_18).o
  clear k18
  clear V_18
  clear U_18
  go_wp2_with fail
  have U_19 := hide (lit_flts w18 44 [4607182418800017408, 4611686018427387904] #[.float .f64 4607182418800017408, .float .f64 4611686018427387904] (w18.heap.size) 2 rfl rfl rfl (by unfold W64; decide) (by decide))
  have q19 := Kp.alloc w18 (.cells #[.float .f64 4607182418800017408, .float .f64 4611686018427387904] 44)
  generalize (w18.alloc (.cells #[.float .f64 4607182418800017408, .float .f64 4611686018427387904] 44)) = w19 at *
  have K19 := hide ((unhide K18).trans q19)
  have S_19 := hide ((unhide S_18).keep q19)
  have G_19 := hide ((unhide G_18).keep q19)
  have IA_19 := hide ((unhide IA_18).keep q19)
  have FA_19 := hide ((unhide FA_18).keep q19)
  have A_19 := hide ((unhide A_18).keep q19)
  clear K18 S_18 G_18 IA_18 FA_18 A_18 A0_18 A1_18 A4_18
  obtain ⟨A0_19, A1_19, -, -, A4_19⟩ := (unhide A_19).o
  clear q19
  generalize w18.heap.size = B_U at *
  refine (of8_any _ 2 _ w19 (by decide)).mono ?_
  rintro e w20 ⟨L, rfl, hi, k20⟩
  have K20 := hide ((unhide K19).trans k20)
  have S_20 := hide ((unhide S_19).keep k20)
  have G_20 := hide ((unhide G_19).keep k20)
  have IA_20 := hide ((unhide IA_19).keep k20)
  have FA_20 := hide ((unhide FA_19).keep k20)
  have U_20 := hide ((unhide U_19).keep k20)
  have A_20 := hide ((unhide A_19).keep k20)
  clear K19 S_19 G_19 IA_19 FA_19 U_19 A_19 A0_19 A1_19 A4_19
  obtain ⟨A0_20, A1_20, -, -, A4_20⟩ := (unhide A_20).o
  clear k20
  have V_20 : Hid (Ints w20 (.slice (some ⟨L, 0, none⟩) 1 1) [2]) := hi
  clear hi
  go_wp2_with fail
  refine (put_yes B2 C2 1 [2] [tnil] 0 ⟨[2], [4607182418800017408, 4611686018427387904]⟩ _ _ w20 (unhide G_20) (unhide V_20) (unhide U_20) (by decide) rfl (by decide +kernel)).mono ?_
  rintro e w21 ⟨rfl, g, kx⟩
  have ALL := (unhide G_20).all
  have G_21 : Hid (Slots w21 B2 C2 1 [2] [⟨[2], [4607182418800017408, 4611686018427387904]⟩]) := g
  have S_21 := hide ((unhide S_20).keepS ALL (unhide NE1) (unhide NE2) kx)
  have IA_21 := hide ((unhide IA_20).keepS ALL kx)
  have FA_21 := hide ((unhide FA_20).keepS ALL kx)
  have A_21 := hide ((unhide A_20).keepx kx (unhide NEA))
  have K21 : Hid (Kp w w21) := Kx.after (unhide K20) kx (unhide HW2)
  clear g kx ALL K20 S_20 G_20 IA_20 FA_20 U_20 V_20 A_20 A0_20 A1_20 A4_20
  obtain ⟨A0_21, A1_21, -, -, A4_21⟩ := (unhide A_21).o
  go_wp2_with fail
  have U_22 := hide (lit_flts w21 44 [4607182418800017408] #[.float .f64 4607182418800017408] (w21.heap.size) 1 rfl rfl rfl (by unfold W64; decide) (by decide))
  have q22 := Kp.alloc w21 (.cells #[.float .f64 4607182418800017408] 44)
  generalize (w21.alloc (.cells #[.float .f64 4607182418800017408] 44)) = w22 at *
  have K22 := hide ((unhide K21).trans q22)
  have G_22 := hide ((unhide G_21).keep q22)
  have S_22 := hide ((unhide S_21).keep q22)
  have IA_22 := hide ((unhide IA_21).keep q22)
  have FA_22 := hide ((unhide FA_21).keep q22)
  have A_22 := hide ((unhide A_21).keep q22)
  clear K21 G_21 S_21 IA_21 FA_21 A_21 A0_21 A1_21 A4_21
  obtain ⟨A0_22, A1_22, -, -, A4_22⟩ := (unhide A_22).o
  clear q22
  generalize w21.heap.size = B_U at *
  refine (of8_any _ 1 _ w22 (by decide)).mono ?_
  rintro e w23 ⟨L, rfl, hi, k23⟩
  have K23 := hide ((unhide K22).trans k23)
  have G_23 := hide ((unhide G_22).keep k23)
  have S_23 := hide ((unhide S_22).keep k23)
  have IA_23 := hide ((unhide IA_22).keep k23)
  have FA_23 := hide ((unhide FA_22).keep k23)
  have U_23 := hide ((unhide U_22).keep k23)
  have A_23 := hide ((unhide A_22).keep k23)
  clear K22 G_22 S_22 IA_22 FA_22 U_22 A_22 A0_22 A1_22 A4_22
  obtain ⟨A0_23, A1_23, -, -, A4_23⟩ := (unhide A_23).o
  clear k23
  have V_23 : Hid (Ints w23 (.slice (some ⟨L, 0, none⟩) 1 1) [1]) := hi
  clear hi
  go_wp2_with fail
  refine (put_full B2 C2 1 [2] [⟨[2], [4607182418800017408, 4611686018427387904]⟩] 0 ⟨[1], [4607182418800017408]⟩ _ _ w23 (unhide G_23) (unhide V_23) (unhide U_23) (by decide) (by decide)).mono ?_
  rintro e w24 ⟨rfl, k24⟩
  have K24 := hide ((unhide K23).trans k24)
  have G_24 := hide ((unhide G_23).keep k24)
  have S_24 := hide ((unhide S_23).keep k24)
  have IA_24 := hide ((unhide IA_23).keep k24)
  have FA_24 := hide ((unhide FA_23).keep k24)
  have U_24 := hide ((unhide U_23).keep k24)
  have V_24 := hide ((unhide V_23).keep k24)
  have A_24 := hide ((unhide A_23).keep k24)
  clear K23 G_23 S_23 IA_23 FA_23 U_23 V_23 A_23 A0_23 A1_23 A4_23
  obtain ⟨A0_24, A1_24, -, -, A4_24⟩ := (unhide A_24).o
  clear k24
  clear V_24
  clear U_24
  go_wp2_with fail
  refine (value_all B2 C2 1 [2] [⟨[2], [4607182418800017408, 4611686018427387904]⟩] w24 (unhide G_24) (by decide) (by decide)).mono ?_
  rw [show trS [⟨[2], [4607182418800017408, 4611686018427387904]⟩] = [2] by decide +kernel, show trE [⟨[2], [4607182418800017408, 4611686018427387904]⟩] = 0 by decide +kernel, show trD [⟨[2], [4607182418800017408, 4611686018427387904]⟩] = [4607182418800017408, 4611686018427387904] by decide +kernel]
  rintro e w25 ⟨ds, ⟨a3, c3, a4, c4, rfl, i1, f1, -, -⟩, hc, k25⟩
  have K25 := hide ((unhide K24).trans k25)
  have G_25 := hide ((unhide G_24).keep k25)
  have S_25 := hide ((unhide S_24).keep k25)
  have IA_25 := hide ((unhide IA_24).keep k25)
  have FA_25 := hide ((unhide FA_24).keep k25)
  have A_25 := hide ((unhide A_24).keep k25)
  clear K24 G_24 S_24 IA_24 FA_24 A_24 A0_24 A1_24 A4_24
  obtain ⟨A0_25, A1_25, -, -, A4_25⟩ := (unhide A_25).o
  clear k25
  obtain rfl := list_num8 hc (by decide +kernel)
  clear hc
  have IX_25 : Hid (Ints w25 (.slice a3 1 c3) [2]) := i1
  clear i1
  have FX_25 : Hid (Flts w25 (.slice a4 2 c4) [4607182418800017408, 4611686018427387904]) := f1
  clear f1
  go_upto_region 17 with fail
  have X_26 := hide (Bx.madeAt w25 (.slice a3 1 c3) (.slice a4 2 c4) (w25.heap.size) rfl)
  have q26 := Kp.alloc w25 (.cells #[(.slice a3 1 c3), (.slice a4 2 c4)] 28)
  generalize (w25.alloc (.cells #[(.slice a3 1 c3), (.slice a4 2 c4)] 28)) = w26 at *
  have K26 := hide ((unhide K25).trans q26)
  have G_26 := hide ((unhide G_25).keep q26)
  have S_26 := hide ((unhide S_25).keep q26)
  have IA_26 := hide ((unhide IA_25).keep q26)
  have FA_26 := hide ((unhide FA_25).keep q26)
  have IX_26 := hide ((unhide IX_25).keep q26)
  have FX_26 := hide ((unhide FX_25).keep q26)
  have A_26 := hide ((unhide A_25).keep q26)
  clear K25 G_25 S_25 IA_25 FA_25 IX_25 FX_25 A_25 A0_25 A1_25 A4_25
  obtain ⟨A0_26, A1_26, -, -, A4_26⟩ := (unhide A_26).o
  clear q26
  generalize w25.heap.size = B_X at *
  obtain ⟨X0_26, X1_26, -, -, X4_26⟩ := (unhide X_26).o
  have LF1 : Hid (∀ w0 : World, Flts (w0.alloc (.cells #[.float .f64 0, .float .f64 0] 44)) (.slice (some ⟨w0.heap.size, 0, none⟩) 2 2) [0, 0]) := fun w0 => lit_flts w0 44 [0, 0] #[.float .f64 0, .float .f64 0] w0.heap.size 2 rfl rfl rfl (by unfold W64; decide) (by decide)
  have LF2 : Hid (∀ w0 : World, Flts (w0.alloc (.cells #[.float .f64 4607182418800017408, .float .f64 4611686018427387904] 44)) (.slice (some ⟨w0.heap.size, 0, none⟩) 2 2) [4607182418800017408, 4611686018427387904]) := fun w0 => lit_flts w0 44 [4607182418800017408, 4611686018427387904] #[.float .f64 4607182418800017408, .float .f64 4611686018427387904] w0.heap.size 2 rfl rfl rfl (by unfold W64; decide) (by decide)
  have CO := hide (fun w0 (k : Kp w26 w0) p r => (of8_any p 2 r w0 (by decide)).mono (R' := fun ee w' => ∃ L, ee = .returned (.agg #[.slice (some ⟨L, 0, none⟩) 1 1, .slice p 2 r]) ∧ Hid (Ints w' (.slice (some ⟨L, 0, none⟩) 1 1) [2]) ∧ Hid (Kp w0 w') ∧ Hid (Kp w26 w') ∧ BxO w' B_A (.slice a1 1 c1) (.slice a2 2 c2) ∧ BxO w' B_X (.slice a3 1 c3) (.slice a4 2 c4)) (by
    rintro ee w' ⟨L, rfl, hi, k'⟩
    exact ⟨L, rfl, hi, k', k.trans k', ((unhide A_26).keep (k.trans k')).o, ((unhide X_26).keep (k.trans k')).o⟩))
  have D1 := hide (fun w0 (k : Kp w26 w0) v u (hi : Ints w0 v [2]) (hf : Flts w0 u [0, 0]) => (rsameT_any (.slice a1 1 c1) (.slice a2 2 c2) v u [2] [0, 0] [2] [0, 0] w0 ((unhide IA_26).keep k) ((unhide FA_26).keep k) hi hf).mono (R' := fun ee w' => ee = .returned (.bool true) ∧ Hid (Kp w26 w') ∧ BxO w' B_A (.slice a1 1 c1) (.slice a2 2 c2) ∧ BxO w' B_X (.slice a3 1 c3) (.slice a4 2 c4)) (by
    rintro ee w' ⟨rfl, k'⟩
    exact ⟨by rw [sameT_cn8 rfl], k.trans k', ((unhide A_26).keep (k.trans k')).o, ((unhide X_26).keep (k.trans k')).o⟩))
  have D2 := hide (fun w0 (k : Kp w26 w0) v u (hi : Ints w0 v [2]) (hf : Flts w0 u [4607182418800017408, 4611686018427387904]) => (rsameT_any (.slice a3 1 c3) (.slice a4 2 c4) v u [2] [4607182418800017408, 4611686018427387904] [2] [4607182418800017408, 4611686018427387904] w0 ((unhide IX_26).keep k) ((unhide FX_26).keep k) hi hf).mono (R' := fun ee w' => ee = .returned (.bool true) ∧ Hid (Kp w26 w') ∧ BxO w' B_A (.slice a1 1 c1) (.slice a2 2 c2) ∧ BxO w' B_X (.slice a3 1 c3) (.slice a4 2 c4)) (by
    rintro ee w' ⟨rfl, k'⟩
    exact ⟨by rw [sameT_cn8 rfl], k.trans k', ((unhide A_26).keep (k.trans k')).o, ((unhide X_26).keep (k.trans k')).o⟩))
  have C5 := hide (fun w0 (k : Kp w26 w0) => (left_any B1 C1 0 [2] [] w0 ((unhide S_26).keep k)).mono (R' := fun ee w' => ee = .returned (.int .i64 0) ∧ Hid (Kp w26 w') ∧ BxO w' B_A (.slice a1 1 c1) (.slice a2 2 c2) ∧ BxO w' B_X (.slice a3 1 c3) (.slice a4 2 c4)) (by
    rintro ee w' ⟨rfl, k'⟩
    exact ⟨rfl, k.trans k', ((unhide A_26).keep (k.trans k')).o, ((unhide X_26).keep (k.trans k')).o⟩))
  go_region_held3 (fun w' => w'.cell? ⟨B_A, 0, none⟩ = some (.slice a1 1 c1) ∧ w'.cell? ⟨B_A, 1, none⟩ = some (.slice a2 2 c2) ∧ w'.cell? ⟨B_X, 0, none⟩ = some (.slice a3 1 c3) ∧ w'.cell? ⟨B_X, 1, none⟩ = some (.slice a4 2 c4)) (go_keep)
    (first
      | (go_at_call 17; refine ((unhide CO) _ ?_ _ _).mono ?_; (exact (unhide K2').trans (Kp.alloc z2 (.cells #[.float .f64 4607182418800017408, .float .f64 4611686018427387904] 44))); rintro ee z3 ⟨L3, rfl, I3, J3, K3', ⟨x0, x1, -, -, x4⟩, ⟨y0, y1, -, -, y4⟩⟩)
      | (go_at_call 17; refine ((unhide CO) _ ?_ _ _).mono ?_; (exact (Kp.alloc w26 (.cells #[.float .f64 0, .float .f64 0] 44)).trans (Kp.drew _)); rintro ee z1 ⟨L1, rfl, I1, J1, K1', ⟨x0, x1, -, -, x4⟩, ⟨y0, y1, -, -, y4⟩⟩)
      | (go_at_call_of 12 (Value.agg #[Value.slice a1 1 c1, Value.slice a2 2 c2]); refine ((unhide D1) _ (unhide K1') _ _ (unhide I1) (((unhide LF1 w26).keep (Kp.drew _)).keep (unhide J1))).mono ?_; rintro ee z2 ⟨rfl, K2', ⟨x0, x1, -, -, x4⟩, ⟨y0, y1, -, -, y4⟩⟩)
      | (go_at_call_of 12 (Value.agg #[Value.slice a3 1 c3, Value.slice a4 2 c4]); refine ((unhide D2) _ (unhide K3') _ _ (unhide I3) ((unhide LF2 z2).keep (unhide J3))).mono ?_; rintro ee z4 ⟨rfl, K4', ⟨x0, x1, -, -, x4⟩, ⟨y0, y1, -, -, y4⟩⟩)
      | (go_at_call 15; refine ((unhide C5) _ (unhide K4')).mono ?_; rintro ee z5 ⟨rfl, K5', ⟨x0, x1, -, -, x4⟩, ⟨y0, y1, -, -, y4⟩⟩))
  all_goals (
    have KF := hide ((unhide K26).trans (unhide K5'))
    go_wp2
    go_ret
    exact ⟨rfl, unhide KF⟩)

end Go.Proofs.Ytnmpbjjppdkomaa
