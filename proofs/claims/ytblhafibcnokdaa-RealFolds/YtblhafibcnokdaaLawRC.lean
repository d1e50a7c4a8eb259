/- The walk of the law that holds numbers by hand. -/
import Derived.Test.YtblhafibcnokdaaLawRB
namespace Go.Proofs.Ytblhafibcnokdaa
open Go.RowKit

theorem copysign_lit (w : World) : Calls Try.prog 20 #[.float .f64 0, .float .f64 13830554455654793216] w fun e w' => e = .returned (.float .f64 9223372036854775808) ∧ w' = w := by
  have h1 : ∀ w, Sem.run Try.prog (callFunc 25 #[.float .f64 0]) w = .ok (.value (.int .u64 0)) w := fun w => bits_run 0 w
  have h2 : ∀ w, Sem.run Try.prog (callFunc 25 #[.float .f64 13830554455654793216]) w = .ok (.value (.int .u64 13830554455654793216)) w := fun w => bits_run 13830554455654793216 w
  have h3 : ∀ w, Sem.run Try.prog (callFunc 22 #[.int .u64 9223372036854775808]) w = .ok (.value (.float .f64 9223372036854775808)) w := fun w => frombits_run 9223372036854775808 w
  have b1 : bits .andNot .u64 0 9223372036854775808 = 0 := by decide +kernel
  have b2 : bits .and .u64 13830554455654793216 9223372036854775808 = 9223372036854775808 := by decide +kernel
  have b3 : bits .or .u64 0 9223372036854775808 = 9223372036854775808 := by decide +kernel
  go_enter Try.func20, Try.ntmps20
  go_wp2
  go_ret
  exact ⟨rfl, rfl⟩

set_option maxHeartbeats 1000000 in
theorem known_walk (w : World) : Calls Try.prog 5 #[] w fun e w' => e = .returned (.bool true) ∧ Kp w w' := by
  have n1 := fun w => run_neg_any (P := Try.prog) w 9214871658872686752 18438243695727462560 (by decide +kernel)
  have n2 := fun w => run_neg_any (P := Try.prog) w 9218868437227405312 18442240474082181120 (by decide +kernel)
  have q1 : (FloatKind.f64.format.order 0 0 == some Ordering.eq) = true := by decide +kernel
  have q2 : (FloatKind.f64.format.order 4607182418800017408 4607182418800017408 == some Ordering.eq) = true := by decide +kernel
  have h3 : ∀ w, Sem.run Try.prog (callFunc 22 #[.int .u64 18444492273895866659]) w = .ok (.value (.float .f64 18444492273895866659)) w := fun w => frombits_run 18444492273895866659 w
  go_enter Try.func5, Try.ntmps5
  go_wp2_with fail
  refine (awake_any w).mono ?_
  rintro e w1 ⟨rfl, k1⟩
  have K1 := hide k1
  clear k1
  go_wp2_with fail
  refine (kp_of (copysign_lit w1)).mono ?_
  rintro e w2 ⟨rfl, k2⟩
  have K2 := hide ((unhide K1).trans k2)
  clear K1
  clear k2
  go_wp2_with fail
  refine (kp_of (inf_any w2)).mono ?_
  rintro e w3 ⟨rfl, k3⟩
  have K3 := hide ((unhide K2).trans k3)
  clear K2
  clear k3
  go_wp2_with fail
  refine (kp_of (same_any _ _ w3)).mono ?_
  rw [show sameF 0 0 = true from by decide +kernel]
  rintro e w4 ⟨rfl, k4⟩
  have K4 := hide ((unhide K3).trans k4)
  clear K3
  clear k4
  go_wp2_with fail
  refine (kp_of (same_any _ _ w4)).mono ?_
  rw [show sameF 0 9223372036854775808 = false from by decide +kernel]
  rintro e w5 ⟨rfl, k5⟩
  have K5 := hide ((unhide K4).trans k5)
  clear K4
  clear k5
  go_wp2_with fail
  refine (kp_of (bits_any 9223372036854775808 w5)).mono ?_
  rw [show cn 9223372036854775808 = 9223372036854775808 from by decide +kernel]
  rintro e w6 ⟨rfl, k6⟩
  have K6 := hide ((unhide K5).trans k6)
  clear K5
  clear k6
  go_wp2_with fail
  refine (kp_of (bits_any 18444492273895866659 w6)).mono ?_
  rw [show cn 18444492273895866659 = 9221120237041090561 from by decide +kernel]
  rintro e w7 ⟨rfl, k7⟩
  have K7 := hide ((unhide K6).trans k7)
  clear K6
  clear k7
  go_wp2_with fail
  refine (num_of (L := 0) (fold_any _ [] w7 (Flts.nil _) (roomy _ _ _ (by decide) (by decide))) (by decide +kernel) (by decide +kernel)).mono ?_
  rintro e w8 ⟨rfl, k8⟩
  have K8 := hide ((unhide K7).trans k8)
  clear K7
  clear k8
  go_wp2_with fail
  refine (kp_of (same_any _ _ w8)).mono ?_
  rw [show sameF 0 0 = true from by decide +kernel]
  rintro e w9 ⟨rfl, k9⟩
  have K9 := hide ((unhide K8).trans k9)
  clear K8
  clear k9
  go_wp2_with fail
  have L_10 := hide (lit_flts w9 23 [9223372036854775808] #[.float .f64 9223372036854775808] (w9.heap.size) 1 rfl rfl rfl (by unfold W64; decide) (by decide))
  have q10 := Kp.alloc w9 (.cells #[.float .f64 9223372036854775808] 23)
  generalize (w9.alloc (.cells #[.float .f64 9223372036854775808] 23)) = w10 at *
  have K10 := hide ((unhide K9).trans q10)
  clear K9
  clear q10
  refine (num_of (L := 9223372036854775808) (fold_any _ [9223372036854775808] w10 (unhide L_10) (roomy _ _ _ (by decide) (by decide))) (by decide +kernel) (by decide +kernel)).mono ?_
  rintro e w11 ⟨rfl, k11⟩
  have K11 := hide ((unhide K10).trans k11)
  have L_11 := hide ((unhide L_10).keep k11)
  clear K10 L_10
  clear k11
  clear L_11
  go_wp2_with fail
  refine (kp_of (same_any _ _ w11)).mono ?_
  rw [show sameF 9223372036854775808 9223372036854775808 = true from by decide +kernel]
  rintro e w12 ⟨rfl, k12⟩
  have K12 := hide ((unhide K11).trans k12)
  clear K11
  clear k12
  go_wp2_with fail
  have L_13 := hide (lit_flts w12 23 [9223372036854775808] #[.float .f64 9223372036854775808] (w12.heap.size) 1 rfl rfl rfl (by unfold W64; decide) (by decide))
  have q13 := Kp.alloc w12 (.cells #[.float .f64 9223372036854775808] 23)
  generalize (w12.alloc (.cells #[.float .f64 9223372036854775808] 23)) = w13 at *
  have K13 := hide ((unhide K12).trans q13)
  clear K12
  clear q13
  refine (num_of (L := 0) (row_any _ [9223372036854775808] w13 (unhide L_13)) (by decide +kernel) (by decide +kernel)).mono ?_
  rintro e w14 ⟨rfl, k14⟩
  have K14 := hide ((unhide K13).trans k14)
  have L_14 := hide ((unhide L_13).keep k14)
  clear K13 L_13
  clear k14
  clear L_14
  go_wp2_with fail
  refine (kp_of (same_any _ _ w14)).mono ?_
  rw [show sameF 0 0 = true from by decide +kernel]
  rintro e w15 ⟨rfl, k15⟩
  have K15 := hide ((unhide K14).trans k15)
  clear K14
  clear k15
  go_wp2_with fail
  have L_16 := hide (lit_flts w15 23 [9214871658872686752, 9214871658872686752, 18438243695727462560, 18438243695727462560] #[.float .f64 9214871658872686752, .float .f64 9214871658872686752, .float .f64 18438243695727462560, .float .f64 18438243695727462560] (w15.heap.size) 4 rfl rfl rfl (by unfold W64; decide) (by decide))
  have q16 := Kp.alloc w15 (.cells #[.float .f64 9214871658872686752, .float .f64 9214871658872686752, .float .f64 18438243695727462560, .float .f64 18438243695727462560] 23)
  generalize (w15.alloc (.cells #[.float .f64 9214871658872686752, .float .f64 9214871658872686752, .float .f64 18438243695727462560, .float .f64 18438243695727462560] 23)) = w16 at *
  have K16 := hide ((unhide K15).trans q16)
  clear K15
  clear q16
  refine (fold_any _ [9214871658872686752, 9214871658872686752, 18438243695727462560, 18438243695727462560] w16 (unhide L_16) (roomy _ _ _ (by decide) (by decide))).mono ?_
  rintro e w17 ⟨r17, rfl, ⟨c17, -⟩, -, k17⟩
  have K17 := hide ((unhide K16).trans k17)
  have L_17 := hide ((unhide L_16).keep k17)
  clear K16 L_16
  clear k17
  have C17 := hide c17
  clear c17
  clear L_17
  go_wp2_with fail
  refine (kp_of (nan_any w17)).mono ?_
  rintro e w18 ⟨rfl, k18⟩
  have K18 := hide ((unhide K17).trans k18)
  clear K17
  clear k18
  go_wp2_with fail
  refine (kp_of (same_any r17 _ w18)).mono ?_
  rw [same_of (c := 9221120237041090561) ((unhide C17).trans (by decide +kernel)) (by decide +kernel)]
  rintro e w19 ⟨rfl, k19⟩
  have K19 := hide ((unhide K18).trans k19)
  clear K18
  clear k19
  go_wp2_with fail
  have L_20 := hide (lit_flts w19 23 [9214871658872686752, 9214871658872686752, 18438243695727462560, 18438243695727462560] #[.float .f64 9214871658872686752, .float .f64 9214871658872686752, .float .f64 18438243695727462560, .float .f64 18438243695727462560] (w19.heap.size) 4 rfl rfl rfl (by unfold W64; decide) (by decide))
  have q20 := Kp.alloc w19 (.cells #[.float .f64 9214871658872686752, .float .f64 9214871658872686752, .float .f64 18438243695727462560, .float .f64 18438243695727462560] 23)
  generalize (w19.alloc (.cells #[.float .f64 9214871658872686752, .float .f64 9214871658872686752, .float .f64 18438243695727462560, .float .f64 18438243695727462560] 23)) = w20 at *
  have K20 := hide ((unhide K19).trans q20)
  clear K19
  clear q20
  refine (num_of (L := 9218868437227405312) (row_any _ [9214871658872686752, 9214871658872686752, 18438243695727462560, 18438243695727462560] w20 (unhide L_20)) (by decide +kernel) (by decide +kernel)).mono ?_
  rintro e w21 ⟨rfl, k21⟩
  have K21 := hide ((unhide K20).trans k21)
  have L_21 := hide ((unhide L_20).keep k21)
  clear K20 L_20
  clear k21
  clear L_21
  go_wp2_with fail
  refine (kp_of (same_any _ _ w21)).mono ?_
  rw [show sameF 9218868437227405312 9218868437227405312 = true from by decide +kernel]
  rintro e w22 ⟨rfl, k22⟩
  have K22 := hide ((unhide K21).trans k22)
  clear K21
  clear k22
  go_wp2_with fail
  have L_23 := hide (lit_flts w22 23 [4846369599423283200, 4607182418800017408, 14069741636278059008] #[.float .f64 4846369599423283200, .float .f64 4607182418800017408, .float .f64 14069741636278059008] (w22.heap.size) 3 rfl rfl rfl (by unfold W64; decide) (by decide))
  have q23 := Kp.alloc w22 (.cells #[.float .f64 4846369599423283200, .float .f64 4607182418800017408, .float .f64 14069741636278059008] 23)
  generalize (w22.alloc (.cells #[.float .f64 4846369599423283200, .float .f64 4607182418800017408, .float .f64 14069741636278059008] 23)) = w23 at *
  have K23 := hide ((unhide K22).trans q23)
  clear K22
  clear q23
  refine (num_of (L := 0) (fold_any _ [4846369599423283200, 4607182418800017408, 14069741636278059008] w23 (unhide L_23) (roomy _ _ _ (by decide) (by decide))) (by decide +kernel) (by decide +kernel)).mono ?_
  rintro e w24 ⟨rfl, k24⟩
  have K24 := hide ((unhide K23).trans k24)
  have L_24 := hide ((unhide L_23).keep k24)
  clear K23 L_23
  clear k24
  clear L_24
  go_wp2_with fail
  have L_25 := hide (lit_flts w24 23 [4846369599423283200, 14069741636278059008, 4607182418800017408] #[.float .f64 4846369599423283200, .float .f64 14069741636278059008, .float .f64 4607182418800017408] (w24.heap.size) 3 rfl rfl rfl (by unfold W64; decide) (by decide))
  have q25 := Kp.alloc w24 (.cells #[.float .f64 4846369599423283200, .float .f64 14069741636278059008, .float .f64 4607182418800017408] 23)
  generalize (w24.alloc (.cells #[.float .f64 4846369599423283200, .float .f64 14069741636278059008, .float .f64 4607182418800017408] 23)) = w25 at *
  have K25 := hide ((unhide K24).trans q25)
  clear K24
  clear q25
  refine (num_of (L := 4607182418800017408) (fold_any _ [4846369599423283200, 14069741636278059008, 4607182418800017408] w25 (unhide L_25) (roomy _ _ _ (by decide) (by decide))) (by decide +kernel) (by decide +kernel)).mono ?_
  rintro e w26 ⟨rfl, k26⟩
  have K26 := hide ((unhide K25).trans k26)
  have L_26 := hide ((unhide L_25).keep k26)
  clear K25 L_25
  clear k26
  clear L_26
  go_wp2_with fail
  refine (plus_any 9218868437227405312 18442240474082181120 w26).mono ?_
  rintro e w27 ⟨r27, rfl, ⟨c27, -⟩, -, k27⟩
  have K27 := hide ((unhide K26).trans k27)
  clear K26
  clear k27
  have C27 := hide c27
  clear c27
  go_wp2_with fail
  refine (kp_of (nan_any w27)).mono ?_
  rintro e w28 ⟨rfl, k28⟩
  have K28 := hide ((unhide K27).trans k28)
  clear K27
  clear k28
  go_wp2_with fail
  refine (kp_of (same_any r27 _ w28)).mono ?_
  rw [same_of (c := 9221120237041090561) ((unhide C27).trans (by decide +kernel)) (by decide +kernel)]
  rintro e w29 ⟨rfl, k29⟩
  have K29 := hide ((unhide K28).trans k29)
  clear K28
  clear k29
  go_wp2_with fail
  refine (num_of (L := 9223372036854775808) (times_any 9223372036854775808 4617315517961601024 w29) (by decide +kernel) (by decide +kernel)).mono ?_
  rintro e w30 ⟨rfl, k30⟩
  have K30 := hide ((unhide K29).trans k30)
  clear K29
  clear k30
  go_wp2_with fail
  refine (kp_of (same_any _ _ w30)).mono ?_
  rw [show sameF 9223372036854775808 9223372036854775808 = true from by decide +kernel]
  rintro e w31 ⟨rfl, k31⟩
  have K31 := hide ((unhide K30).trans k31)
  clear K30
  clear k31
  go_wp2
  go_ret
  exact ⟨rfl, unhide K31⟩

end Go.Proofs.Ytblhafibcnokdaa
