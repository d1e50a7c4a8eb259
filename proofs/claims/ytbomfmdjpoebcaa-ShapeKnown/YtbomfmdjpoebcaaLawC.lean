/- The walk of the law that holds shapes by hand. -/
import Derived.Test.YtbomfmdjpoebcaaLawA
namespace Go.Proofs.Ytbomfmdjpoebcaa
open Go.RowKit

set_option maxHeartbeats 1000000 in
theorem known_walk (w : World) : Calls Try.prog 6 #[] w fun e w' => e = .returned (.bool true) ∧ Kp w w' := by
  go_enter Try.func6, Try.ntmps6
  go_wp2_with fail
  refine (awake_any w).mono ?_
  rintro e w1 ⟨rfl, k1⟩
  have K1 := hide k1
  clear k1
  go_wp2_with fail
  refine (size_any _ [] w1 (Ints.nil _)).mono ?_
  rw [show szN [] = 1 from by decide +kernel, show szE [] = 0 from by decide +kernel]
  rintro e w2 ⟨rfl, k2⟩
  have K2 := hide ((unhide K1).trans k2)
  clear K1
  clear k2
  go_wp2_with fail
  have L_3 := hide (lit_ints w2 3 [64, 64] #[.int .i64 64, .int .i64 64] (w2.heap.size) 2 rfl rfl rfl (by unfold I64; decide) (by decide))
  have q3 := Kp.alloc w2 (.cells #[.int .i64 64, .int .i64 64] 3)
  generalize (w2.alloc (.cells #[.int .i64 64, .int .i64 64] 3)) = w3 at *
  have K3 := hide ((unhide K2).trans q3)
  clear K2
  clear q3
  refine (size_any _ [64, 64] w3 (unhide L_3)).mono ?_
  rw [show szN [64, 64] = 4096 from by decide +kernel, show szE [64, 64] = 0 from by decide +kernel]
  rintro e w4 ⟨rfl, k4⟩
  have K4 := hide ((unhide K3).trans k4)
  have L_4 := hide ((unhide L_3).keep k4)
  clear K3 L_3
  clear k4
  clear L_4
  go_wp2_with fail
  have L_5 := hide (lit_ints w4 3 [64, 65] #[.int .i64 64, .int .i64 65] (w4.heap.size) 2 rfl rfl rfl (by unfold I64; decide) (by decide))
  have q5 := Kp.alloc w4 (.cells #[.int .i64 64, .int .i64 65] 3)
  generalize (w4.alloc (.cells #[.int .i64 64, .int .i64 65] 3)) = w5 at *
  have K5 := hide ((unhide K4).trans q5)
  clear K4
  clear q5
  refine (size_any _ [64, 65] w5 (unhide L_5)).mono ?_
  rw [show szN [64, 65] = 0 from by decide +kernel, show szE [64, 65] = 3 from by decide +kernel]
  rintro e w6 ⟨rfl, k6⟩
  have K6 := hide ((unhide K5).trans k6)
  have L_6 := hide ((unhide L_5).keep k6)
  clear K5 L_5
  clear k6
  clear L_6
  go_wp2_with fail
  have L_7 := hide (lit_ints w6 3 [1, 1, 1, 1, 1] #[.int .i64 1, .int .i64 1, .int .i64 1, .int .i64 1, .int .i64 1] (w6.heap.size) 5 rfl rfl rfl (by unfold I64; decide) (by decide))
  have q7 := Kp.alloc w6 (.cells #[.int .i64 1, .int .i64 1, .int .i64 1, .int .i64 1, .int .i64 1] 3)
  generalize (w6.alloc (.cells #[.int .i64 1, .int .i64 1, .int .i64 1, .int .i64 1, .int .i64 1] 3)) = w7 at *
  have K7 := hide ((unhide K6).trans q7)
  clear K6
  clear q7
  refine (size_any _ [1, 1, 1, 1, 1] w7 (unhide L_7)).mono ?_
  rw [show szN [1, 1, 1, 1, 1] = 0 from by decide +kernel, show szE [1, 1, 1, 1, 1] = 2 from by decide +kernel]
  rintro e w8 ⟨rfl, k8⟩
  have K8 := hide ((unhide K7).trans k8)
  have L_8 := hide ((unhide L_7).keep k8)
  clear K7 L_7
  clear k8
  clear L_8
  go_wp2_with fail
  have L_9 := hide (lit_ints w8 3 [1099511627776, 1099511627776, 0] #[.int .i64 1099511627776, .int .i64 1099511627776, .int .i64 0] (w8.heap.size) 3 rfl rfl rfl (by unfold I64; decide) (by decide))
  have q9 := Kp.alloc w8 (.cells #[.int .i64 1099511627776, .int .i64 1099511627776, .int .i64 0] 3)
  generalize (w8.alloc (.cells #[.int .i64 1099511627776, .int .i64 1099511627776, .int .i64 0] 3)) = w9 at *
  have K9 := hide ((unhide K8).trans q9)
  clear K8
  clear q9
  refine (size_any _ [1099511627776, 1099511627776, 0] w9 (unhide L_9)).mono ?_
  rw [show szN [1099511627776, 1099511627776, 0] = 0 from by decide +kernel, show szE [1099511627776, 1099511627776, 0] = 2 from by decide +kernel]
  rintro e w10 ⟨rfl, k10⟩
  have K10 := hide ((unhide K9).trans k10)
  have L_10 := hide ((unhide L_9).keep k10)
  clear K9 L_9
  clear k10
  clear L_10
  go_wp2_with fail
  have L_11 := hide ((lit_ints w10 3 [2, 1, 3] #[.int .i64 2, .int .i64 1, .int .i64 3] (w10.heap.size) 3 rfl rfl rfl (by unfold I64; decide) (by decide)).keep (Kp.alloc (w10.alloc (.cells #[.int .i64 2, .int .i64 1, .int .i64 3] 3)) (.cells #[.int .i64 4, .int .i64 1] 3)))
  have M_11 := hide (lit_ints (w10.alloc (.cells #[.int .i64 2, .int .i64 1, .int .i64 3] 3)) 3 [4, 1] #[.int .i64 4, .int .i64 1] (w10.heap.size + 1) 2 rfl (by simp) rfl (by unfold I64; decide) (by decide))
  have q11 := (Kp.alloc w10 (.cells #[.int .i64 2, .int .i64 1, .int .i64 3] 3)).trans (Kp.alloc (w10.alloc (.cells #[.int .i64 2, .int .i64 1, .int .i64 3] 3)) (.cells #[.int .i64 4, .int .i64 1] 3))
  generalize ((w10.alloc (.cells #[.int .i64 2, .int .i64 1, .int .i64 3] 3)).alloc (.cells #[.int .i64 4, .int .i64 1] 3)) = w11 at *
  have K11 := hide ((unhide K10).trans q11)
  clear K10
  clear q11
  refine (spread_any _ _ [2, 1, 3] [4, 1] w11 (unhide L_11) (unhide M_11)).mono ?_
  rw [show sprE [2, 1, 3] [4, 1] = 0 from by decide +kernel, show sprL [2, 1, 3] [4, 1] = [2, 4, 3] from by decide +kernel]
  rintro e w12 ⟨rb, rfl, ib, _, k12⟩
  have K12 := hide ((unhide K11).trans k12)
  have L_12 := hide ((unhide L_11).keep k12)
  have M_12 := hide ((unhide M_11).keep k12)
  clear K11 L_11 M_11
  clear k12
  have B_12 := hide ib
  clear ib
  clear L_12
  clear M_12
  go_wp2_with fail
  have L_13 := hide ((lit_ints w12 3 [2] #[.int .i64 2] (w12.heap.size) 1 rfl rfl rfl (by unfold I64; decide) (by decide)).keep (Kp.alloc (w12.alloc (.cells #[.int .i64 2] 3)) (.cells #[.int .i64 3] 3)))
  have M_13 := hide (lit_ints (w12.alloc (.cells #[.int .i64 2] 3)) 3 [3] #[.int .i64 3] (w12.heap.size + 1) 1 rfl (by simp) rfl (by unfold I64; decide) (by decide))
  have q13 := (Kp.alloc w12 (.cells #[.int .i64 2] 3)).trans (Kp.alloc (w12.alloc (.cells #[.int .i64 2] 3)) (.cells #[.int .i64 3] 3))
  generalize ((w12.alloc (.cells #[.int .i64 2] 3)).alloc (.cells #[.int .i64 3] 3)) = w13 at *
  have K13 := hide ((unhide K12).trans q13)
  have B_13 := hide ((unhide B_12).keep q13)
  clear K12 B_12
  clear q13
  refine (spread_any _ _ [2] [3] w13 (unhide L_13) (unhide M_13)).mono ?_
  rw [show sprE [2] [3] = 2 from by decide +kernel, show sprL [2] [3] = [] from by decide +kernel]
  rintro e w14 ⟨rk, rfl, _, _, k14⟩
  have K14 := hide ((unhide K13).trans k14)
  have B_14 := hide ((unhide B_13).keep k14)
  have L_14 := hide ((unhide L_13).keep k14)
  have M_14 := hide ((unhide M_13).keep k14)
  clear K13 B_13 L_13 M_13
  clear k14
  clear L_14
  clear M_14
  go_wp2_with fail
  have L_15 := hide ((lit_ints w14 3 [4096] #[.int .i64 4096] (w14.heap.size) 1 rfl rfl rfl (by unfold I64; decide) (by decide)).keep (Kp.alloc (w14.alloc (.cells #[.int .i64 4096] 3)) (.cells #[.int .i64 2, .int .i64 1] 3)))
  have M_15 := hide (lit_ints (w14.alloc (.cells #[.int .i64 4096] 3)) 3 [2, 1] #[.int .i64 2, .int .i64 1] (w14.heap.size + 1) 2 rfl (by simp) rfl (by unfold I64; decide) (by decide))
  have q15 := (Kp.alloc w14 (.cells #[.int .i64 4096] 3)).trans (Kp.alloc (w14.alloc (.cells #[.int .i64 4096] 3)) (.cells #[.int .i64 2, .int .i64 1] 3))
  generalize ((w14.alloc (.cells #[.int .i64 4096] 3)).alloc (.cells #[.int .i64 2, .int .i64 1] 3)) = w15 at *
  have K15 := hide ((unhide K14).trans q15)
  have B_15 := hide ((unhide B_14).keep q15)
  clear K14 B_14
  clear q15
  refine (spread_any _ _ [4096] [2, 1] w15 (unhide L_15) (unhide M_15)).mono ?_
  rw [show sprE [4096] [2, 1] = 3 from by decide +kernel, show sprL [4096] [2, 1] = [] from by decide +kernel]
  rintro e w16 ⟨rl, rfl, _, _, k16⟩
  have K16 := hide ((unhide K15).trans k16)
  have B_16 := hide ((unhide B_15).keep k16)
  have L_16 := hide ((unhide L_15).keep k16)
  have M_16 := hide ((unhide M_15).keep k16)
  clear K15 B_15 L_15 M_15
  clear k16
  clear L_16
  clear M_16
  go_wp2_with fail
  refine (spread_any _ _ [] [] w16 (Ints.nil _) (Ints.nil _)).mono ?_
  rw [show sprE [] [] = 0 from by decide +kernel, show sprL [] [] = [] from by decide +kernel]
  rintro e w17 ⟨rc, rfl, ic, _, k17⟩
  have K17 := hide ((unhide K16).trans k17)
  have B_17 := hide ((unhide B_16).keep k17)
  clear K16 B_16
  clear k17
  obtain ⟨ac, cc, rfl, _⟩ := ic.opn (n := 0) rfl
  clear ic
  go_wp2_with fail
  have L_18 := hide (lit_ints w17 3 [2, 4, 3] #[.int .i64 2, .int .i64 4, .int .i64 3] (w17.heap.size) 3 rfl rfl rfl (by unfold I64; decide) (by decide))
  have q18 := Kp.alloc w17 (.cells #[.int .i64 2, .int .i64 4, .int .i64 3] 3)
  generalize (w17.alloc (.cells #[.int .i64 2, .int .i64 4, .int .i64 3] 3)) = w18 at *
  have K18 := hide ((unhide K17).trans q18)
  have B_18 := hide ((unhide B_17).keep q18)
  clear K17 B_17
  clear q18
  refine (same_any _ _ [2, 4, 3] [2, 4, 3] w18 (unhide B_18) (unhide L_18)).mono ?_
  rw [show sameB [2, 4, 3] [2, 4, 3] = true from by decide +kernel]
  rintro e w19 ⟨rfl, k19⟩
  have K19 := hide ((unhide K18).trans k19)
  have B_19 := hide ((unhide B_18).keep k19)
  have L_19 := hide ((unhide L_18).keep k19)
  clear K18 B_18 L_18
  clear k19
  clear L_19
  clear B_19
  go_wp2_with fail
  refine (index_any _ _ [] [] w19 (Ints.nil _) (Ints.nil _)).mono ?_
  rw [show ixN [] [] = 0 from by decide +kernel]
  rintro e w20 ⟨rfl, k20⟩
  have K20 := hide ((unhide K19).trans k20)
  clear K19
  clear k20
  go_wp2_with fail
  have L_21 := hide ((lit_ints w20 3 [1] #[.int .i64 1] (w20.heap.size) 1 rfl rfl rfl (by unfold I64; decide) (by decide)).keep (Kp.alloc (w20.alloc (.cells #[.int .i64 1] 3)) (.cells #[.int .i64 5] 3)))
  have M_21 := hide (lit_ints (w20.alloc (.cells #[.int .i64 1] 3)) 3 [5] #[.int .i64 5] (w20.heap.size + 1) 1 rfl (by simp) rfl (by unfold I64; decide) (by decide))
  have q21 := (Kp.alloc w20 (.cells #[.int .i64 1] 3)).trans (Kp.alloc (w20.alloc (.cells #[.int .i64 1] 3)) (.cells #[.int .i64 5] 3))
  generalize ((w20.alloc (.cells #[.int .i64 1] 3)).alloc (.cells #[.int .i64 5] 3)) = w21 at *
  have K21 := hide ((unhide K20).trans q21)
  clear K20
  clear q21
  refine (into_any _ _ [1] [5] w21 (unhide L_21) (unhide M_21)).mono ?_
  rw [show intoB [1] [5] = true from by decide +kernel]
  rintro e w22 ⟨rfl, k22⟩
  have K22 := hide ((unhide K21).trans k22)
  have L_22 := hide ((unhide L_21).keep k22)
  have M_22 := hide ((unhide M_21).keep k22)
  clear K21 L_21 M_21
  clear k22
  clear L_22
  clear M_22
  go_wp2_with fail
  have L_23 := hide ((lit_ints w22 3 [5] #[.int .i64 5] (w22.heap.size) 1 rfl rfl rfl (by unfold I64; decide) (by decide)).keep (Kp.alloc (w22.alloc (.cells #[.int .i64 5] 3)) (.cells #[.int .i64 1] 3)))
  have M_23 := hide (lit_ints (w22.alloc (.cells #[.int .i64 5] 3)) 3 [1] #[.int .i64 1] (w22.heap.size + 1) 1 rfl (by simp) rfl (by unfold I64; decide) (by decide))
  have q23 := (Kp.alloc w22 (.cells #[.int .i64 5] 3)).trans (Kp.alloc (w22.alloc (.cells #[.int .i64 5] 3)) (.cells #[.int .i64 1] 3))
  generalize ((w22.alloc (.cells #[.int .i64 5] 3)).alloc (.cells #[.int .i64 1] 3)) = w23 at *
  have K23 := hide ((unhide K22).trans q23)
  clear K22
  clear q23
  refine (into_any _ _ [5] [1] w23 (unhide L_23) (unhide M_23)).mono ?_
  rw [show intoB [5] [1] = false from by decide +kernel]
  rintro e w24 ⟨rfl, k24⟩
  have K24 := hide ((unhide K23).trans k24)
  have L_24 := hide ((unhide L_23).keep k24)
  have M_24 := hide ((unhide M_23).keep k24)
  clear K23 L_23 M_23
  clear k24
  clear L_24
  clear M_24
  go_wp2_with fail
  have M_25 := hide (lit_ints w24 3 [2, 2] #[.int .i64 2, .int .i64 2] (w24.heap.size) 2 rfl rfl rfl (by unfold I64; decide) (by decide))
  have q25 := Kp.alloc w24 (.cells #[.int .i64 2, .int .i64 2] 3)
  generalize (w24.alloc (.cells #[.int .i64 2, .int .i64 2] 3)) = w25 at *
  have K25 := hide ((unhide K24).trans q25)
  clear K24
  clear q25
  refine (into_any _ _ [] [2, 2] w25 (Ints.nil _) (unhide M_25)).mono ?_
  rw [show intoB [] [2, 2] = true from by decide +kernel]
  rintro e w26 ⟨rfl, k26⟩
  have K26 := hide ((unhide K25).trans k26)
  have M_26 := hide ((unhide M_25).keep k26)
  clear K25 M_25
  clear k26
  clear M_26
  go_wp2_with fail
  have L_27 := hide (lit_ints w26 3 [1] #[.int .i64 1] (w26.heap.size) 1 rfl rfl rfl (by unfold I64; decide) (by decide))
  have q27 := Kp.alloc w26 (.cells #[.int .i64 1] 3)
  generalize (w26.alloc (.cells #[.int .i64 1] 3)) = w27 at *
  have K27 := hide ((unhide K26).trans q27)
  clear K26
  clear q27
  refine (into_any _ _ [1] [] w27 (unhide L_27) (Ints.nil _)).mono ?_
  rw [show intoB [1] [] = false from by decide +kernel]
  rintro e w28 ⟨rfl, k28⟩
  have K28 := hide ((unhide K27).trans k28)
  have L_28 := hide ((unhide L_27).keep k28)
  clear K27 L_27
  clear k28
  clear L_28
  go_wp2
  go_ret
  exact ⟨rfl, unhide K28⟩

end Go.Proofs.Ytbomfmdjpoebcaa
