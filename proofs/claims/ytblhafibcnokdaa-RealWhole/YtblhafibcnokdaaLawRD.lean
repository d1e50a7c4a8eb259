/- The walk of the law on folds of twice as many. -/
import Derived.Test.YtblhafibcnokdaaLawRC
namespace Go.Proofs.Ytblhafibcnokdaa
open Go.RowKit

theorem info_flt : (Try.prog.info? 23).map (fun i => (i.zero, i.size, i.bytes)) = some (some (.float .f64 0), 1, 8) := by kernel_rfl

set_option maxHeartbeats 1000000 in
theorem parts_walk (a0 : Option Addr) (l0 c0 : Nat) (xs : List Nat) (x : Nat) (w : World) (m0 : l0 ≤ 9223372036854775807)
    (h0 : l0 ≤ 1000000 → Flts w (.slice a0 l0 c0) xs) (hl : xs.length = l0) (hx : W64 x) (hr : Roomy (.slice a0 l0 c0)) :
    Calls Try.prog 6 #[.slice a0 l0 c0, .float .f64 x] w fun e w' => e = .returned (.bool true) ∧ Kp w w' := by
  have H0 := hide h0
  have RM0 := hide hr
  have HX := hide hx
  have INFO := hide info_flt
  clear h0 hr hx
  by_cases g0 : l0 ≤ 300
  · have A0 := hide (unhide H0 (by omega))
    clear H0
    by_cases g1 : l0 = 0
    · subst g1
      go_enter Try.func6, Try.ntmps6
      go_wp2_with fail
      refine (awake_any w).mono ?_
      rintro e w1 ⟨rfl, k1⟩
      have K1 := hide k1
      have A_1 := hide ((unhide A0).keep k1)
      clear A0
      clear k1
      have KA := hide (Kp.alloc w1 (.cells #[] 23))
      have OW := hide (OwnF.lit w1 23 [] #[] w1.heap.size 0 w1.heap.size rfl rfl rfl (Nat.le_refl _) (by decide))
      have AP := hide ((unhide A_1).keep (unhide KA))
      have RM : Hid ((([] : List Nat).length + xs.length) * 8 ≤ 140737488351232) := by unfold Hid; simp; omega
      have BS : Hid (w1.heap.size ≤ (w1.alloc (.cells #[] 23)).heap.size) := by unfold Hid; simp
      have RMB : Hid ((xs.length + xs.length) * 8 ≤ 140737488351232) := by unfold Hid; (try simp) <;> omega
      go_wp2_with (first
        | (at_builtin
           refine wpList_append_flts_at _ rfl (.tmp 14) (.tmp 15) 22 rfl w1.heap.size 23 (unhide INFO) Try.underlying22 _ _ [] xs rfl rfl (unhide OW) (unhide AP) (unhide RM) (unhide BS) ?_
           intro v2 w2 o2 g2
           have q2 : Kp w1 w2 := Kp.of_grown (unhide KA) g2 (by intro k hk; cases hk; exact Nat.le_refl _)
           rw [List.nil_append] at o2
           clear KA OW AP RM BS g2
           have OW := hide o2
           have AP := hide ((unhide A_1).keep q2)
           have QA := hide q2
           have BS : Hid (w1.heap.size ≤ w2.heap.size) := q2.size
           clear o2 q2
           have RM : Hid ((xs.length + xs.length) * 8 ≤ 140737488351232) := unhide RMB)
        | (at_builtin
           go_must (refine wpList_append_flts_at _ rfl (.tmp 16) (.tmp 17) 22 rfl w1.heap.size 23 (unhide INFO) Try.underlying22 _ _ xs xs rfl rfl (unhide OW) (unhide AP) (unhide RM) (unhide BS) ?_)
           intro v3 w3 o3 g3))
      have q3 : Kp w1 w3 := Kp.of_grown (unhide QA) g3 (fun k hk => (unhide OW).block k hk)
      have U_3 := hide (o3.flts (fun y hy => (List.mem_append.1 hy).elim (fun h => (unhide A_1).wf y h) (fun h => (unhide A_1).wf y h)) (by rw [List.length_append]; exact unhide RM))
      have RU := hide o3.lens
      clear OW AP QA BS RM RMB o3 g3
      have K3 := hide ((unhide K1).trans q3)
      have A_3 := hide ((unhide A_1).keep q3)
      clear K1 A_1
      clear q3
      have RU2 := RU
      clear RU
      go_wp2_with fail
      refine (fold_any _ xs w3 (unhide A_3) (unhide RM0)).mono ?_
      rintro e w4 ⟨r4, rfl, ⟨c4, -⟩, -, k4⟩
      have K4 := hide ((unhide K3).trans k4)
      have A_4 := hide ((unhide A_3).keep k4)
      have U_4 := hide ((unhide U_3).keep k4)
      clear K3 A_3 U_3
      clear k4
      have C4 := hide c4
      clear c4
      go_wp2_with fail
      refine (plus_any r4 r4 w4).mono ?_
      rintro e w5 ⟨r5, rfl, ⟨c5, -⟩, -, k5⟩
      have K5 := hide ((unhide K4).trans k5)
      have A_5 := hide ((unhide A_4).keep k5)
      have U_5 := hide ((unhide U_4).keep k5)
      clear K4 A_4 U_4
      clear k5
      have C5 := hide c5
      clear c5
      go_wp2_with fail
      refine (row_any _ xs w5 (unhide A_5)).mono ?_
      rintro e w6 ⟨r6, rfl, ⟨c6, -⟩, -, k6⟩
      have K6 := hide ((unhide K5).trans k6)
      have A_6 := hide ((unhide A_5).keep k6)
      have U_6 := hide ((unhide U_5).keep k6)
      clear K5 A_5 U_5
      clear k6
      have C6 := hide c6
      clear c6
      go_wp2_with fail
      refine (plus_any r6 x w6).mono ?_
      rintro e w7 ⟨r7, rfl, ⟨c7, -⟩, -, k7⟩
      have K7 := hide ((unhide K6).trans k7)
      have A_7 := hide ((unhide A_6).keep k7)
      have U_7 := hide ((unhide U_6).keep k7)
      clear K6 A_6 U_6
      clear k7
      have C7 := hide c7
      clear c7
      clear U_7
      have KA := hide (Kp.alloc w7 (.cells #[] 23))
      have OW := hide (OwnF.lit w7 23 [] #[] w7.heap.size 0 w7.heap.size rfl rfl rfl (Nat.le_refl _) (by decide))
      have AP := hide ((unhide A_7).keep (unhide KA))
      have RM : Hid ((([] : List Nat).length + xs.length) * 8 ≤ 140737488351232) := by unfold Hid; simp; omega
      have BS : Hid (w7.heap.size ≤ (w7.alloc (.cells #[] 23)).heap.size) := by unfold Hid; simp
      have RMB : Hid ((xs.length + [x].length) * 8 ≤ 140737488351232) := by unfold Hid; (try simp) <;> omega
      go_wp2_with (first
        | (at_builtin
           refine wpList_append_flts_at _ rfl (.tmp 38) (.tmp 39) 22 rfl w7.heap.size 23 (unhide INFO) Try.underlying22 _ _ [] xs rfl rfl (unhide OW) (unhide AP) (unhide RM) (unhide BS) ?_
           intro v8 w8 o8 g8
           have q8 : Kp w7 w8 := Kp.of_grown (unhide KA) g8 (by intro k hk; cases hk; exact Nat.le_refl _)
           rw [List.nil_append] at o8
           clear KA OW AP RM BS g8
           have qq := Kp.alloc w8 (.cells #[.float .f64 x] 23)
           have OW := hide (o8.keep qq)
           have AP := hide (lit_flts w8 23 [x] #[.float .f64 x] w8.heap.size 1 rfl rfl rfl (by intro y hy; cases List.mem_singleton.1 hy; exact unhide HX) (by decide))
           have QA := hide (q8.trans qq)
           have BS : Hid (w7.heap.size ≤ (w8.alloc (.cells #[.float .f64 x] 23)).heap.size) := (q8.trans qq).size
           clear qq
           clear o8 q8
           have RM : Hid ((xs.length + [x].length) * 8 ≤ 140737488351232) := unhide RMB)
        | (at_builtin
           go_must (refine wpList_append_flts_at _ rfl (.tmp 40) (.tmp 42) 22 rfl w7.heap.size 23 (unhide INFO) Try.underlying22 _ _ xs [x] rfl rfl (unhide OW) (unhide AP) (unhide RM) (unhide BS) ?_)
           intro v9 w9 o9 g9))
      have q9 : Kp w7 w9 := Kp.of_grown (unhide QA) g9 (fun k hk => (unhide OW).block k hk)
      have U_9 := hide (o9.flts (fun y hy => (List.mem_append.1 hy).elim (fun h => (unhide A_7).wf y h) (fun h => by cases List.mem_singleton.1 h; exact unhide HX)) (by rw [List.length_append]; exact unhide RM))
      have RU := hide o9.lens
      clear OW AP QA BS RM RMB o9 g9
      have K9 := hide ((unhide K7).trans q9)
      have A_9 := hide ((unhide A_7).keep q9)
      clear K7 A_7
      clear q9
      go_wp2_with fail
      refine (row_any _ (xs ++ [x]) w9 (unhide U_9)).mono ?_
      rintro e w10 ⟨r10, rfl, ⟨c10, -⟩, -, k10⟩
      have K10 := hide ((unhide K9).trans k10)
      have A_10 := hide ((unhide A_9).keep k10)
      have U_10 := hide ((unhide U_9).keep k10)
      clear K9 A_9 U_9
      clear k10
      have C10 := hide c10
      clear c10
      go_wp2_with fail
      refine (kp_of (same_any r10 r7 w10)).mono ?_
      rw [same_of ((unhide C10).trans (rowC_snoc _ _)) ((unhide C7).trans (adC_cn_l x (unhide C6)))]
      rintro e w11 ⟨rfl, k11⟩
      have K11 := hide ((unhide K10).trans k11)
      have A_11 := hide ((unhide A_10).keep k11)
      have U_11 := hide ((unhide U_10).keep k11)
      clear K10 A_10 U_10
      clear k11
      go_wp2
      go_ret
      exact ⟨rfl, unhide K11⟩
    · have L1 : Hid (1 ≤ xs.length) := by unfold Hid; omega
      go_enter Try.func6, Try.ntmps6
      go_wp2_with fail
      refine (awake_any w).mono ?_
      rintro e w1 ⟨rfl, k1⟩
      have K1 := hide k1
      have A_1 := hide ((unhide A0).keep k1)
      clear A0
      clear k1
      have KA := hide (Kp.alloc w1 (.cells #[] 23))
      have OW := hide (OwnF.lit w1 23 [] #[] w1.heap.size 0 w1.heap.size rfl rfl rfl (Nat.le_refl _) (by decide))
      have AP := hide ((unhide A_1).keep (unhide KA))
      have RM : Hid ((([] : List Nat).length + xs.length) * 8 ≤ 140737488351232) := by unfold Hid; simp; omega
      have BS : Hid (w1.heap.size ≤ (w1.alloc (.cells #[] 23)).heap.size) := by unfold Hid; simp
      have RMB : Hid ((xs.length + xs.length) * 8 ≤ 140737488351232) := by unfold Hid; (try simp) <;> omega
      go_wp2_with (first
        | (at_builtin
           refine wpList_append_flts_at _ rfl (.tmp 14) (.tmp 15) 22 rfl w1.heap.size 23 (unhide INFO) Try.underlying22 _ _ [] xs rfl rfl (unhide OW) (unhide AP) (unhide RM) (unhide BS) ?_
           intro v2 w2 o2 g2
           have q2 : Kp w1 w2 := Kp.of_grown (unhide KA) g2 (by intro k hk; cases hk; exact Nat.le_refl _)
           rw [List.nil_append] at o2
           clear KA OW AP RM BS g2
           have OW := hide o2
           have AP := hide ((unhide A_1).keep q2)
           have QA := hide q2
           have BS : Hid (w1.heap.size ≤ w2.heap.size) := q2.size
           clear o2 q2
           have RM : Hid ((xs.length + xs.length) * 8 ≤ 140737488351232) := unhide RMB)
        | (at_builtin
           go_must (refine wpList_append_flts_at _ rfl (.tmp 16) (.tmp 17) 22 rfl w1.heap.size 23 (unhide INFO) Try.underlying22 _ _ xs xs rfl rfl (unhide OW) (unhide AP) (unhide RM) (unhide BS) ?_)
           intro v3 w3 o3 g3))
      have q3 : Kp w1 w3 := Kp.of_grown (unhide QA) g3 (fun k hk => (unhide OW).block k hk)
      have U_3 := hide (o3.flts (fun y hy => (List.mem_append.1 hy).elim (fun h => (unhide A_1).wf y h) (fun h => (unhide A_1).wf y h)) (by rw [List.length_append]; exact unhide RM))
      have RU := hide o3.lens
      clear OW AP QA BS RM RMB o3 g3
      have K3 := hide ((unhide K1).trans q3)
      have A_3 := hide ((unhide A_1).keep q3)
      clear K1 A_1
      clear q3
      have RU2 := RU
      clear RU
      go_wp2_with fail
      refine (fold_any _ xs w3 (unhide A_3) (unhide RM0)).mono ?_
      rintro e w4 ⟨r4, rfl, ⟨c4, -⟩, -, k4⟩
      have K4 := hide ((unhide K3).trans k4)
      have A_4 := hide ((unhide A_3).keep k4)
      have U_4 := hide ((unhide U_3).keep k4)
      clear K3 A_3 U_3
      clear k4
      have C4 := hide c4
      clear c4
      go_wp2_with fail
      refine (plus_any r4 r4 w4).mono ?_
      rintro e w5 ⟨r5, rfl, ⟨c5, -⟩, -, k5⟩
      have K5 := hide ((unhide K4).trans k5)
      have A_5 := hide ((unhide A_4).keep k5)
      have U_5 := hide ((unhide U_4).keep k5)
      clear K4 A_4 U_4
      clear k5
      have C5 := hide c5
      clear c5
      go_wp2_with fail
      refine (row_any _ xs w5 (unhide A_5)).mono ?_
      rintro e w6 ⟨r6, rfl, ⟨c6, -⟩, -, k6⟩
      have K6 := hide ((unhide K5).trans k6)
      have A_6 := hide ((unhide A_5).keep k6)
      have U_6 := hide ((unhide U_5).keep k6)
      clear K5 A_5 U_5
      clear k6
      have C6 := hide c6
      clear c6
      go_wp2_with fail
      refine (plus_any r6 x w6).mono ?_
      rintro e w7 ⟨r7, rfl, ⟨c7, -⟩, -, k7⟩
      have K7 := hide ((unhide K6).trans k7)
      have A_7 := hide ((unhide A_6).keep k7)
      have U_7 := hide ((unhide U_6).keep k7)
      clear K6 A_6 U_6
      clear k7
      have C7 := hide c7
      clear c7
      go_wp2_with fail
      refine (fold_any _ (xs ++ xs) w7 (unhide U_7) (unhide RU2)).mono ?_
      rintro e w8 ⟨r8, rfl, ⟨c8, -⟩, -, k8⟩
      have K8 := hide ((unhide K7).trans k8)
      have A_8 := hide ((unhide A_7).keep k8)
      have U_8 := hide ((unhide U_7).keep k8)
      clear K7 A_7 U_7
      clear k8
      have C8 := hide c8
      clear c8
      go_wp2_with fail
      refine (kp_of (same_any r8 r5 w8)).mono ?_
      rw [same_of ((unhide C8).trans (foldC_twice (unhide L1))) ((unhide C5).trans (by rw [← adC_cn, unhide C4]))]
      rintro e w9 ⟨rfl, k9⟩
      have K9 := hide ((unhide K8).trans k9)
      have A_9 := hide ((unhide A_8).keep k9)
      have U_9 := hide ((unhide U_8).keep k9)
      clear K8 A_8 U_8
      clear k9
      clear U_9
      have KA := hide (Kp.alloc w9 (.cells #[] 23))
      have OW := hide (OwnF.lit w9 23 [] #[] w9.heap.size 0 w9.heap.size rfl rfl rfl (Nat.le_refl _) (by decide))
      have AP := hide ((unhide A_9).keep (unhide KA))
      have RM : Hid ((([] : List Nat).length + xs.length) * 8 ≤ 140737488351232) := by unfold Hid; simp; omega
      have BS : Hid (w9.heap.size ≤ (w9.alloc (.cells #[] 23)).heap.size) := by unfold Hid; simp
      have RMB : Hid ((xs.length + [x].length) * 8 ≤ 140737488351232) := by unfold Hid; (try simp) <;> omega
      go_wp2_with (first
        | (at_builtin
           refine wpList_append_flts_at _ rfl (.tmp 38) (.tmp 39) 22 rfl w9.heap.size 23 (unhide INFO) Try.underlying22 _ _ [] xs rfl rfl (unhide OW) (unhide AP) (unhide RM) (unhide BS) ?_
           intro v10 w10 o10 g10
           have q10 : Kp w9 w10 := Kp.of_grown (unhide KA) g10 (by intro k hk; cases hk; exact Nat.le_refl _)
           rw [List.nil_append] at o10
           clear KA OW AP RM BS g10
           have qq := Kp.alloc w10 (.cells #[.float .f64 x] 23)
           have OW := hide (o10.keep qq)
           have AP := hide (lit_flts w10 23 [x] #[.float .f64 x] w10.heap.size 1 rfl rfl rfl (by intro y hy; cases List.mem_singleton.1 hy; exact unhide HX) (by decide))
           have QA := hide (q10.trans qq)
           have BS : Hid (w9.heap.size ≤ (w10.alloc (.cells #[.float .f64 x] 23)).heap.size) := (q10.trans qq).size
           clear qq
           clear o10 q10
           have RM : Hid ((xs.length + [x].length) * 8 ≤ 140737488351232) := unhide RMB)
        | (at_builtin
           go_must (refine wpList_append_flts_at _ rfl (.tmp 40) (.tmp 42) 22 rfl w9.heap.size 23 (unhide INFO) Try.underlying22 _ _ xs [x] rfl rfl (unhide OW) (unhide AP) (unhide RM) (unhide BS) ?_)
           intro v11 w11 o11 g11))
      have q11 : Kp w9 w11 := Kp.of_grown (unhide QA) g11 (fun k hk => (unhide OW).block k hk)
      have U_11 := hide (o11.flts (fun y hy => (List.mem_append.1 hy).elim (fun h => (unhide A_9).wf y h) (fun h => by cases List.mem_singleton.1 h; exact unhide HX)) (by rw [List.length_append]; exact unhide RM))
      have RU := hide o11.lens
      clear OW AP QA BS RM RMB o11 g11
      have K11 := hide ((unhide K9).trans q11)
      have A_11 := hide ((unhide A_9).keep q11)
      clear K9 A_9
      clear q11
      go_wp2_with fail
      refine (row_any _ (xs ++ [x]) w11 (unhide U_11)).mono ?_
      rintro e w12 ⟨r12, rfl, ⟨c12, -⟩, -, k12⟩
      have K12 := hide ((unhide K11).trans k12)
      have A_12 := hide ((unhide A_11).keep k12)
      have U_12 := hide ((unhide U_11).keep k12)
      clear K11 A_11 U_11
      clear k12
      have C12 := hide c12
      clear c12
      go_wp2_with fail
      refine (kp_of (same_any r12 r7 w12)).mono ?_
      rw [same_of ((unhide C12).trans (rowC_snoc _ _)) ((unhide C7).trans (adC_cn_l x (unhide C6)))]
      rintro e w13 ⟨rfl, k13⟩
      have K13 := hide ((unhide K12).trans k13)
      have A_13 := hide ((unhide A_12).keep k13)
      have U_13 := hide ((unhide U_12).keep k13)
      clear K12 A_12 U_12
      clear k13
      go_wp2
      go_ret
      exact ⟨rfl, unhide K13⟩
  · go_enter Try.func6, Try.ntmps6
    go_wp2_with fail
    refine (awake_any w).mono ?_
    rintro e w1 ⟨rfl, k1⟩
    go_wp2
    go_ret
    exact ⟨rfl, k1⟩

end Go.Proofs.Ytblhafibcnokdaa
