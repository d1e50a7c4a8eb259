
/- The document's own case, as the laws of the kernel ask for it first. -/
import Derived.Test.YtcegkaemcjlfgaaKerF
namespace Go.Proofs.Ytcegkaemcjlfgaa
open Go.RowKit

theorem flts_at {w : World} {p : Option Addr} {n c : Nat} {d : List Nat} (h : Flts w (.slice p n c) d) (h0 : 0 < d.length) : ∃ b off, p = some ⟨b, off, none⟩ ∧ b < w.heap.size ∧ ∀ i, i < d.length → w.cell? ⟨b, off + i, none⟩ = some (.float .f64 (d.getD i 0)) := by
  obtain ⟨_, _, _, a, cap, e, hv⟩ := h
  cases e
  exact hv h0

set_option maxHeartbeats 1000000 in
theorem awake4_any (w : World) : Calls Try.prog 6 #[] w fun e w' => e = .returned (.bool true) ∧ Kp w w' := by
  have hq4 : (FloatKind.f64.format.order 4616189618054758400 4616189618054758400 == some Ordering.eq) = true := by decide +kernel
  have hq5 : (FloatKind.f64.format.order 4617315517961601024 4617315517961601024 == some Ordering.eq) = true := by decide +kernel
  go_enter Try.func6, Try.ntmps6
  go_wp2_with fail
  have P_1 := hide ((((lit_ints w 3 [2] #[.int .i64 2] (w.heap.size) 1 rfl rfl rfl (by unfold I64; decide) (by decide)).keep (Kp.alloc (w.alloc (.cells #[.int .i64 2] 3)) (.cells #[.float .f64 4607182418800017408, .float .f64 4611686018427387904] 38))).keep (Kp.alloc ((w.alloc (.cells #[.int .i64 2] 3)).alloc (.cells #[.float .f64 4607182418800017408, .float .f64 4611686018427387904] 38)) (.cells #[.int .i64 1] 3))).keep (Kp.alloc (((w.alloc (.cells #[.int .i64 2] 3)).alloc (.cells #[.float .f64 4607182418800017408, .float .f64 4611686018427387904] 38)).alloc (.cells #[.int .i64 1] 3)) (.cells #[.float .f64 4613937818241073152] 38)))
  have Q_1 := hide (((lit_flts (w.alloc (.cells #[.int .i64 2] 3)) 38 [4607182418800017408, 4611686018427387904] #[.float .f64 4607182418800017408, .float .f64 4611686018427387904] (w.heap.size + 1) 2 rfl (by simp) rfl (by unfold W64; decide) (by decide)).keep (Kp.alloc ((w.alloc (.cells #[.int .i64 2] 3)).alloc (.cells #[.float .f64 4607182418800017408, .float .f64 4611686018427387904] 38)) (.cells #[.int .i64 1] 3))).keep (Kp.alloc (((w.alloc (.cells #[.int .i64 2] 3)).alloc (.cells #[.float .f64 4607182418800017408, .float .f64 4611686018427387904] 38)).alloc (.cells #[.int .i64 1] 3)) (.cells #[.float .f64 4613937818241073152] 38)))
  have U_1 := hide ((lit_ints ((w.alloc (.cells #[.int .i64 2] 3)).alloc (.cells #[.float .f64 4607182418800017408, .float .f64 4611686018427387904] 38)) 3 [1] #[.int .i64 1] (w.heap.size + 2) 1 rfl (by simp) rfl (by unfold I64; decide) (by decide)).keep (Kp.alloc (((w.alloc (.cells #[.int .i64 2] 3)).alloc (.cells #[.float .f64 4607182418800017408, .float .f64 4611686018427387904] 38)).alloc (.cells #[.int .i64 1] 3)) (.cells #[.float .f64 4613937818241073152] 38)))
  have V_1 := hide (lit_flts (((w.alloc (.cells #[.int .i64 2] 3)).alloc (.cells #[.float .f64 4607182418800017408, .float .f64 4611686018427387904] 38)).alloc (.cells #[.int .i64 1] 3)) 38 [4613937818241073152] #[.float .f64 4613937818241073152] (w.heap.size + 3) 1 rfl (by simp) rfl (by unfold W64; decide) (by decide))
  have q1 := (((Kp.alloc w (.cells #[.int .i64 2] 3)).trans (Kp.alloc (w.alloc (.cells #[.int .i64 2] 3)) (.cells #[.float .f64 4607182418800017408, .float .f64 4611686018427387904] 38))).trans (Kp.alloc ((w.alloc (.cells #[.int .i64 2] 3)).alloc (.cells #[.float .f64 4607182418800017408, .float .f64 4611686018427387904] 38)) (.cells #[.int .i64 1] 3))).trans (Kp.alloc (((w.alloc (.cells #[.int .i64 2] 3)).alloc (.cells #[.float .f64 4607182418800017408, .float .f64 4611686018427387904] 38)).alloc (.cells #[.int .i64 1] 3)) (.cells #[.float .f64 4613937818241073152] 38))
  generalize ((((w.alloc (.cells #[.int .i64 2] 3)).alloc (.cells #[.float .f64 4607182418800017408, .float .f64 4611686018427387904] 38)).alloc (.cells #[.int .i64 1] 3)).alloc (.cells #[.float .f64 4613937818241073152] 38)) = w1 at *
  have K1 := hide q1
  clear q1
  generalize w.heap.size + 3 = B_V at *
  generalize w.heap.size + 2 = B_U at *
  generalize w.heap.size + 1 = B_Q at *
  generalize w.heap.size = B_P at *
  refine (two_aw _ _ _ _ w1 (unhide P_1) (unhide Q_1) (unhide U_1) (unhide V_1)).mono ?_
  rintro e w2 ⟨a1, c1, a2, c2, rfl, fd, k2⟩
  have K2 := hide ((unhide K1).trans k2)
  have P_2 := hide ((unhide P_1).keep k2)
  have Q_2 := hide ((unhide Q_1).keep k2)
  have U_2 := hide ((unhide U_1).keep k2)
  have V_2 := hide ((unhide V_1).keep k2)
  clear K1 P_1 Q_1 U_1 V_1
  clear k2
  have D_2 := hide fd
  clear fd
  clear P_2
  clear Q_2
  clear U_2
  clear V_2
  go_upto_region 2 with fail
  have T_3 := hide (Bx.madeAt w2 (.slice a1 1 c1) (.slice a2 2 c2) (w2.heap.size) rfl)
  have q3 := Kp.alloc w2 (.cells #[(.slice a1 1 c1), (.slice a2 2 c2)] 25)
  generalize (w2.alloc (.cells #[(.slice a1 1 c1), (.slice a2 2 c2)] 25)) = w3 at *
  have K3 := hide ((unhide K2).trans q3)
  have D_3 := hide ((unhide D_2).keep q3)
  clear K2 D_2
  clear q3
  generalize w2.heap.size = B_T at *
  obtain ⟨T0_3, T1_3, -, -, T4_3⟩ := (unhide T_3).o
  obtain ⟨b, off, rfl, -, hc⟩ := flts_at (unhide D_3) (by decide)
  have hc0 := hc 0 (by decide)
  have hc1 := hc 1 (by decide)
  simp only [List.getD_cons_zero, List.getD_cons_succ, Nat.add_zero] at hc0 hc1
  clear hc
  go_wp2
  go_ret
  exact ⟨rfl, unhide K3⟩

end Go.Proofs.Ytcegkaemcjlfgaa
