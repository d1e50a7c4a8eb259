
/- What Mul and Turn make of numbers that are known; the document's own case, as the laws of matrices ask for it first. -/
import Derived.Test.YthofnmaobmfoiaaMatF
namespace Go.Proofs.Ythofnmaobmfoiaa
open Go.RowKit

theorem list_num : ∀ {ds L : List Nat}, ds.map cn = L → L.all (fun x => !nanW x) = true → ds = L
  | [], [], _, _ => rfl
  | x :: ds, y :: L, h, hn => by
    simp only [List.map_cons, List.cons.injEq] at h
    simp only [List.all_cons, Bool.and_eq_true, Bool.not_eq_true'] at hn
    rw [is_num h.1 rfl hn.1, list_num h.2 hn.2]
  | [], _ :: _, h, _ => by simp at h
  | _ :: _, [], h, _ => by simp at h

theorem mul_known (sv dv sv2 dv2 : Value) (f g : List Int) (d e : List Nat) (s : List Int) (L : List Nat) (q : Int) (w : World) (h1 : Ints w sv f) (hd : Flts w dv d) (hr : Roomy dv) (h2 : Ints w sv2 g) (hd2 : Flts w dv2 e)
    (es : mulS f d g e = s) (eL : mulD f d g e = L) (hn : L.all (fun x => !nanW x) = true) (eq : mulE f d g e = q) :
    Calls Try.prog 6 #[.agg #[sv, dv], .agg #[sv2, dv2]] w fun ee w' => ∃ a1 c1 a2 c2, ee = .returned (.tuple #[.agg #[.slice a1 s.length c1, .slice a2 L.length c2], .int .i64 q]) ∧ Ints w' (.slice a1 s.length c1) s ∧ Flts w' (.slice a2 L.length c2) L ∧ Roomy (.slice a2 L.length c2) ∧ Kp w w' := by
  refine (mul_all sv dv sv2 dv2 f g d e w h1 hd hr h2 hd2).mono ?_
  rw [es, eL, eq]
  rintro ee w' ⟨ds, ⟨a1, c1, a2, c2, rfl, hs, hf, u, v⟩, hc, k⟩
  obtain rfl := list_num hc hn
  exact ⟨a1, c1, a2, c2, rfl, hs, hf, roomy _ _ _ u v, k⟩

set_option maxHeartbeats 1000000 in
theorem awake5_any (w : World) : Calls Try.prog 4 #[] w fun e w' => e = .returned (.bool true) ∧ Kp w w' := by
  have hq : (FloatKind.f64.format.order 4622382067542392832 4622382067542392832 == some Ordering.eq) = true := by decide +kernel
  go_enter Try.func4, Try.ntmps4
  go_wp2_with fail
  have P_1 := hide ((((lit_ints w 3 [1, 2] #[.int .i64 1, .int .i64 2] (w.heap.size) 2 rfl rfl rfl (by unfold I64; decide) (by decide)).keep (Kp.alloc (w.alloc (.cells #[.int .i64 1, .int .i64 2] 3)) (.cells #[.float .f64 4607182418800017408, .float .f64 4611686018427387904] 36))).keep (Kp.alloc ((w.alloc (.cells #[.int .i64 1, .int .i64 2] 3)).alloc (.cells #[.float .f64 4607182418800017408, .float .f64 4611686018427387904] 36)) (.cells #[.int .i64 2, .int .i64 1] 3))).keep (Kp.alloc (((w.alloc (.cells #[.int .i64 1, .int .i64 2] 3)).alloc (.cells #[.float .f64 4607182418800017408, .float .f64 4611686018427387904] 36)).alloc (.cells #[.int .i64 2, .int .i64 1] 3)) (.cells #[.float .f64 4613937818241073152, .float .f64 4616189618054758400] 36)))
  have Q_1 := hide (((lit_flts (w.alloc (.cells #[.int .i64 1, .int .i64 2] 3)) 36 [4607182418800017408, 4611686018427387904] #[.float .f64 4607182418800017408, .float .f64 4611686018427387904] (w.heap.size + 1) 2 rfl (by simp) rfl (by unfold W64; decide) (by decide)).keep (Kp.alloc ((w.alloc (.cells #[.int .i64 1, .int .i64 2] 3)).alloc (.cells #[.float .f64 4607182418800017408, .float .f64 4611686018427387904] 36)) (.cells #[.int .i64 2, .int .i64 1] 3))).keep (Kp.alloc (((w.alloc (.cells #[.int .i64 1, .int .i64 2] 3)).alloc (.cells #[.float .f64 4607182418800017408, .float .f64 4611686018427387904] 36)).alloc (.cells #[.int .i64 2, .int .i64 1] 3)) (.cells #[.float .f64 4613937818241073152, .float .f64 4616189618054758400] 36)))
  have U_1 := hide ((lit_ints ((w.alloc (.cells #[.int .i64 1, .int .i64 2] 3)).alloc (.cells #[.float .f64 4607182418800017408, .float .f64 4611686018427387904] 36)) 3 [2, 1] #[.int .i64 2, .int .i64 1] (w.heap.size + 2) 2 rfl (by simp) rfl (by unfold I64; decide) (by decide)).keep (Kp.alloc (((w.alloc (.cells #[.int .i64 1, .int .i64 2] 3)).alloc (.cells #[.float .f64 4607182418800017408, .float .f64 4611686018427387904] 36)).alloc (.cells #[.int .i64 2, .int .i64 1] 3)) (.cells #[.float .f64 4613937818241073152, .float .f64 4616189618054758400] 36)))
  have V_1 := hide (lit_flts (((w.alloc (.cells #[.int .i64 1, .int .i64 2] 3)).alloc (.cells #[.float .f64 4607182418800017408, .float .f64 4611686018427387904] 36)).alloc (.cells #[.int .i64 2, .int .i64 1] 3)) 36 [4613937818241073152, 4616189618054758400] #[.float .f64 4613937818241073152, .float .f64 4616189618054758400] (w.heap.size + 3) 2 rfl (by simp) rfl (by unfold W64; decide) (by decide))
  have q1 := (((Kp.alloc w (.cells #[.int .i64 1, .int .i64 2] 3)).trans (Kp.alloc (w.alloc (.cells #[.int .i64 1, .int .i64 2] 3)) (.cells #[.float .f64 4607182418800017408, .float .f64 4611686018427387904] 36))).trans (Kp.alloc ((w.alloc (.cells #[.int .i64 1, .int .i64 2] 3)).alloc (.cells #[.float .f64 4607182418800017408, .float .f64 4611686018427387904] 36)) (.cells #[.int .i64 2, .int .i64 1] 3))).trans (Kp.alloc (((w.alloc (.cells #[.int .i64 1, .int .i64 2] 3)).alloc (.cells #[.float .f64 4607182418800017408, .float .f64 4611686018427387904] 36)).alloc (.cells #[.int .i64 2, .int .i64 1] 3)) (.cells #[.float .f64 4613937818241073152, .float .f64 4616189618054758400] 36))
  generalize ((((w.alloc (.cells #[.int .i64 1, .int .i64 2] 3)).alloc (.cells #[.float .f64 4607182418800017408, .float .f64 4611686018427387904] 36)).alloc (.cells #[.int .i64 2, .int .i64 1] 3)).alloc (.cells #[.float .f64 4613937818241073152, .float .f64 4616189618054758400] 36)) = w1 at *
  have K1 := hide q1
  clear q1
  generalize w.heap.size + 3 = B_V at *
  generalize w.heap.size + 2 = B_U at *
  generalize w.heap.size + 1 = B_Q at *
  generalize w.heap.size = B_P at *
  refine (mul_known _ _ _ _ [1, 2] [2, 1] [4607182418800017408, 4611686018427387904] [4613937818241073152, 4616189618054758400] [1, 1] [4622382067542392832] 0 w1 (unhide P_1) (unhide Q_1) (roomy _ _ _ (by decide) (by decide)) (unhide U_1) (unhide V_1) (by decide +kernel) (by decide +kernel) (by decide +kernel) (by decide +kernel)).mono ?_
  rintro e w2 ⟨a1, c1, a2, c2, rfl, -, fd, -, k2⟩
  have K2 := hide ((unhide K1).trans k2)
  have P_2 := hide ((unhide P_1).keep k2)
  have Q_2 := hide ((unhide Q_1).keep k2)
  have U_2 := hide ((unhide U_1).keep k2)
  have V_2 := hide ((unhide V_1).keep k2)
  clear K1 P_1 Q_1 U_1 V_1
  clear k2
  have D_2 := hide fd
  clear fd
  clear P_2
  clear Q_2
  clear U_2
  clear V_2
  go_upto_region 2 with fail
  have T_3 := hide (Bx.madeAt w2 (.slice a1 2 c1) (.slice a2 1 c2) (w2.heap.size) rfl)
  have q3 := Kp.alloc w2 (.cells #[(.slice a1 2 c1), (.slice a2 1 c2)] 28)
  generalize (w2.alloc (.cells #[(.slice a1 2 c1), (.slice a2 1 c2)] 28)) = w3 at *
  have K3 := hide ((unhide K2).trans q3)
  have D_3 := hide ((unhide D_2).keep q3)
  clear K2 D_2
  clear q3
  generalize w2.heap.size = B_T at *
  obtain ⟨T0_3, T1_3, -, -, T4_3⟩ := (unhide T_3).o
  obtain ⟨b, off, rfl, -, hc⟩ := flts_at' (unhide D_3) (by decide)
  have hc0 := hc 0 (by decide)
  simp only [List.getD_cons_zero, Nat.add_zero] at hc0
  clear hc
  go_wp2
  go_ret
  exact ⟨rfl, unhide K3⟩

end Go.Proofs.Ythofnmaobmfoiaa
