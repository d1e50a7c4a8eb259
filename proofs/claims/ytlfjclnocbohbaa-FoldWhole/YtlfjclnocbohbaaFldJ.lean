
/- The document's own case of slots, as the laws of fold ask for it first. -/
import Derived.Test.YtlfjclnocbohbaaFldI
namespace Go.Proofs.Ytlfjclnocbohbaa
open Go.RowKit

theorem list_num8 : ∀ {ds L : List Nat}, ds.map cn = L → L.all (fun x => !nanW x) = true → ds = L
  | [], [], _, _ => rfl
  | x :: ds, y :: L, h, hn => by
    simp only [List.map_cons, List.cons.injEq] at h
    simp only [List.all_cons, Bool.and_eq_true, Bool.not_eq_true'] at hn
    rw [is_num h.1 rfl hn.1, list_num8 h.2 hn.2]
  | [], _ :: _, h, _ => by simp at h
  | _ :: _, [], h, _ => by simp at h

set_option maxHeartbeats 4000000 in
theorem awake8_any (w : World) : Calls Try.prog 8 #[] w fun e w' => e = .returned (.bool true) ∧ Kp w w' := by
  have hq : (FloatKind.f64.format.order 4613937818241073152 4613937818241073152 == some Ordering.eq) = true := by decide +kernel
  go_enter Try.func8, Try.ntmps8
  go_wp2_with fail
  have p0 := lit_ints w 3 [1] #[.int .i64 1] w.heap.size 1 rfl rfl rfl (by unfold I64; decide) (by decide)
  have P0 := hide p0
  have K0 := hide (Kp.alloc w (.cells #[.int .i64 1] 3))
  clear p0
  generalize w.alloc (.cells #[.int .i64 1] 3) = u0 at *
  refine (fnew_yes _ [1] 2 u0 (unhide P0) (by decide +kernel) (by decide)).mono ?_
  rintro e w1 ⟨B, C, rfl, s1, hC, -, k1⟩
  have S1 : Hid (Slots w1 B C 2 [1] [tnil, tnil]) := s1
  have HC : Hid (w.heap.size ≤ C) := Nat.le_trans (unhide K0).size hC
  have K1 := hide ((unhide K0).trans k1)
  clear s1 hC k1 P0 K0
  go_wp2_with fail
  have P2 := lit_ints w1 3 [1] #[.int .i64 1] w1.heap.size 1 rfl rfl rfl (by unfold I64; decide) (by decide)
  have Q2 := lit_flts (w1.alloc (.cells #[.int .i64 1] 3)) 23 [4611686018427387904] #[.float .f64 4611686018427387904] (w1.heap.size + 1) 1 rfl (by simp) rfl (by unfold W64; decide) (by decide)
  have ka2 := (Kp.alloc w1 (.cells #[.int .i64 1] 3)).trans (Kp.alloc _ (.cells #[.float .f64 4611686018427387904] 23))
  have PP2 := hide (P2.keep (Kp.alloc _ (.cells #[.float .f64 4611686018427387904] 23)))
  have QQ2 := hide Q2
  have SS2 := hide ((unhide S1).keep ka2)
  have KK2 := hide ((unhide K1).trans ka2)
  clear P2 Q2 ka2 S1 K1
  generalize (w1.alloc (.cells #[.int .i64 1] 3)).alloc (.cells #[.float .f64 4611686018427387904] 23) = u2 at *
  refine (put_yes B C 2 [1] [tnil, tnil] 1 ⟨[1], [4611686018427387904]⟩ _ _ u2 (unhide SS2) (unhide PP2) (unhide QQ2) (by decide) rfl (by decide +kernel)).mono ?_
  rintro e w2 ⟨rfl, s2, k2⟩
  have S2 : Hid (Slots w2 B C 2 [1] [tnil, ⟨[1], [4611686018427387904]⟩]) := s2
  have K2 : Hid (Kp w w2) := Kx.after (unhide KK2) k2 (unhide HC)
  clear s2 k2 SS2 KK2 PP2 QQ2
  go_wp2_with fail
  have P3 := lit_ints w2 3 [1] #[.int .i64 1] w2.heap.size 1 rfl rfl rfl (by unfold I64; decide) (by decide)
  have Q3 := lit_flts (w2.alloc (.cells #[.int .i64 1] 3)) 23 [4607182418800017408] #[.float .f64 4607182418800017408] (w2.heap.size + 1) 1 rfl (by simp) rfl (by unfold W64; decide) (by decide)
  have ka3 := (Kp.alloc w2 (.cells #[.int .i64 1] 3)).trans (Kp.alloc _ (.cells #[.float .f64 4607182418800017408] 23))
  have PP3 := hide (P3.keep (Kp.alloc _ (.cells #[.float .f64 4607182418800017408] 23)))
  have QQ3 := hide Q3
  have SS3 := hide ((unhide S2).keep ka3)
  have KK3 := hide ((unhide K2).trans ka3)
  clear P3 Q3 ka3 S2 K2
  generalize (w2.alloc (.cells #[.int .i64 1] 3)).alloc (.cells #[.float .f64 4607182418800017408] 23) = u3 at *
  refine (put_yes B C 2 [1] [tnil, ⟨[1], [4611686018427387904]⟩] 0 ⟨[1], [4607182418800017408]⟩ _ _ u3 (unhide SS3) (unhide PP3) (unhide QQ3) (by decide) rfl (by decide +kernel)).mono ?_
  rintro e w3 ⟨rfl, s3, k3⟩
  have S3 : Hid (Slots w3 B C 2 [1] [⟨[1], [4607182418800017408]⟩, ⟨[1], [4611686018427387904]⟩]) := s3
  have K3 : Hid (Kp w w3) := Kx.after (unhide KK3) k3 (unhide HC)
  clear s3 k3 SS3 KK3 PP3 QQ3
  go_wp2_with fail
  refine (value_all B C 2 [1] [⟨[1], [4607182418800017408]⟩, ⟨[1], [4611686018427387904]⟩] w3 (unhide S3) (by decide) (by decide)).mono ?_
  rw [show trS [⟨[1], [4607182418800017408]⟩, ⟨[1], [4611686018427387904]⟩] = [1] by decide +kernel, show trE [⟨[1], [4607182418800017408]⟩, ⟨[1], [4611686018427387904]⟩] = 0 by decide +kernel, show trD [⟨[1], [4607182418800017408]⟩, ⟨[1], [4611686018427387904]⟩] = [4613937818241073152] by decide +kernel]
  rintro e w4 ⟨ds, ⟨a1, c1, a2, c2, rfl, i1, f1, -, -⟩, hc, k4⟩
  obtain rfl := list_num8 hc (by decide +kernel)
  have K4 := hide ((unhide K3).trans k4)
  have S4 := hide ((unhide S3).keep k4)
  have F4 := hide f1
  clear hc i1 f1 k4 S3 K3
  go_upto_region 7 with fail
  have X5 := hide (Bx.made w4 (.slice a1 1 c1) (.slice a2 1 c2))
  have ka := Kp.alloc w4 (.cells #[.slice a1 1 c1, .slice a2 1 c2] 31)
  have K5 := hide ((unhide K4).trans ka)
  have S5 := hide ((unhide S4).keep ka)
  have F5 := hide ((unhide F4).keep ka)
  have hls : ([1] : List Int).length = 1 := rfl
  clear ka K4 S4 F4
  generalize w4.alloc (.cells #[.slice a1 1 c1, .slice a2 1 c2] 31) = w5 at *
  generalize w4.heap.size = X at *
  go_wp2_with fail
  refine (left_any B C 2 [1] [⟨[1], [4607182418800017408]⟩, ⟨[1], [4611686018427387904]⟩] w5 (unhide S5)).mono ?_
  rw [show vacN [⟨[1], [4607182418800017408]⟩, ⟨[1], [4611686018427387904]⟩] = 0 by decide]
  rintro e w6 ⟨rfl, k6⟩
  have K6 := hide ((unhide K5).trans k6)
  obtain ⟨x0, x1, -, -, -⟩ := ((unhide X5).keep k6).o
  obtain ⟨b, off, rfl, -, hc⟩ := flts_at' ((unhide F5).keep k6) (by decide)
  have hc0 := hc 0 (by decide)
  simp only [List.getD_cons_zero, Nat.add_zero] at hc0
  clear hc k6
  go_wp2
  go_ret
  exact ⟨rfl, unhide K6⟩

end Go.Proofs.Ytlfjclnocbohbaa
