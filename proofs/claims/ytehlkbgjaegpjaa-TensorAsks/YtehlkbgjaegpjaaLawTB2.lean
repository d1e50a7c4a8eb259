
/- The law TensorAsks, put together. -/
import Derived.Test.YtehlkbgjaegpjaaLawTB
import Derived.Test.YtehlkbgjaegpjaaOpn
namespace Go.Proofs.Ytehlkbgjaegpjaa
open Go.RowKit
set_option linter.unusedVariables false

set_option maxHeartbeats 1000000 in
theorem asks_e1 (p p' q q' r : Option Addr) (c c' g g' f : Nat) (s s2 a : List Int) (d d2 : List Nat) (w : World) (ms : s.length ≤ 9223372036854775807) (md : d.length ≤ 9223372036854775807) (ms2 : s2.length ≤ 9223372036854775807) (md2 : d2.length ≤ 9223372036854775807) (GT : Hid ((decide (s.length ≤ 40) && decide (d.length ≤ 8192)) = false)) :
    Calls Try.prog 4 #[.agg #[.slice p s.length c, .slice p' d.length c'], .agg #[.slice q s2.length g, .slice q' d2.length g'], .slice r a.length f] w fun e w' => e = .returned (.bool true) ∧ Kp w w' := by
    clear ms2 md2
    go_enter Try.func4, Try.ntmps4
    go_wp2_with fail
    have T_1 := hide ((Bx.madeAt w (.slice p s.length c) (.slice p' d.length c') (w.heap.size) rfl).keep (Kp.alloc (w.alloc (.cells #[(.slice p s.length c), (.slice p' d.length c')] 27)) (.cells #[(.slice q s2.length g), (.slice q' d2.length g')] 27)))
    have U_1 := hide (Bx.madeAt (w.alloc (.cells #[(.slice p s.length c), (.slice p' d.length c')] 27)) (.slice q s2.length g) (.slice q' d2.length g') (w.heap.size + 1) (by simp))
    have q1 := (Kp.alloc w (.cells #[(.slice p s.length c), (.slice p' d.length c')] 27)).trans (Kp.alloc (w.alloc (.cells #[(.slice p s.length c), (.slice p' d.length c')] 27)) (.cells #[(.slice q s2.length g), (.slice q' d2.length g')] 27))
    generalize ((w.alloc (.cells #[(.slice p s.length c), (.slice p' d.length c')] 27)).alloc (.cells #[(.slice q s2.length g), (.slice q' d2.length g')] 27)) = w1 at *
    have K1 := hide q1
    clear q1
    generalize w.heap.size + 1 = B_U at *
    generalize w.heap.size = B_T at *
    obtain ⟨T0_1, T1_1, -, -, T4_1⟩ := (unhide T_1).o
    obtain ⟨U0_1, U1_1, -, -, U4_1⟩ := (unhide U_1).o
    refine (awake3_any w1).mono ?_
    rintro e w2 ⟨rfl, k2⟩
    have K2 := hide ((unhide K1).trans k2)
    have T_2 := hide ((unhide T_1).keep k2)
    have U_2 := hide ((unhide U_1).keep k2)
    clear K1 T_1 T0_1 T1_1 T4_1 U_1 U0_1 U1_1 U4_1
    obtain ⟨T0_2, T1_2, -, -, T4_2⟩ := (unhide T_2).o
    obtain ⟨U0_2, U1_2, -, -, U4_2⟩ := (unhide U_2).o
    clear k2
    go_wp2_with fail
    refine (small_any p p' s.length c d.length c' w2 ms md).mono ?_
    rintro e w3 ⟨rfl, k3⟩
    have K3 := hide ((unhide K2).trans k3)
    have T_3 := hide ((unhide T_2).keep k3)
    have U_3 := hide ((unhide U_2).keep k3)
    clear K2 T_2 T0_2 T1_2 T4_2 U_2 U0_2 U1_2 U4_2
    obtain ⟨T0_3, T1_3, -, -, T4_3⟩ := (unhide T_3).o
    obtain ⟨U0_3, U1_3, -, -, U4_3⟩ := (unhide U_3).o
    clear k3
    rw [unhide GT]
    go_wp2
    go_ret
    exact ⟨rfl, unhide K3⟩

set_option maxHeartbeats 1000000 in
theorem asks_e2 (p p' q q' r : Option Addr) (c c' g g' f : Nat) (s s2 a : List Int) (d d2 : List Nat) (w : World) (ms : s.length ≤ 9223372036854775807) (md : d.length ≤ 9223372036854775807) (ms2 : s2.length ≤ 9223372036854775807) (md2 : d2.length ≤ 9223372036854775807) (GT : Hid ((decide (s.length ≤ 40) && decide (d.length ≤ 8192)) = true)) (GU : Hid ((decide (s2.length ≤ 40) && decide (d2.length ≤ 8192)) = false)) :
    Calls Try.prog 4 #[.agg #[.slice p s.length c, .slice p' d.length c'], .agg #[.slice q s2.length g, .slice q' d2.length g'], .slice r a.length f] w fun e w' => e = .returned (.bool true) ∧ Kp w w' := by
    go_enter Try.func4, Try.ntmps4
    go_wp2_with fail
    have T_1 := hide ((Bx.madeAt w (.slice p s.length c) (.slice p' d.length c') (w.heap.size) rfl).keep (Kp.alloc (w.alloc (.cells #[(.slice p s.length c), (.slice p' d.length c')] 27)) (.cells #[(.slice q s2.length g), (.slice q' d2.length g')] 27)))
    have U_1 := hide (Bx.madeAt (w.alloc (.cells #[(.slice p s.length c), (.slice p' d.length c')] 27)) (.slice q s2.length g) (.slice q' d2.length g') (w.heap.size + 1) (by simp))
    have q1 := (Kp.alloc w (.cells #[(.slice p s.length c), (.slice p' d.length c')] 27)).trans (Kp.alloc (w.alloc (.cells #[(.slice p s.length c), (.slice p' d.length c')] 27)) (.cells #[(.slice q s2.length g), (.slice q' d2.length g')] 27))
    generalize ((w.alloc (.cells #[(.slice p s.length c), (.slice p' d.length c')] 27)).alloc (.cells #[(.slice q s2.length g), (.slice q' d2.length g')] 27)) = w1 at *
    have K1 := hide q1
    clear q1
    generalize w.heap.size + 1 = B_U at *
    generalize w.heap.size = B_T at *
    obtain ⟨T0_1, T1_1, -, -, T4_1⟩ := (unhide T_1).o
    obtain ⟨U0_1, U1_1, -, -, U4_1⟩ := (unhide U_1).o
    refine (awake3_any w1).mono ?_
    rintro e w2 ⟨rfl, k2⟩
    have K2 := hide ((unhide K1).trans k2)
    have T_2 := hide ((unhide T_1).keep k2)
    have U_2 := hide ((unhide U_1).keep k2)
    clear K1 T_1 T0_1 T1_1 T4_1 U_1 U0_1 U1_1 U4_1
    obtain ⟨T0_2, T1_2, -, -, T4_2⟩ := (unhide T_2).o
    obtain ⟨U0_2, U1_2, -, -, U4_2⟩ := (unhide U_2).o
    clear k2
    go_wp2_with fail
    refine (small_any p p' s.length c d.length c' w2 ms md).mono ?_
    rintro e w3 ⟨rfl, k3⟩
    have K3 := hide ((unhide K2).trans k3)
    have T_3 := hide ((unhide T_2).keep k3)
    have U_3 := hide ((unhide U_2).keep k3)
    clear K2 T_2 T0_2 T1_2 T4_2 U_2 U0_2 U1_2 U4_2
    obtain ⟨T0_3, T1_3, -, -, T4_3⟩ := (unhide T_3).o
    obtain ⟨U0_3, U1_3, -, -, U4_3⟩ := (unhide U_3).o
    clear k3
    rw [unhide GT]
    go_wp2_with fail
    refine (small_any q q' s2.length g d2.length g' w3 ms2 md2).mono ?_
    rintro e w4 ⟨rfl, k4⟩
    have K4 := hide ((unhide K3).trans k4)
    have T_4 := hide ((unhide T_3).keep k4)
    have U_4 := hide ((unhide U_3).keep k4)
    clear K3 T_3 T0_3 T1_3 T4_3 U_3 U0_3 U1_3 U4_3
    obtain ⟨T0_4, T1_4, -, -, T4_4⟩ := (unhide T_4).o
    obtain ⟨U0_4, U1_4, -, -, U4_4⟩ := (unhide U_4).o
    clear k4
    rw [unhide GU]
    go_wp2
    go_ret
    exact ⟨rfl, unhide K4⟩

set_option maxHeartbeats 1000000 in
theorem asks_e3 (p p' q q' r : Option Addr) (c c' g g' f : Nat) (s s2 a : List Int) (d d2 : List Nat) (w : World) (ms : s.length ≤ 9223372036854775807) (md : d.length ≤ 9223372036854775807) (ms2 : s2.length ≤ 9223372036854775807) (md2 : d2.length ≤ 9223372036854775807) (GT : Hid ((decide (s.length ≤ 40) && decide (d.length ≤ 8192)) = true)) (GU : Hid ((decide (s2.length ≤ 40) && decide (d2.length ≤ 8192)) = true)) (ma : (40 : Int) < (a.length : Int)) (ma2 : a.length ≤ 9223372036854775807) :
    Calls Try.prog 4 #[.agg #[.slice p s.length c, .slice p' d.length c'], .agg #[.slice q s2.length g, .slice q' d2.length g'], .slice r a.length f] w fun e w' => e = .returned (.bool true) ∧ Kp w w' := by
    go_enter Try.func4, Try.ntmps4
    go_wp2_with fail
    have T_1 := hide ((Bx.madeAt w (.slice p s.length c) (.slice p' d.length c') (w.heap.size) rfl).keep (Kp.alloc (w.alloc (.cells #[(.slice p s.length c), (.slice p' d.length c')] 27)) (.cells #[(.slice q s2.length g), (.slice q' d2.length g')] 27)))
    have U_1 := hide (Bx.madeAt (w.alloc (.cells #[(.slice p s.length c), (.slice p' d.length c')] 27)) (.slice q s2.length g) (.slice q' d2.length g') (w.heap.size + 1) (by simp))
    have q1 := (Kp.alloc w (.cells #[(.slice p s.length c), (.slice p' d.length c')] 27)).trans (Kp.alloc (w.alloc (.cells #[(.slice p s.length c), (.slice p' d.length c')] 27)) (.cells #[(.slice q s2.length g), (.slice q' d2.length g')] 27))
    generalize ((w.alloc (.cells #[(.slice p s.length c), (.slice p' d.length c')] 27)).alloc (.cells #[(.slice q s2.length g), (.slice q' d2.length g')] 27)) = w1 at *
    have K1 := hide q1
    clear q1
    generalize w.heap.size + 1 = B_U at *
    generalize w.heap.size = B_T at *
    obtain ⟨T0_1, T1_1, -, -, T4_1⟩ := (unhide T_1).o
    obtain ⟨U0_1, U1_1, -, -, U4_1⟩ := (unhide U_1).o
    refine (awake3_any w1).mono ?_
    rintro e w2 ⟨rfl, k2⟩
    have K2 := hide ((unhide K1).trans k2)
    have T_2 := hide ((unhide T_1).keep k2)
    have U_2 := hide ((unhide U_1).keep k2)
    clear K1 T_1 T0_1 T1_1 T4_1 U_1 U0_1 U1_1 U4_1
    obtain ⟨T0_2, T1_2, -, -, T4_2⟩ := (unhide T_2).o
    obtain ⟨U0_2, U1_2, -, -, U4_2⟩ := (unhide U_2).o
    clear k2
    go_wp2_with fail
    refine (small_any p p' s.length c d.length c' w2 ms md).mono ?_
    rintro e w3 ⟨rfl, k3⟩
    have K3 := hide ((unhide K2).trans k3)
    have T_3 := hide ((unhide T_2).keep k3)
    have U_3 := hide ((unhide U_2).keep k3)
    clear K2 T_2 T0_2 T1_2 T4_2 U_2 U0_2 U1_2 U4_2
    obtain ⟨T0_3, T1_3, -, -, T4_3⟩ := (unhide T_3).o
    obtain ⟨U0_3, U1_3, -, -, U4_3⟩ := (unhide U_3).o
    clear k3
    rw [unhide GT]
    go_wp2_with fail
    refine (small_any q q' s2.length g d2.length g' w3 ms2 md2).mono ?_
    rintro e w4 ⟨rfl, k4⟩
    have K4 := hide ((unhide K3).trans k4)
    have T_4 := hide ((unhide T_3).keep k4)
    have U_4 := hide ((unhide U_3).keep k4)
    clear K3 T_3 T0_3 T1_3 T4_3 U_3 U0_3 U1_3 U4_3
    obtain ⟨T0_4, T1_4, -, -, T4_4⟩ := (unhide T_4).o
    obtain ⟨U0_4, U1_4, -, -, U4_4⟩ := (unhide U_4).o
    clear k4
    rw [unhide GU]
    go_wp2
    go_ret
    exact ⟨rfl, unhide K4⟩

theorem asks_walk (p p' q q' r : Option Addr) (c c' g g' f : Nat) (s s2 a : List Int) (d d2 : List Nat) (w : World) (ms : s.length ≤ 9223372036854775807) (md : d.length ≤ 9223372036854775807) (ms2 : s2.length ≤ 9223372036854775807) (md2 : d2.length ≤ 9223372036854775807) (ma : a.length ≤ 9223372036854775807)
    (hS : s.length ≤ 1000000 → Ints w (.slice p s.length c) s) (hD : d.length ≤ 1000000 → Flts w (.slice p' d.length c') d) (hP : s2.length ≤ 1000000 → Ints w (.slice q s2.length g) s2) (hE : d2.length ≤ 1000000 → Flts w (.slice q' d2.length g') d2) (hA : a.length ≤ 1000000 → Ints w (.slice r a.length f) a) :
    Calls Try.prog 4 #[.agg #[.slice p s.length c, .slice p' d.length c'], .agg #[.slice q s2.length g, .slice q' d2.length g'], .slice r a.length f] w fun e w' => e = .returned (.bool true) ∧ Kp w w' := by
  by_cases g1 : s.length ≤ 40 ∧ d.length ≤ 8192
  · have GT : Hid ((decide (s.length ≤ 40) && decide (d.length ≤ 8192)) = true) := by unfold Hid; rw [decide_eq_true g1.1, decide_eq_true g1.2]; rfl
    by_cases g2 : s2.length ≤ 40 ∧ d2.length ≤ 8192
    · have GU : Hid ((decide (s2.length ≤ 40) && decide (d2.length ≤ 8192)) = true) := by unfold Hid; rw [decide_eq_true g2.1, decide_eq_true g2.2]; rfl
      by_cases g3 : a.length ≤ 40
      · have S0 := hS (by omega)
        have D0 := hD (by omega)
        have P0 := hP (by omega)
        have E0 := hE (by omega)
        have A0 := hA (by omega)
        cases hm : mayT s d
        · exact asks_no p p' q q' r c c' g g' f s s2 a d d2 w ms md ms2 md2 (by omega) S0 D0 P0 E0 A0 GT GU hm
        · by_cases hi : ixN s a < 0
          · exact asks_out p p' q q' r c c' g g' f s s2 a d d2 w ms md ms2 md2 (by omega) S0 D0 P0 E0 A0 GT GU hm hi
          · have hk := ix_lt hm (Int.not_lt.1 hi)
            have AT := at_in hm (Int.not_lt.1 hi)
            obtain ⟨b, off, rfl, _⟩ := flts_cell D0 _ hk w (Kp.refl w)
            obtain ⟨k, e⟩ := Int.eq_ofNat_of_zero_le (Int.not_lt.1 hi)
            rw [e, Int.toNat_natCast] at hk AT
            exact asks_in p q q' r c c' g g' f s s2 a d d2 b off k w ms md ms2 md2 (by omega) S0 D0 P0 E0 A0 GT GU hm hk e AT
      · exact asks_e3 p p' q q' r c c' g g' f s s2 a d d2 w ms md ms2 md2 GT GU (by omega) ma
    · have GU : Hid ((decide (s2.length ≤ 40) && decide (d2.length ≤ 8192)) = false) := by
        unfold Hid
        cases h : (decide (s2.length ≤ 40) && decide (d2.length ≤ 8192))
        · rfl
        · simp at h; omega
      exact asks_e2 p p' q q' r c c' g g' f s s2 a d d2 w ms md ms2 md2 GT GU
  · have GT : Hid ((decide (s.length ≤ 40) && decide (d.length ≤ 8192)) = false) := by
      unfold Hid
      cases h : (decide (s.length ≤ 40) && decide (d.length ≤ 8192))
      · rfl
      · simp at h; omega
    exact asks_e1 p p' q q' r c c' g g' f s s2 a d d2 w ms md ms2 md2 GT

end Go.Proofs.Ytehlkbgjaegpjaa
