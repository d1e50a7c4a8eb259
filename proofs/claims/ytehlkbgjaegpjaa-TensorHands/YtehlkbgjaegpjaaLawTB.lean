
/- The law TensorAsks, walked. -/
import Derived.Test.YtehlkbgjaegpjaaLawTA
import Derived.Deep.RegionHeld3
namespace Go.Proofs.Ytehlkbgjaegpjaa
open Go.RowKit

set_option maxHeartbeats 4000000 in
theorem asks_no (p p' q q' r : Option Addr) (c c' g g' f : Nat) (s s2 a : List Int) (d d2 : List Nat) (w : World) (ms : s.length ≤ 9223372036854775807) (md : d.length ≤ 9223372036854775807) (ms2 : s2.length ≤ 9223372036854775807) (md2 : d2.length ≤ 9223372036854775807) (ma : (a.length : Int) ≤ 40)
    (S_0 : Hid (Ints w (.slice p s.length c) s)) (D_0 : Hid (Flts w (.slice p' d.length c') d)) (P_0 : Hid (Ints w (.slice q s2.length g) s2)) (E_0 : Hid (Flts w (.slice q' d2.length g') d2)) (A_0 : Hid (Ints w (.slice r a.length f) a))
    (GT : Hid ((decide (s.length ≤ 40) && decide (d.length ≤ 8192)) = true)) (GU : Hid ((decide (s2.length ≤ 40) && decide (d2.length ≤ 8192)) = true)) (HM : Hid (mayT s d = false)) :
    Calls Try.prog 4 #[.agg #[.slice p s.length c, .slice p' d.length c'], .agg #[.slice q s2.length g, .slice q' d2.length g'], .slice r a.length f] w fun e w' => e = .returned (.bool true) ∧ Kp w w' := by
    have AT := hide (at_no (a := a) (unhide HM))
    have ma' : decide ((40 : Int) < (a.length : Int)) = false := decide_eq_false (by omega)
    have ma2 : ¬ ((40 : Int) < (a.length : Int)) := by omega
    go_enter Try.func4, Try.ntmps4
    go_wp2_with fail
    have T_1 := hide ((Bx.madeAt w (.slice p s.length c) (.slice p' d.length c') (w.heap.size) rfl).keep (Kp.alloc (w.alloc (.cells #[(.slice p s.length c), (.slice p' d.length c')] 27)) (.cells #[(.slice q s2.length g), (.slice q' d2.length g')] 27)))
    have U_1 := hide (Bx.madeAt (w.alloc (.cells #[(.slice p s.length c), (.slice p' d.length c')] 27)) (.slice q s2.length g) (.slice q' d2.length g') (w.heap.size + 1) (by simp))
    have q1 := (Kp.alloc w (.cells #[(.slice p s.length c), (.slice p' d.length c')] 27)).trans (Kp.alloc (w.alloc (.cells #[(.slice p s.length c), (.slice p' d.length c')] 27)) (.cells #[(.slice q s2.length g), (.slice q' d2.length g')] 27))
    generalize ((w.alloc (.cells #[(.slice p s.length c), (.slice p' d.length c')] 27)).alloc (.cells #[(.slice q s2.length g), (.slice q' d2.length g')] 27)) = w1 at *
    have K1 := hide q1
    have S_1 := hide ((unhide S_0).keep q1)
    have D_1 := hide ((unhide D_0).keep q1)
    have P_1 := hide ((unhide P_0).keep q1)
    have E_1 := hide ((unhide E_0).keep q1)
    have A_1 := hide ((unhide A_0).keep q1)
    clear S_0 D_0 P_0 E_0 A_0
    clear q1
    generalize w.heap.size + 1 = B_U at *
    generalize w.heap.size = B_T at *
    obtain ⟨T0_1, T1_1, -, -, T4_1⟩ := (unhide T_1).o
    obtain ⟨U0_1, U1_1, -, -, U4_1⟩ := (unhide U_1).o
    refine (awake3_any w1).mono ?_
    rintro e w2 ⟨rfl, k2⟩
    have K2 := hide ((unhide K1).trans k2)
    have S_2 := hide ((unhide S_1).keep k2)
    have D_2 := hide ((unhide D_1).keep k2)
    have P_2 := hide ((unhide P_1).keep k2)
    have E_2 := hide ((unhide E_1).keep k2)
    have A_2 := hide ((unhide A_1).keep k2)
    have T_2 := hide ((unhide T_1).keep k2)
    have U_2 := hide ((unhide U_1).keep k2)
    clear K1 S_1 D_1 P_1 E_1 A_1 T_1 T0_1 T1_1 T4_1 U_1 U0_1 U1_1 U4_1
    obtain ⟨T0_2, T1_2, -, -, T4_2⟩ := (unhide T_2).o
    obtain ⟨U0_2, U1_2, -, -, U4_2⟩ := (unhide U_2).o
    clear k2
    go_wp2_with fail
    refine (small_any p p' s.length c d.length c' w2 ms md).mono ?_
    rintro e w3 ⟨rfl, k3⟩
    have K3 := hide ((unhide K2).trans k3)
    have S_3 := hide ((unhide S_2).keep k3)
    have D_3 := hide ((unhide D_2).keep k3)
    have P_3 := hide ((unhide P_2).keep k3)
    have E_3 := hide ((unhide E_2).keep k3)
    have A_3 := hide ((unhide A_2).keep k3)
    have T_3 := hide ((unhide T_2).keep k3)
    have U_3 := hide ((unhide U_2).keep k3)
    clear K2 S_2 D_2 P_2 E_2 A_2 T_2 T0_2 T1_2 T4_2 U_2 U0_2 U1_2 U4_2
    obtain ⟨T0_3, T1_3, -, -, T4_3⟩ := (unhide T_3).o
    obtain ⟨U0_3, U1_3, -, -, U4_3⟩ := (unhide U_3).o
    clear k3
    rw [unhide GT]
    go_wp2_with fail
    refine (small_any q q' s2.length g d2.length g' w3 ms2 md2).mono ?_
    rintro e w4 ⟨rfl, k4⟩
    have K4 := hide ((unhide K3).trans k4)
    have S_4 := hide ((unhide S_3).keep k4)
    have D_4 := hide ((unhide D_3).keep k4)
    have P_4 := hide ((unhide P_3).keep k4)
    have E_4 := hide ((unhide E_3).keep k4)
    have A_4 := hide ((unhide A_3).keep k4)
    have T_4 := hide ((unhide T_3).keep k4)
    have U_4 := hide ((unhide U_3).keep k4)
    clear K3 S_3 D_3 P_3 E_3 A_3 T_3 T0_3 T1_3 T4_3 U_3 U0_3 U1_3 U4_3
    obtain ⟨T0_4, T1_4, -, -, T4_4⟩ := (unhide T_4).o
    obtain ⟨U0_4, U1_4, -, -, U4_4⟩ := (unhide U_4).o
    clear k4
    rw [unhide GU]
    go_wp2_with fail
    refine (rmayT_any _ _ s d w4 (unhide S_4) (unhide D_4)).mono ?_
    rw [unhide HM]
    rintro e w5 ⟨rfl, k5⟩
    have K5 := hide ((unhide K4).trans k5)
    have S_5 := hide ((unhide S_4).keep k5)
    have D_5 := hide ((unhide D_4).keep k5)
    have P_5 := hide ((unhide P_4).keep k5)
    have E_5 := hide ((unhide E_4).keep k5)
    have A_5 := hide ((unhide A_4).keep k5)
    have T_5 := hide ((unhide T_4).keep k5)
    have U_5 := hide ((unhide U_4).keep k5)
    clear K4 S_4 D_4 P_4 E_4 A_4 T_4 T0_4 T1_4 T4_4 U_4 U0_4 U1_4 U4_4
    obtain ⟨T0_5, T1_5, -, -, T4_5⟩ := (unhide T_5).o
    obtain ⟨U0_5, U1_5, -, -, U4_5⟩ := (unhide U_5).o
    clear k5
    go_wp2_with fail
    refine (at_any _ _ _ s d a w5 (unhide S_5) (unhide D_5) (unhide A_5)).mono ?_
    rw [(unhide AT).1, (unhide AT).2]
    rintro e w6 ⟨rfl, k6⟩
    have K6 := hide ((unhide K5).trans k6)
    have S_6 := hide ((unhide S_5).keep k6)
    have D_6 := hide ((unhide D_5).keep k6)
    have P_6 := hide ((unhide P_5).keep k6)
    have E_6 := hide ((unhide E_5).keep k6)
    have A_6 := hide ((unhide A_5).keep k6)
    have T_6 := hide ((unhide T_5).keep k6)
    have U_6 := hide ((unhide U_5).keep k6)
    clear K5 S_5 D_5 P_5 E_5 A_5 T_5 T0_5 T1_5 T4_5 U_5 U0_5 U1_5 U4_5
    obtain ⟨T0_6, T1_6, -, -, T4_6⟩ := (unhide T_6).o
    obtain ⟨U0_6, U1_6, -, -, U4_6⟩ := (unhide U_6).o
    clear k6
    go_wp2_with fail
    refine (rindex_any _ _ s a w6 (unhide S_6) (unhide A_6)).mono ?_
    rintro e w7 ⟨rfl, k7⟩
    have K7 := hide ((unhide K6).trans k7)
    have S_7 := hide ((unhide S_6).keep k7)
    have D_7 := hide ((unhide D_6).keep k7)
    have P_7 := hide ((unhide P_6).keep k7)
    have E_7 := hide ((unhide E_6).keep k7)
    have A_7 := hide ((unhide A_6).keep k7)
    have T_7 := hide ((unhide T_6).keep k7)
    have U_7 := hide ((unhide U_6).keep k7)
    clear K6 S_6 D_6 P_6 E_6 A_6 T_6 T0_6 T1_6 T4_6 U_6 U0_6 U1_6 U4_6
    obtain ⟨T0_7, T1_7, -, -, T4_7⟩ := (unhide T_7).o
    obtain ⟨U0_7, U1_7, -, -, U4_7⟩ := (unhide U_7).o
    clear k7
    generalize ixN s a = k at *
    go_wp2_with fail
    refine (map_no (.func 20) #[] _ _ s d w7 (unhide S_7) (unhide D_7) (unhide HM)).mono ?_
    rintro e w8 ⟨rfl, k8⟩
    have K8 := hide ((unhide K7).trans k8)
    have S_8 := hide ((unhide S_7).keep k8)
    have D_8 := hide ((unhide D_7).keep k8)
    have P_8 := hide ((unhide P_7).keep k8)
    have E_8 := hide ((unhide E_7).keep k8)
    have A_8 := hide ((unhide A_7).keep k8)
    have T_8 := hide ((unhide T_7).keep k8)
    have U_8 := hide ((unhide U_7).keep k8)
    clear K7 S_7 D_7 P_7 E_7 A_7 T_7 T0_7 T1_7 T4_7 U_7 U0_7 U1_7 U4_7
    obtain ⟨T0_8, T1_8, -, -, T4_8⟩ := (unhide T_8).o
    obtain ⟨U0_8, U1_8, -, -, U4_8⟩ := (unhide U_8).o
    clear k8
    go_wp2_with fail
    have M_9 := hide (Bx.madeAt w8 (.slice none 0 0) (.slice none 0 0) (w8.heap.size) rfl)
    have q9 := Kp.alloc w8 (.cells #[(.slice none 0 0), (.slice none 0 0)] 27)
    generalize (w8.alloc (.cells #[(.slice none 0 0), (.slice none 0 0)] 27)) = w9 at *
    have K9 := hide ((unhide K8).trans q9)
    have S_9 := hide ((unhide S_8).keep q9)
    have D_9 := hide ((unhide D_8).keep q9)
    have P_9 := hide ((unhide P_8).keep q9)
    have E_9 := hide ((unhide E_8).keep q9)
    have A_9 := hide ((unhide A_8).keep q9)
    have T_9 := hide ((unhide T_8).keep q9)
    have U_9 := hide ((unhide U_8).keep q9)
    clear K8 S_8 D_8 P_8 E_8 A_8 T_8 T0_8 T1_8 T4_8 U_8 U0_8 U1_8 U4_8
    obtain ⟨T0_9, T1_9, -, -, T4_9⟩ := (unhide T_9).o
    obtain ⟨U0_9, U1_9, -, -, U4_9⟩ := (unhide U_9).o
    clear q9
    generalize w8.heap.size = B_M at *
    obtain ⟨M0_9, M1_9, -, -, M4_9⟩ := (unhide M_9).o
    go_wp2
    go_loopw [12] (fun i wr => i = .int .i64 0 ∧ w9 = wr) (fun i _ => 0)
    case atStart => exact ⟨rfl, rfl⟩
    case round =>
      obtain ⟨rfl, rfl⟩ := hrel
      go_wp2
      have hfld : ∀ w : World, (Instr.field 27 (.agg #[.slice none 0 0, .slice none 0 0]) 1).run Try.prog w = .ok (.slice none 0 0) w := fun _ => by kernel_rfl
      have C1 := hide (fun w0 (kp : Kp w9 w0) => (mayT_any (.slice p s.length c) (.slice p' d.length c') s d w0 ((unhide S_9).keep kp) ((unhide D_9).keep kp)).mono (R' := fun e w' => e = .returned (.bool (mayT s d)) ∧ Hid (Kp w9 w') ∧ BxO w' B_T (.slice p s.length c) (.slice p' d.length c') ∧ BxO w' B_U (.slice q s2.length g) (.slice q' d2.length g')) (by
        rintro e w' ⟨rfl, k⟩
        exact ⟨rfl, kp.trans k, ((unhide T_9).keep (kp.trans k)).o, ((unhide U_9).keep (kp.trans k)).o⟩))
      have C2 := hide (fun w0 (kp : Kp w9 w0) => (sameT_any (.slice p s.length c) (.slice p' d.length c') (.slice q s2.length g) (.slice q' d2.length g') s d s2 d2 w0 ((unhide S_9).keep kp) ((unhide D_9).keep kp) ((unhide P_9).keep kp) ((unhide E_9).keep kp)).mono (R' := fun e w' => e = .returned (.bool (sameT s d s2 d2)) ∧ Hid (Kp w9 w') ∧ BxO w' B_T (.slice p s.length c) (.slice p' d.length c') ∧ BxO w' B_U (.slice q s2.length g) (.slice q' d2.length g')) (by
        rintro e w' ⟨rfl, k⟩
        exact ⟨rfl, kp.trans k, ((unhide T_9).keep (kp.trans k)).o, ((unhide U_9).keep (kp.trans k)).o⟩))
      have C3 := hide (fun w0 (kp : Kp w9 w0) => (rsameT_any (.slice p s.length c) (.slice p' d.length c') (.slice q s2.length g) (.slice q' d2.length g') s d s2 d2 w0 ((unhide S_9).keep kp) ((unhide D_9).keep kp) ((unhide P_9).keep kp) ((unhide E_9).keep kp)).mono (R' := fun e w' => e = .returned (.bool (sameT s d s2 d2)) ∧ Hid (Kp w9 w') ∧ BxO w' B_T (.slice p s.length c) (.slice p' d.length c') ∧ BxO w' B_U (.slice q s2.length g) (.slice q' d2.length g')) (by
        rintro e w' ⟨rfl, k⟩
        exact ⟨rfl, kp.trans k, ((unhide T_9).keep (kp.trans k)).o, ((unhide U_9).keep (kp.trans k)).o⟩))
      have C4 := hide (fun w0 (kp : Kp w9 w0) => (finT_any (.slice p s.length c) (.slice p' d.length c') s d w0 ((unhide S_9).keep kp) ((unhide D_9).keep kp)).mono (R' := fun e w' => e = .returned (.bool (finT s d)) ∧ Hid (Kp w9 w') ∧ BxO w' B_T (.slice p s.length c) (.slice p' d.length c') ∧ BxO w' B_U (.slice q s2.length g) (.slice q' d2.length g')) (by
        rintro e w' ⟨rfl, k⟩
        exact ⟨rfl, kp.trans k, ((unhide T_9).keep (kp.trans k)).o, ((unhide U_9).keep (kp.trans k)).o⟩))
      have C5 := hide (fun w0 (kp : Kp w9 w0) => (rfinT_any (.slice p s.length c) (.slice p' d.length c') s d w0 ((unhide S_9).keep kp) ((unhide D_9).keep kp)).mono (R' := fun e w' => e = .returned (.bool (finT s d)) ∧ Hid (Kp w9 w') ∧ BxO w' B_T (.slice p s.length c) (.slice p' d.length c') ∧ BxO w' B_U (.slice q s2.length g) (.slice q' d2.length g')) (by
        rintro e w' ⟨rfl, k⟩
        exact ⟨rfl, kp.trans k, ((unhide T_9).keep (kp.trans k)).o, ((unhide U_9).keep (kp.trans k)).o⟩))
      have C6 := hide (fun w0 (kp : Kp w9 w0) => (map_nil (.slice p s.length c) (.slice p' d.length c') w0).mono (R' := fun e w' => e = .returned (.agg #[.slice none 0 0, .slice none 0 0]) ∧ Hid (Kp w9 w') ∧ BxO w' B_T (.slice p s.length c) (.slice p' d.length c') ∧ BxO w' B_U (.slice q s2.length g) (.slice q' d2.length g')) (by
        rintro e w' ⟨rfl, k⟩
        exact ⟨rfl, kp.trans k, ((unhide T_9).keep (kp.trans k)).o, ((unhide U_9).keep (kp.trans k)).o⟩))
      rw [unhide HM] at C1
      generalize sameT s d s2 d2 = b2 at *
      generalize finT s d = b3 at *
      go_region_held3 (fun w' => w'.cell? ⟨B_T, 0, none⟩ = some (.slice p s.length c) ∧ w'.cell? ⟨B_T, 1, none⟩ = some (.slice p' d.length c') ∧ w'.cell? ⟨B_U, 0, none⟩ = some (.slice q s2.length g) ∧ w'.cell? ⟨B_U, 1, none⟩ = some (.slice q' d2.length g')) (go_keep)
        (first
          | (go_at_call 21; refine ((unhide C1) _ ?_).mono ?_; (first | (exact unhide (by assumption)) | exact Kp.drew w9); rintro e x1 ⟨rfl, KX, ⟨t0, t1, -, -, -⟩, ⟨u0, u1, -, -, -⟩⟩)
          | (go_at_call 22; refine ((unhide C2) _ ?_).mono ?_; (first | (exact unhide (by assumption)) | exact Kp.drew w9); rintro e x2 ⟨rfl, KX, ⟨t0, t1, -, -, -⟩, ⟨u0, u1, -, -, -⟩⟩)
          | (go_at_call 12; refine ((unhide C3) _ ?_).mono ?_; (first | (exact unhide (by assumption)) | exact Kp.drew w9); rintro e x3 ⟨rfl, KX, ⟨t0, t1, -, -, -⟩, ⟨u0, u1, -, -, -⟩⟩)
          | (go_at_call 23; refine ((unhide C4) _ ?_).mono ?_; (first | (exact unhide (by assumption)) | exact Kp.drew w9); rintro e x4 ⟨rfl, KX, ⟨t0, t1, -, -, -⟩, ⟨u0, u1, -, -, -⟩⟩)
          | (go_at_call 24; refine ((unhide C5) _ ?_).mono ?_; (first | (exact unhide (by assumption)) | exact Kp.drew w9); rintro e x5 ⟨rfl, KX, ⟨t0, t1, -, -, -⟩, ⟨u0, u1, -, -, -⟩⟩)
          | (go_at_call 19; refine ((unhide C6) _ ?_).mono ?_; (first | (exact unhide (by assumption)) | exact Kp.drew w9); rintro e x6 ⟨rfl, KX, ⟨t0, t1, -, -, -⟩, ⟨u0, u1, -, -, -⟩⟩))
      all_goals go_wp2
      all_goals go_ret
      all_goals exact ⟨rfl, (unhide K9).trans (unhide KX)⟩

theorem sameF_refl (x : Nat) : sameF x x = true := sameF_iff.2 rfl
theorem abs_map : Hid (∀ x w1, W64 x → Calls Try.prog 20 (#[] ++ #[.float .f64 x]) w1 fun e w2 => ∃ r, e = .returned (.float .f64 r) ∧ (r = absN x ∧ W64 r) ∧ Kp w1 w2) := by
  intro x w1 hx
  refine (abs_any x w1 hx).mono ?_
  rintro e w2 ⟨rfl, rfl⟩
  exact ⟨_, rfl, ⟨rfl, absN_w64 hx⟩, Kp.refl _⟩
/-- a cell of a row of numbers, wherever it lies -/
theorem flts_cell {w : World} {p : Option Addr} {n c : Nat} {d : List Nat} (h : Flts w (.slice p n c) d) (j : Nat) (hj : j < d.length) (w' : World) (k : Kp w w') : ∃ b off, p = some ⟨b, off, none⟩ ∧ w'.cell? ⟨b, off + j, none⟩ = some (.float .f64 (d.getD j 0)) := by
  obtain ⟨_, _, _, a, cap, e, hv⟩ := h
  cases e
  obtain ⟨b, off, e1, hb, hc⟩ := hv (by omega)
  exact ⟨b, off, e1, (Below.cell k (p := ⟨b, off + j, none⟩) hb).trans (hc j hj)⟩

set_option maxHeartbeats 4000000 in
theorem asks_out (p p' q q' r : Option Addr) (c c' g g' f : Nat) (s s2 a : List Int) (d d2 : List Nat) (w : World) (ms : s.length ≤ 9223372036854775807) (md : d.length ≤ 9223372036854775807) (ms2 : s2.length ≤ 9223372036854775807) (md2 : d2.length ≤ 9223372036854775807) (ma : (a.length : Int) ≤ 40)
    (S_0 : Hid (Ints w (.slice p s.length c) s)) (D_0 : Hid (Flts w (.slice p' d.length c') d)) (P_0 : Hid (Ints w (.slice q s2.length g) s2)) (E_0 : Hid (Flts w (.slice q' d2.length g') d2)) (A_0 : Hid (Ints w (.slice r a.length f) a))
    (GT : Hid ((decide (s.length ≤ 40) && decide (d.length ≤ 8192)) = true)) (GU : Hid ((decide (s2.length ≤ 40) && decide (d2.length ≤ 8192)) = true)) (HM : Hid (mayT s d = true)) (HI : Hid (ixN s a < 0)) :
    Calls Try.prog 4 #[.agg #[.slice p s.length c, .slice p' d.length c'], .agg #[.slice q s2.length g, .slice q' d2.length g'], .slice r a.length f] w fun e w' => e = .returned (.bool true) ∧ Kp w w' := by
    have ma' : decide ((40 : Int) < (a.length : Int)) = false := decide_eq_false (by omega)
    have ma2 : ¬ ((40 : Int) < (a.length : Int)) := by omega
    have HP := hide (mayT_pos (unhide HM))
    have WD := hide (fun j (hj : j < d.length) => (unhide D_0).getD hj)
    have HV := hide (fun j hj w' (k : Kp w w') => flts_cell (unhide D_0) j hj w' k)
    have AT := hide (at_out (d := d) (unhide HI))
    have hkn : ¬ (0 : Int) ≤ ixN s a := by have := unhide HI; omega
    have hkn' : decide ((0 : Int) ≤ ixN s a) = false := decide_eq_false hkn
    go_enter Try.func4, Try.ntmps4
    go_wp2_with fail
    have T_1 := hide ((Bx.madeAt w (.slice p s.length c) (.slice p' d.length c') (w.heap.size) rfl).keep (Kp.alloc (w.alloc (.cells #[(.slice p s.length c), (.slice p' d.length c')] 27)) (.cells #[(.slice q s2.length g), (.slice q' d2.length g')] 27)))
    have U_1 := hide (Bx.madeAt (w.alloc (.cells #[(.slice p s.length c), (.slice p' d.length c')] 27)) (.slice q s2.length g) (.slice q' d2.length g') (w.heap.size + 1) (by simp))
    have q1 := (Kp.alloc w (.cells #[(.slice p s.length c), (.slice p' d.length c')] 27)).trans (Kp.alloc (w.alloc (.cells #[(.slice p s.length c), (.slice p' d.length c')] 27)) (.cells #[(.slice q s2.length g), (.slice q' d2.length g')] 27))
    generalize ((w.alloc (.cells #[(.slice p s.length c), (.slice p' d.length c')] 27)).alloc (.cells #[(.slice q s2.length g), (.slice q' d2.length g')] 27)) = w1 at *
    have K1 := hide q1
    have S_1 := hide ((unhide S_0).keep q1)
    have D_1 := hide ((unhide D_0).keep q1)
    have P_1 := hide ((unhide P_0).keep q1)
    have E_1 := hide ((unhide E_0).keep q1)
    have A_1 := hide ((unhide A_0).keep q1)
    clear S_0 D_0 P_0 E_0 A_0
    clear q1
    generalize w.heap.size + 1 = B_U at *
    generalize w.heap.size = B_T at *
    obtain ⟨T0_1, T1_1, -, -, T4_1⟩ := (unhide T_1).o
    obtain ⟨U0_1, U1_1, -, -, U4_1⟩ := (unhide U_1).o
    refine (awake3_any w1).mono ?_
    rintro e w2 ⟨rfl, k2⟩
    have K2 := hide ((unhide K1).trans k2)
    have S_2 := hide ((unhide S_1).keep k2)
    have D_2 := hide ((unhide D_1).keep k2)
    have P_2 := hide ((unhide P_1).keep k2)
    have E_2 := hide ((unhide E_1).keep k2)
    have A_2 := hide ((unhide A_1).keep k2)
    have T_2 := hide ((unhide T_1).keep k2)
    have U_2 := hide ((unhide U_1).keep k2)
    clear K1 S_1 D_1 P_1 E_1 A_1 T_1 T0_1 T1_1 T4_1 U_1 U0_1 U1_1 U4_1
    obtain ⟨T0_2, T1_2, -, -, T4_2⟩ := (unhide T_2).o
    obtain ⟨U0_2, U1_2, -, -, U4_2⟩ := (unhide U_2).o
    clear k2
    go_wp2_with fail
    refine (small_any p p' s.length c d.length c' w2 ms md).mono ?_
    rintro e w3 ⟨rfl, k3⟩
    have K3 := hide ((unhide K2).trans k3)
    have S_3 := hide ((unhide S_2).keep k3)
    have D_3 := hide ((unhide D_2).keep k3)
    have P_3 := hide ((unhide P_2).keep k3)
    have E_3 := hide ((unhide E_2).keep k3)
    have A_3 := hide ((unhide A_2).keep k3)
    have T_3 := hide ((unhide T_2).keep k3)
    have U_3 := hide ((unhide U_2).keep k3)
    clear K2 S_2 D_2 P_2 E_2 A_2 T_2 T0_2 T1_2 T4_2 U_2 U0_2 U1_2 U4_2
    obtain ⟨T0_3, T1_3, -, -, T4_3⟩ := (unhide T_3).o
    obtain ⟨U0_3, U1_3, -, -, U4_3⟩ := (unhide U_3).o
    clear k3
    rw [unhide GT]
    go_wp2_with fail
    refine (small_any q q' s2.length g d2.length g' w3 ms2 md2).mono ?_
    rintro e w4 ⟨rfl, k4⟩
    have K4 := hide ((unhide K3).trans k4)
    have S_4 := hide ((unhide S_3).keep k4)
    have D_4 := hide ((unhide D_3).keep k4)
    have P_4 := hide ((unhide P_3).keep k4)
    have E_4 := hide ((unhide E_3).keep k4)
    have A_4 := hide ((unhide A_3).keep k4)
    have T_4 := hide ((unhide T_3).keep k4)
    have U_4 := hide ((unhide U_3).keep k4)
    clear K3 S_3 D_3 P_3 E_3 A_3 T_3 T0_3 T1_3 T4_3 U_3 U0_3 U1_3 U4_3
    obtain ⟨T0_4, T1_4, -, -, T4_4⟩ := (unhide T_4).o
    obtain ⟨U0_4, U1_4, -, -, U4_4⟩ := (unhide U_4).o
    clear k4
    rw [unhide GU]
    go_wp2_with fail
    refine (rmayT_any _ _ s d w4 (unhide S_4) (unhide D_4)).mono ?_
    rw [unhide HM]
    rintro e w5 ⟨rfl, k5⟩
    have K5 := hide ((unhide K4).trans k5)
    have S_5 := hide ((unhide S_4).keep k5)
    have D_5 := hide ((unhide D_4).keep k5)
    have P_5 := hide ((unhide P_4).keep k5)
    have E_5 := hide ((unhide E_4).keep k5)
    have A_5 := hide ((unhide A_4).keep k5)
    have T_5 := hide ((unhide T_4).keep k5)
    have U_5 := hide ((unhide U_4).keep k5)
    clear K4 S_4 D_4 P_4 E_4 A_4 T_4 T0_4 T1_4 T4_4 U_4 U0_4 U1_4 U4_4
    obtain ⟨T0_5, T1_5, -, -, T4_5⟩ := (unhide T_5).o
    obtain ⟨U0_5, U1_5, -, -, U4_5⟩ := (unhide U_5).o
    clear k5
    go_wp2_with fail
    refine (at_any _ _ _ s d a w5 (unhide S_5) (unhide D_5) (unhide A_5)).mono ?_
    rintro e w6 ⟨rfl, k6⟩
    have K6 := hide ((unhide K5).trans k6)
    have S_6 := hide ((unhide S_5).keep k6)
    have D_6 := hide ((unhide D_5).keep k6)
    have P_6 := hide ((unhide P_5).keep k6)
    have E_6 := hide ((unhide E_5).keep k6)
    have A_6 := hide ((unhide A_5).keep k6)
    have T_6 := hide ((unhide T_5).keep k6)
    have U_6 := hide ((unhide U_5).keep k6)
    clear K5 S_5 D_5 P_5 E_5 A_5 T_5 T0_5 T1_5 T4_5 U_5 U0_5 U1_5 U4_5
    obtain ⟨T0_6, T1_6, -, -, T4_6⟩ := (unhide T_6).o
    obtain ⟨U0_6, U1_6, -, -, U4_6⟩ := (unhide U_6).o
    clear k6
    go_wp2_with fail
    refine (rindex_any _ _ s a w6 (unhide S_6) (unhide A_6)).mono ?_
    rintro e w7 ⟨rfl, k7⟩
    have K7 := hide ((unhide K6).trans k7)
    have S_7 := hide ((unhide S_6).keep k7)
    have D_7 := hide ((unhide D_6).keep k7)
    have P_7 := hide ((unhide P_6).keep k7)
    have E_7 := hide ((unhide E_6).keep k7)
    have A_7 := hide ((unhide A_6).keep k7)
    have T_7 := hide ((unhide T_6).keep k7)
    have U_7 := hide ((unhide U_6).keep k7)
    clear K6 S_6 D_6 P_6 E_6 A_6 T_6 T0_6 T1_6 T4_6 U_6 U0_6 U1_6 U4_6
    obtain ⟨T0_7, T1_7, -, -, T4_7⟩ := (unhide T_7).o
    obtain ⟨U0_7, U1_7, -, -, U4_7⟩ := (unhide U_7).o
    clear k7
    rw [(unhide AT).1, (unhide AT).2]
    generalize ixN s a = k at *
    go_wp2_with fail
    refine (map_yes 20 #[] (fun x r => r = absN x) _ _ s d w7 (unhide S_7) (unhide D_7) (unhide HM) Try.call20 abs_map).mono ?_
    rintro e w8 ⟨a1, n1, c1, G, cc, ds, rfl, o1, hG, og, hw, hq, k8⟩
    have K8 := hide ((unhide K7).trans k8)
    have S_8 := hide ((unhide S_7).keep k8)
    have D_8 := hide ((unhide D_7).keep k8)
    have P_8 := hide ((unhide P_7).keep k8)
    have E_8 := hide ((unhide E_7).keep k8)
    have A_8 := hide ((unhide A_7).keep k8)
    have T_8 := hide ((unhide T_7).keep k8)
    have U_8 := hide ((unhide U_7).keep k8)
    clear K7 S_7 D_7 P_7 E_7 A_7 T_7 T0_7 T1_7 T4_7 U_7 U0_7 U1_7 U4_7
    obtain ⟨T0_8, T1_8, -, -, T4_8⟩ := (unhide T_8).o
    obtain ⟨U0_8, U1_8, -, -, U4_8⟩ := (unhide U_8).o
    clear k8
    have O1 := hide og
    have HQ := hide hq
    clear o1 hG og hw hq
    have hdp : (0 : Int) < (d.length : Int) := by have := unhide HP; omega
    have hde : ((d.length : Int) != (d.length : Int)) = false := by simp
    go_upto_region 11 with fail
    have M_9 := hide (Bx.madeAt w8 (.slice a1 n1 c1) (.slice (some ⟨G, 0, none⟩) d.length cc) (w8.heap.size) rfl)
    have q9 := Kp.alloc w8 (.cells #[(.slice a1 n1 c1), (.slice (some ⟨G, 0, none⟩) d.length cc)] 27)
    generalize (w8.alloc (.cells #[(.slice a1 n1 c1), (.slice (some ⟨G, 0, none⟩) d.length cc)] 27)) = w9 at *
    have K9 := hide ((unhide K8).trans q9)
    have S_9 := hide ((unhide S_8).keep q9)
    have D_9 := hide ((unhide D_8).keep q9)
    have P_9 := hide ((unhide P_8).keep q9)
    have E_9 := hide ((unhide E_8).keep q9)
    have A_9 := hide ((unhide A_8).keep q9)
    have O_9 := hide ((unhide O1).keep q9)
    have T_9 := hide ((unhide T_8).keep q9)
    have U_9 := hide ((unhide U_8).keep q9)
    clear K8 S_8 D_8 P_8 E_8 A_8 O1 T_8 T0_8 T1_8 T4_8 U_8 U0_8 U1_8 U4_8
    obtain ⟨T0_9, T1_9, -, -, T4_9⟩ := (unhide T_9).o
    obtain ⟨U0_9, U1_9, -, -, U4_9⟩ := (unhide U_9).o
    clear q9
    generalize w8.heap.size = B_M at *
    obtain ⟨M0_9, M1_9, -, -, M4_9⟩ := (unhide M_9).o
    go_wp2
    clear T0_9 T1_9 T4_9 U0_9 U1_9 U4_9 M0_9 M1_9 M4_9
    go_loopw [12] (fun i wr => ∃ j : Nat, j ≤ d.length ∧ i = .int .i64 j ∧ Hid (Kp w9 wr)) (fun i _ => d.length - (intOf i).toNat)
    case atStart => exact ⟨0, Nat.zero_le _, rfl, Kp.refl _⟩
    case round wr =>
      obtain ⟨j, hj, rfl, KR⟩ := hrel
      have T_r := hide ((unhide T_9).keep (unhide KR))
      obtain ⟨T0_r, T1_r, -, -, T4_r⟩ := (unhide T_r).o
      have U_r := hide ((unhide U_9).keep (unhide KR))
      obtain ⟨U0_r, U1_r, -, -, U4_r⟩ := (unhide U_r).o
      have M_r := hide ((unhide M_9).keep (unhide KR))
      obtain ⟨M0_r, M1_r, -, -, M4_r⟩ := (unhide M_r).o
      by_cases hlt : j < d.length
      · have hm1 := ((unhide O_9).keep (unhide KR)).cell hlt
        rw [unhide HQ j hlt] at hm1
        obtain ⟨b, off, hp, hck⟩ := (unhide HV j hlt) _ ((unhide K9).trans (unhide KR))
        have WJ := hide ((unhide WD) j hlt)
        subst hp
        generalize d.getD j 0 = z at *
        have CA := hide (fun w0 => abs_any z w0 (unhide WJ))
        generalize absN z = az at *
        have CS := hide (fun w0 => frsame_any az az w0)
        rw [sameF_refl] at CS
        have hjd : (j : Int) < (d.length : Int) := by omega
        go_wp2
        go_quiet (first | (go_at_call 20; exact Calls.quiet_of_same (unhide CA _)) | (go_at_call 18; exact Calls.quiet_of_same (unhide CS _)))
        go_wp2
        go_roundw
        case rel => exact ⟨j + 1, by omega, by go_num, (unhide KR).trans (Kp.drewN _ _)⟩
        case measure => simp [intOf]; omega
      · have KF := hide ((unhide K9).trans (unhide KR))
        have S_f := hide ((unhide S_9).keep (unhide KR))
        have D_f := hide ((unhide D_9).keep (unhide KR))
        have P_f := hide ((unhide P_9).keep (unhide KR))
        have E_f := hide ((unhide E_9).keep (unhide KR))
        go_wp2
        have hfld : ∀ w : World, (Instr.field 27 (.agg #[.slice none 0 0, .slice none 0 0]) 1).run Try.prog w = .ok (.slice none 0 0) w := fun _ => by kernel_rfl
        have C1 := hide (fun w0 (kp : Kp wr w0) => (mayT_any (.slice p s.length c) (.slice p' d.length c') s d w0 ((unhide S_f).keep kp) ((unhide D_f).keep kp)).mono (R' := fun e w' => e = .returned (.bool (mayT s d)) ∧ Hid (Kp wr w') ∧ BxO w' B_T (.slice p s.length c) (.slice p' d.length c') ∧ BxO w' B_U (.slice q s2.length g) (.slice q' d2.length g')) (by
          rintro e w' ⟨rfl, k⟩
          exact ⟨rfl, kp.trans k, ((unhide T_r).keep (kp.trans k)).o, ((unhide U_r).keep (kp.trans k)).o⟩))
        have C2 := hide (fun w0 (kp : Kp wr w0) => (sameT_any (.slice p s.length c) (.slice p' d.length c') (.slice q s2.length g) (.slice q' d2.length g') s d s2 d2 w0 ((unhide S_f).keep kp) ((unhide D_f).keep kp) ((unhide P_f).keep kp) ((unhide E_f).keep kp)).mono (R' := fun e w' => e = .returned (.bool (sameT s d s2 d2)) ∧ Hid (Kp wr w') ∧ BxO w' B_T (.slice p s.length c) (.slice p' d.length c') ∧ BxO w' B_U (.slice q s2.length g) (.slice q' d2.length g')) (by
          rintro e w' ⟨rfl, k⟩
          exact ⟨rfl, kp.trans k, ((unhide T_r).keep (kp.trans k)).o, ((unhide U_r).keep (kp.trans k)).o⟩))
        have C3 := hide (fun w0 (kp : Kp wr w0) => (rsameT_any (.slice p s.length c) (.slice p' d.length c') (.slice q s2.length g) (.slice q' d2.length g') s d s2 d2 w0 ((unhide S_f).keep kp) ((unhide D_f).keep kp) ((unhide P_f).keep kp) ((unhide E_f).keep kp)).mono (R' := fun e w' => e = .returned (.bool (sameT s d s2 d2)) ∧ Hid (Kp wr w') ∧ BxO w' B_T (.slice p s.length c) (.slice p' d.length c') ∧ BxO w' B_U (.slice q s2.length g) (.slice q' d2.length g')) (by
          rintro e w' ⟨rfl, k⟩
          exact ⟨rfl, kp.trans k, ((unhide T_r).keep (kp.trans k)).o, ((unhide U_r).keep (kp.trans k)).o⟩))
        have C4 := hide (fun w0 (kp : Kp wr w0) => (finT_any (.slice p s.length c) (.slice p' d.length c') s d w0 ((unhide S_f).keep kp) ((unhide D_f).keep kp)).mono (R' := fun e w' => e = .returned (.bool (finT s d)) ∧ Hid (Kp wr w') ∧ BxO w' B_T (.slice p s.length c) (.slice p' d.length c') ∧ BxO w' B_U (.slice q s2.length g) (.slice q' d2.length g')) (by
          rintro e w' ⟨rfl, k⟩
          exact ⟨rfl, kp.trans k, ((unhide T_r).keep (kp.trans k)).o, ((unhide U_r).keep (kp.trans k)).o⟩))
        have C5 := hide (fun w0 (kp : Kp wr w0) => (rfinT_any (.slice p s.length c) (.slice p' d.length c') s d w0 ((unhide S_f).keep kp) ((unhide D_f).keep kp)).mono (R' := fun e w' => e = .returned (.bool (finT s d)) ∧ Hid (Kp wr w') ∧ BxO w' B_T (.slice p s.length c) (.slice p' d.length c') ∧ BxO w' B_U (.slice q s2.length g) (.slice q' d2.length g')) (by
          rintro e w' ⟨rfl, k⟩
          exact ⟨rfl, kp.trans k, ((unhide T_r).keep (kp.trans k)).o, ((unhide U_r).keep (kp.trans k)).o⟩))
        have C6 := hide (fun w0 (kp : Kp wr w0) => (map_nil (.slice p s.length c) (.slice p' d.length c') w0).mono (R' := fun e w' => e = .returned (.agg #[.slice none 0 0, .slice none 0 0]) ∧ Hid (Kp wr w') ∧ BxO w' B_T (.slice p s.length c) (.slice p' d.length c') ∧ BxO w' B_U (.slice q s2.length g) (.slice q' d2.length g')) (by
          rintro e w' ⟨rfl, k⟩
          exact ⟨rfl, kp.trans k, ((unhide T_r).keep (kp.trans k)).o, ((unhide U_r).keep (kp.trans k)).o⟩))
        rw [unhide HM] at C1
        generalize sameT s d s2 d2 = b2 at *
        generalize finT s d = b3 at *
        go_region_held3 (fun w' => w'.cell? ⟨B_T, 0, none⟩ = some (.slice p s.length c) ∧ w'.cell? ⟨B_T, 1, none⟩ = some (.slice p' d.length c') ∧ w'.cell? ⟨B_U, 0, none⟩ = some (.slice q s2.length g) ∧ w'.cell? ⟨B_U, 1, none⟩ = some (.slice q' d2.length g')) (go_keep)
          (first
            | (go_at_call 21; refine ((unhide C1) _ ?_).mono ?_; (first | (exact unhide (by assumption)) | exact Kp.drew wr); rintro e x1 ⟨rfl, KX, ⟨t0, t1, -, -, -⟩, ⟨u0, u1, -, -, -⟩⟩)
            | (go_at_call 22; refine ((unhide C2) _ ?_).mono ?_; (first | (exact unhide (by assumption)) | exact Kp.drew wr); rintro e x2 ⟨rfl, KX, ⟨t0, t1, -, -, -⟩, ⟨u0, u1, -, -, -⟩⟩)
            | (go_at_call 12; refine ((unhide C3) _ ?_).mono ?_; (first | (exact unhide (by assumption)) | exact Kp.drew wr); rintro e x3 ⟨rfl, KX, ⟨t0, t1, -, -, -⟩, ⟨u0, u1, -, -, -⟩⟩)
            | (go_at_call 23; refine ((unhide C4) _ ?_).mono ?_; (first | (exact unhide (by assumption)) | exact Kp.drew wr); rintro e x4 ⟨rfl, KX, ⟨t0, t1, -, -, -⟩, ⟨u0, u1, -, -, -⟩⟩)
            | (go_at_call 24; refine ((unhide C5) _ ?_).mono ?_; (first | (exact unhide (by assumption)) | exact Kp.drew wr); rintro e x5 ⟨rfl, KX, ⟨t0, t1, -, -, -⟩, ⟨u0, u1, -, -, -⟩⟩)
            | (go_at_call 19; refine ((unhide C6) _ ?_).mono ?_; (first | (exact unhide (by assumption)) | exact Kp.drew wr); rintro e x6 ⟨rfl, KX, ⟨t0, t1, -, -, -⟩, ⟨u0, u1, -, -, -⟩⟩))
        all_goals go_wp2
        all_goals go_ret
        all_goals exact ⟨rfl, (unhide KF).trans (unhide KX)⟩

theorem flts_cell' {w : World} {b off n c : Nat} {d : List Nat} (h : Flts w (.slice (some ⟨b, off, none⟩) n c) d) (j : Nat) (hj : j < d.length) (w' : World) (k : Kp w w') : w'.cell? ⟨b, off + j, none⟩ = some (.float .f64 (d.getD j 0)) := by
  obtain ⟨b', off', e, hc⟩ := flts_cell h j hj w' k
  cases e
  exact hc

set_option maxHeartbeats 4000000 in
theorem asks_in (p q q' r : Option Addr) (c c' g g' f : Nat) (s s2 a : List Int) (d d2 : List Nat) (b off k : Nat) (w : World) (ms : s.length ≤ 9223372036854775807) (md : d.length ≤ 9223372036854775807) (ms2 : s2.length ≤ 9223372036854775807) (md2 : d2.length ≤ 9223372036854775807) (ma : (a.length : Int) ≤ 40)
    (S_0 : Hid (Ints w (.slice p s.length c) s)) (D_0 : Hid (Flts w (.slice (some ⟨b, off, none⟩) d.length c') d)) (P_0 : Hid (Ints w (.slice q s2.length g) s2)) (E_0 : Hid (Flts w (.slice q' d2.length g') d2)) (A_0 : Hid (Ints w (.slice r a.length f) a))
    (GT : Hid ((decide (s.length ≤ 40) && decide (d.length ≤ 8192)) = true)) (GU : Hid ((decide (s2.length ≤ 40) && decide (d2.length ≤ 8192)) = true)) (HM : Hid (mayT s d = true)) (hk : k < d.length) (HIX : Hid (ixN s a = (k : Int))) (AT : Hid (atN s d a = d.getD k 0 ∧ atB s d a = true)) :
    Calls Try.prog 4 #[.agg #[.slice p s.length c, .slice (some ⟨b, off, none⟩) d.length c'], .agg #[.slice q s2.length g, .slice q' d2.length g'], .slice r a.length f] w fun e w' => e = .returned (.bool true) ∧ Kp w w' := by
    have ma' : decide ((40 : Int) < (a.length : Int)) = false := decide_eq_false (by omega)
    have ma2 : ¬ ((40 : Int) < (a.length : Int)) := by omega
    have HP := hide (mayT_pos (unhide HM))
    have WD := hide (fun j (hj : j < d.length) => (unhide D_0).getD hj)
    have HV := hide (fun j hj w' (k : Kp w w') => flts_cell' (unhide D_0) j hj w' k)
    go_enter Try.func4, Try.ntmps4
    go_wp2_with fail
    have T_1 := hide ((Bx.madeAt w (.slice p s.length c) (.slice (some ⟨b, off, none⟩) d.length c') (w.heap.size) rfl).keep (Kp.alloc (w.alloc (.cells #[(.slice p s.length c), (.slice (some ⟨b, off, none⟩) d.length c')] 27)) (.cells #[(.slice q s2.length g), (.slice q' d2.length g')] 27)))
    have U_1 := hide (Bx.madeAt (w.alloc (.cells #[(.slice p s.length c), (.slice (some ⟨b, off, none⟩) d.length c')] 27)) (.slice q s2.length g) (.slice q' d2.length g') (w.heap.size + 1) (by simp))
    have q1 := (Kp.alloc w (.cells #[(.slice p s.length c), (.slice (some ⟨b, off, none⟩) d.length c')] 27)).trans (Kp.alloc (w.alloc (.cells #[(.slice p s.length c), (.slice (some ⟨b, off, none⟩) d.length c')] 27)) (.cells #[(.slice q s2.length g), (.slice q' d2.length g')] 27))
    generalize ((w.alloc (.cells #[(.slice p s.length c), (.slice (some ⟨b, off, none⟩) d.length c')] 27)).alloc (.cells #[(.slice q s2.length g), (.slice q' d2.length g')] 27)) = w1 at *
    have K1 := hide q1
    have S_1 := hide ((unhide S_0).keep q1)
    have D_1 := hide ((unhide D_0).keep q1)
    have P_1 := hide ((unhide P_0).keep q1)
    have E_1 := hide ((unhide E_0).keep q1)
    have A_1 := hide ((unhide A_0).keep q1)
    clear S_0 D_0 P_0 E_0 A_0
    clear q1
    generalize w.heap.size + 1 = B_U at *
    generalize w.heap.size = B_T at *
    obtain ⟨T0_1, T1_1, -, -, T4_1⟩ := (unhide T_1).o
    obtain ⟨U0_1, U1_1, -, -, U4_1⟩ := (unhide U_1).o
    refine (awake3_any w1).mono ?_
    rintro e w2 ⟨rfl, k2⟩
    have K2 := hide ((unhide K1).trans k2)
    have S_2 := hide ((unhide S_1).keep k2)
    have D_2 := hide ((unhide D_1).keep k2)
    have P_2 := hide ((unhide P_1).keep k2)
    have E_2 := hide ((unhide E_1).keep k2)
    have A_2 := hide ((unhide A_1).keep k2)
    have T_2 := hide ((unhide T_1).keep k2)
    have U_2 := hide ((unhide U_1).keep k2)
    clear K1 S_1 D_1 P_1 E_1 A_1 T_1 T0_1 T1_1 T4_1 U_1 U0_1 U1_1 U4_1
    obtain ⟨T0_2, T1_2, -, -, T4_2⟩ := (unhide T_2).o
    obtain ⟨U0_2, U1_2, -, -, U4_2⟩ := (unhide U_2).o
    clear k2
    go_wp2_with fail
    refine (small_any p (some ⟨b, off, none⟩) s.length c d.length c' w2 ms md).mono ?_
    rintro e w3 ⟨rfl, k3⟩
    have K3 := hide ((unhide K2).trans k3)
    have S_3 := hide ((unhide S_2).keep k3)
    have D_3 := hide ((unhide D_2).keep k3)
    have P_3 := hide ((unhide P_2).keep k3)
    have E_3 := hide ((unhide E_2).keep k3)
    have A_3 := hide ((unhide A_2).keep k3)
    have T_3 := hide ((unhide T_2).keep k3)
    have U_3 := hide ((unhide U_2).keep k3)
    clear K2 S_2 D_2 P_2 E_2 A_2 T_2 T0_2 T1_2 T4_2 U_2 U0_2 U1_2 U4_2
    obtain ⟨T0_3, T1_3, -, -, T4_3⟩ := (unhide T_3).o
    obtain ⟨U0_3, U1_3, -, -, U4_3⟩ := (unhide U_3).o
    clear k3
    rw [unhide GT]
    go_wp2_with fail
    refine (small_any q q' s2.length g d2.length g' w3 ms2 md2).mono ?_
    rintro e w4 ⟨rfl, k4⟩
    have K4 := hide ((unhide K3).trans k4)
    have S_4 := hide ((unhide S_3).keep k4)
    have D_4 := hide ((unhide D_3).keep k4)
    have P_4 := hide ((unhide P_3).keep k4)
    have E_4 := hide ((unhide E_3).keep k4)
    have A_4 := hide ((unhide A_3).keep k4)
    have T_4 := hide ((unhide T_3).keep k4)
    have U_4 := hide ((unhide U_3).keep k4)
    clear K3 S_3 D_3 P_3 E_3 A_3 T_3 T0_3 T1_3 T4_3 U_3 U0_3 U1_3 U4_3
    obtain ⟨T0_4, T1_4, -, -, T4_4⟩ := (unhide T_4).o
    obtain ⟨U0_4, U1_4, -, -, U4_4⟩ := (unhide U_4).o
    clear k4
    rw [unhide GU]
    go_wp2_with fail
    refine (rmayT_any _ _ s d w4 (unhide S_4) (unhide D_4)).mono ?_
    rw [unhide HM]
    rintro e w5 ⟨rfl, k5⟩
    have K5 := hide ((unhide K4).trans k5)
    have S_5 := hide ((unhide S_4).keep k5)
    have D_5 := hide ((unhide D_4).keep k5)
    have P_5 := hide ((unhide P_4).keep k5)
    have E_5 := hide ((unhide E_4).keep k5)
    have A_5 := hide ((unhide A_4).keep k5)
    have T_5 := hide ((unhide T_4).keep k5)
    have U_5 := hide ((unhide U_4).keep k5)
    clear K4 S_4 D_4 P_4 E_4 A_4 T_4 T0_4 T1_4 T4_4 U_4 U0_4 U1_4 U4_4
    obtain ⟨T0_5, T1_5, -, -, T4_5⟩ := (unhide T_5).o
    obtain ⟨U0_5, U1_5, -, -, U4_5⟩ := (unhide U_5).o
    clear k5
    go_wp2_with fail
    refine (at_any _ _ _ s d a w5 (unhide S_5) (unhide D_5) (unhide A_5)).mono ?_
    rintro e w6 ⟨rfl, k6⟩
    have K6 := hide ((unhide K5).trans k6)
    have S_6 := hide ((unhide S_5).keep k6)
    have D_6 := hide ((unhide D_5).keep k6)
    have P_6 := hide ((unhide P_5).keep k6)
    have E_6 := hide ((unhide E_5).keep k6)
    have A_6 := hide ((unhide A_5).keep k6)
    have T_6 := hide ((unhide T_5).keep k6)
    have U_6 := hide ((unhide U_5).keep k6)
    clear K5 S_5 D_5 P_5 E_5 A_5 T_5 T0_5 T1_5 T4_5 U_5 U0_5 U1_5 U4_5
    obtain ⟨T0_6, T1_6, -, -, T4_6⟩ := (unhide T_6).o
    obtain ⟨U0_6, U1_6, -, -, U4_6⟩ := (unhide U_6).o
    clear k6
    go_wp2_with fail
    refine (rindex_any _ _ s a w6 (unhide S_6) (unhide A_6)).mono ?_
    rintro e w7 ⟨rfl, k7⟩
    have K7 := hide ((unhide K6).trans k7)
    have S_7 := hide ((unhide S_6).keep k7)
    have D_7 := hide ((unhide D_6).keep k7)
    have P_7 := hide ((unhide P_6).keep k7)
    have E_7 := hide ((unhide E_6).keep k7)
    have A_7 := hide ((unhide A_6).keep k7)
    have T_7 := hide ((unhide T_6).keep k7)
    have U_7 := hide ((unhide U_6).keep k7)
    clear K6 S_6 D_6 P_6 E_6 A_6 T_6 T0_6 T1_6 T4_6 U_6 U0_6 U1_6 U4_6
    obtain ⟨T0_7, T1_7, -, -, T4_7⟩ := (unhide T_7).o
    obtain ⟨U0_7, U1_7, -, -, U4_7⟩ := (unhide U_7).o
    clear k7
    rw [(unhide AT).1, (unhide AT).2, unhide HIX]
    have hck := (unhide HV) k hk _ (unhide K7)
    generalize hy : d.getD k 0 = y at hck ⊢
    have HY := hide hy
    clear hy
    have hk0 : (0 : Int) ≤ (k : Int) := by omega
    have hkd : (k : Int) < (d.length : Int) := by omega
    go_wp2_with fail
    refine (kp_of (frsame_any y y w7)).mono ?_
    rw [sameF_refl]
    rintro e w8 ⟨rfl, k8⟩
    have K8 := hide ((unhide K7).trans k8)
    have S_8 := hide ((unhide S_7).keep k8)
    have D_8 := hide ((unhide D_7).keep k8)
    have P_8 := hide ((unhide P_7).keep k8)
    have E_8 := hide ((unhide E_7).keep k8)
    have A_8 := hide ((unhide A_7).keep k8)
    have T_8 := hide ((unhide T_7).keep k8)
    have U_8 := hide ((unhide U_7).keep k8)
    clear K7 S_7 D_7 P_7 E_7 A_7 T_7 T0_7 T1_7 T4_7 U_7 U0_7 U1_7 U4_7
    obtain ⟨T0_8, T1_8, -, -, T4_8⟩ := (unhide T_8).o
    obtain ⟨U0_8, U1_8, -, -, U4_8⟩ := (unhide U_8).o
    clear k8
    go_wp2_with fail
    refine (map_yes 20 #[] (fun x r => r = absN x) _ _ s d w8 (unhide S_8) (unhide D_8) (unhide HM) Try.call20 abs_map).mono ?_
    rintro e w9 ⟨a1, n1, c1, G, cc, ds, rfl, o1, hG, og, hw, hq, k9⟩
    have K9 := hide ((unhide K8).trans k9)
    have S_9 := hide ((unhide S_8).keep k9)
    have D_9 := hide ((unhide D_8).keep k9)
    have P_9 := hide ((unhide P_8).keep k9)
    have E_9 := hide ((unhide E_8).keep k9)
    have A_9 := hide ((unhide A_8).keep k9)
    have T_9 := hide ((unhide T_8).keep k9)
    have U_9 := hide ((unhide U_8).keep k9)
    clear K8 S_8 D_8 P_8 E_8 A_8 T_8 T0_8 T1_8 T4_8 U_8 U0_8 U1_8 U4_8
    obtain ⟨T0_9, T1_9, -, -, T4_9⟩ := (unhide T_9).o
    obtain ⟨U0_9, U1_9, -, -, U4_9⟩ := (unhide U_9).o
    clear k9
    have O1 := hide og
    have HQ := hide hq
    clear o1 hG og hw hq
    have hdp : (0 : Int) < (d.length : Int) := by have := unhide HP; omega
    have hde : ((d.length : Int) != (d.length : Int)) = false := by simp
    go_upto_region 11 with fail
    have M_10 := hide (Bx.madeAt w9 (.slice a1 n1 c1) (.slice (some ⟨G, 0, none⟩) d.length cc) (w9.heap.size) rfl)
    have q10 := Kp.alloc w9 (.cells #[(.slice a1 n1 c1), (.slice (some ⟨G, 0, none⟩) d.length cc)] 27)
    generalize (w9.alloc (.cells #[(.slice a1 n1 c1), (.slice (some ⟨G, 0, none⟩) d.length cc)] 27)) = w10 at *
    have K10 := hide ((unhide K9).trans q10)
    have S_10 := hide ((unhide S_9).keep q10)
    have D_10 := hide ((unhide D_9).keep q10)
    have P_10 := hide ((unhide P_9).keep q10)
    have E_10 := hide ((unhide E_9).keep q10)
    have A_10 := hide ((unhide A_9).keep q10)
    have O_10 := hide ((unhide O1).keep q10)
    have T_10 := hide ((unhide T_9).keep q10)
    have U_10 := hide ((unhide U_9).keep q10)
    clear K9 S_9 D_9 P_9 E_9 A_9 O1 T_9 T0_9 T1_9 T4_9 U_9 U0_9 U1_9 U4_9
    obtain ⟨T0_10, T1_10, -, -, T4_10⟩ := (unhide T_10).o
    obtain ⟨U0_10, U1_10, -, -, U4_10⟩ := (unhide U_10).o
    clear q10
    generalize w9.heap.size = B_M at *
    obtain ⟨M0_10, M1_10, -, -, M4_10⟩ := (unhide M_10).o
    go_wp2
    clear T0_10 T1_10 T4_10 U0_10 U1_10 U4_10 M0_10 M1_10 M4_10
    go_loopw [12] (fun i wr => ∃ j : Nat, j ≤ d.length ∧ i = .int .i64 j ∧ Hid (Kp w10 wr)) (fun i _ => d.length - (intOf i).toNat)
    case atStart => exact ⟨0, Nat.zero_le _, rfl, Kp.refl _⟩
    case round wr =>
      obtain ⟨j, hj, rfl, KR⟩ := hrel
      have T_r := hide ((unhide T_10).keep (unhide KR))
      obtain ⟨T0_r, T1_r, -, -, T4_r⟩ := (unhide T_r).o
      have U_r := hide ((unhide U_10).keep (unhide KR))
      obtain ⟨U0_r, U1_r, -, -, U4_r⟩ := (unhide U_r).o
      have M_r := hide ((unhide M_10).keep (unhide KR))
      obtain ⟨M0_r, M1_r, -, -, M4_r⟩ := (unhide M_r).o
      by_cases hlt : j < d.length
      · have hm1 := ((unhide O_10).keep (unhide KR)).cell hlt
        rw [unhide HQ j hlt] at hm1
        have hck := (unhide HV) j hlt _ ((unhide K10).trans (unhide KR))
        have WJ := hide ((unhide WD) j hlt)
        generalize d.getD j 0 = z at *
        have CA := hide (fun w0 => abs_any z w0 (unhide WJ))
        generalize absN z = az at *
        have CS := hide (fun w0 => frsame_any az az w0)
        rw [sameF_refl] at CS
        have hjd : (j : Int) < (d.length : Int) := by omega
        go_wp2
        go_quiet (first | (go_at_call 20; exact Calls.quiet_of_same (unhide CA _)) | (go_at_call 18; exact Calls.quiet_of_same (unhide CS _)))
        go_wp2
        go_roundw
        case rel => exact ⟨j + 1, by omega, by go_num, (unhide KR).trans (Kp.drewN _ _)⟩
        case measure => simp [intOf]; omega
      · have KF := hide ((unhide K10).trans (unhide KR))
        have S_f := hide ((unhide S_10).keep (unhide KR))
        have D_f := hide ((unhide D_10).keep (unhide KR))
        have P_f := hide ((unhide P_10).keep (unhide KR))
        have E_f := hide ((unhide E_10).keep (unhide KR))
        go_wp2
        have hfld : ∀ w : World, (Instr.field 27 (.agg #[.slice none 0 0, .slice none 0 0]) 1).run Try.prog w = .ok (.slice none 0 0) w := fun _ => by kernel_rfl
        have C1 := hide (fun w0 (kp : Kp wr w0) => (mayT_any (.slice p s.length c) (.slice (some ⟨b, off, none⟩) d.length c') s d w0 ((unhide S_f).keep kp) ((unhide D_f).keep kp)).mono (R' := fun e w' => e = .returned (.bool (mayT s d)) ∧ Hid (Kp wr w') ∧ BxO w' B_T (.slice p s.length c) (.slice (some ⟨b, off, none⟩) d.length c') ∧ BxO w' B_U (.slice q s2.length g) (.slice q' d2.length g')) (by
          rintro e w' ⟨rfl, k⟩
          exact ⟨rfl, kp.trans k, ((unhide T_r).keep (kp.trans k)).o, ((unhide U_r).keep (kp.trans k)).o⟩))
        have C2 := hide (fun w0 (kp : Kp wr w0) => (sameT_any (.slice p s.length c) (.slice (some ⟨b, off, none⟩) d.length c') (.slice q s2.length g) (.slice q' d2.length g') s d s2 d2 w0 ((unhide S_f).keep kp) ((unhide D_f).keep kp) ((unhide P_f).keep kp) ((unhide E_f).keep kp)).mono (R' := fun e w' => e = .returned (.bool (sameT s d s2 d2)) ∧ Hid (Kp wr w') ∧ BxO w' B_T (.slice p s.length c) (.slice (some ⟨b, off, none⟩) d.length c') ∧ BxO w' B_U (.slice q s2.length g) (.slice q' d2.length g')) (by
          rintro e w' ⟨rfl, k⟩
          exact ⟨rfl, kp.trans k, ((unhide T_r).keep (kp.trans k)).o, ((unhide U_r).keep (kp.trans k)).o⟩))
        have C3 := hide (fun w0 (kp : Kp wr w0) => (rsameT_any (.slice p s.length c) (.slice (some ⟨b, off, none⟩) d.length c') (.slice q s2.length g) (.slice q' d2.length g') s d s2 d2 w0 ((unhide S_f).keep kp) ((unhide D_f).keep kp) ((unhide P_f).keep kp) ((unhide E_f).keep kp)).mono (R' := fun e w' => e = .returned (.bool (sameT s d s2 d2)) ∧ Hid (Kp wr w') ∧ BxO w' B_T (.slice p s.length c) (.slice (some ⟨b, off, none⟩) d.length c') ∧ BxO w' B_U (.slice q s2.length g) (.slice q' d2.length g')) (by
          rintro e w' ⟨rfl, k⟩
          exact ⟨rfl, kp.trans k, ((unhide T_r).keep (kp.trans k)).o, ((unhide U_r).keep (kp.trans k)).o⟩))
        have C4 := hide (fun w0 (kp : Kp wr w0) => (finT_any (.slice p s.length c) (.slice (some ⟨b, off, none⟩) d.length c') s d w0 ((unhide S_f).keep kp) ((unhide D_f).keep kp)).mono (R' := fun e w' => e = .returned (.bool (finT s d)) ∧ Hid (Kp wr w') ∧ BxO w' B_T (.slice p s.length c) (.slice (some ⟨b, off, none⟩) d.length c') ∧ BxO w' B_U (.slice q s2.length g) (.slice q' d2.length g')) (by
          rintro e w' ⟨rfl, k⟩
          exact ⟨rfl, kp.trans k, ((unhide T_r).keep (kp.trans k)).o, ((unhide U_r).keep (kp.trans k)).o⟩))
        have C5 := hide (fun w0 (kp : Kp wr w0) => (rfinT_any (.slice p s.length c) (.slice (some ⟨b, off, none⟩) d.length c') s d w0 ((unhide S_f).keep kp) ((unhide D_f).keep kp)).mono (R' := fun e w' => e = .returned (.bool (finT s d)) ∧ Hid (Kp wr w') ∧ BxO w' B_T (.slice p s.length c) (.slice (some ⟨b, off, none⟩) d.length c') ∧ BxO w' B_U (.slice q s2.length g) (.slice q' d2.length g')) (by
          rintro e w' ⟨rfl, k⟩
          exact ⟨rfl, kp.trans k, ((unhide T_r).keep (kp.trans k)).o, ((unhide U_r).keep (kp.trans k)).o⟩))
        have C6 := hide (fun w0 (kp : Kp wr w0) => (map_nil (.slice p s.length c) (.slice (some ⟨b, off, none⟩) d.length c') w0).mono (R' := fun e w' => e = .returned (.agg #[.slice none 0 0, .slice none 0 0]) ∧ Hid (Kp wr w') ∧ BxO w' B_T (.slice p s.length c) (.slice (some ⟨b, off, none⟩) d.length c') ∧ BxO w' B_U (.slice q s2.length g) (.slice q' d2.length g')) (by
          rintro e w' ⟨rfl, k⟩
          exact ⟨rfl, kp.trans k, ((unhide T_r).keep (kp.trans k)).o, ((unhide U_r).keep (kp.trans k)).o⟩))
        rw [unhide HM] at C1
        generalize sameT s d s2 d2 = b2 at *
        generalize finT s d = b3 at *
        go_region_held3 (fun w' => w'.cell? ⟨B_T, 0, none⟩ = some (.slice p s.length c) ∧ w'.cell? ⟨B_T, 1, none⟩ = some (.slice (some ⟨b, off, none⟩) d.length c') ∧ w'.cell? ⟨B_U, 0, none⟩ = some (.slice q s2.length g) ∧ w'.cell? ⟨B_U, 1, none⟩ = some (.slice q' d2.length g')) (go_keep)
          (first
            | (go_at_call 21; refine ((unhide C1) _ ?_).mono ?_; (first | (exact unhide (by assumption)) | exact Kp.drew wr); rintro e x1 ⟨rfl, KX, ⟨t0, t1, -, -, -⟩, ⟨u0, u1, -, -, -⟩⟩)
            | (go_at_call 22; refine ((unhide C2) _ ?_).mono ?_; (first | (exact unhide (by assumption)) | exact Kp.drew wr); rintro e x2 ⟨rfl, KX, ⟨t0, t1, -, -, -⟩, ⟨u0, u1, -, -, -⟩⟩)
            | (go_at_call 12; refine ((unhide C3) _ ?_).mono ?_; (first | (exact unhide (by assumption)) | exact Kp.drew wr); rintro e x3 ⟨rfl, KX, ⟨t0, t1, -, -, -⟩, ⟨u0, u1, -, -, -⟩⟩)
            | (go_at_call 23; refine ((unhide C4) _ ?_).mono ?_; (first | (exact unhide (by assumption)) | exact Kp.drew wr); rintro e x4 ⟨rfl, KX, ⟨t0, t1, -, -, -⟩, ⟨u0, u1, -, -, -⟩⟩)
            | (go_at_call 24; refine ((unhide C5) _ ?_).mono ?_; (first | (exact unhide (by assumption)) | exact Kp.drew wr); rintro e x5 ⟨rfl, KX, ⟨t0, t1, -, -, -⟩, ⟨u0, u1, -, -, -⟩⟩)
            | (go_at_call 19; refine ((unhide C6) _ ?_).mono ?_; (first | (exact unhide (by assumption)) | exact Kp.drew wr); rintro e x6 ⟨rfl, KX, ⟨t0, t1, -, -, -⟩, ⟨u0, u1, -, -, -⟩⟩))
        all_goals go_wp2
        all_goals go_ret
        all_goals exact ⟨rfl, (unhide KF).trans (unhide KX)⟩

end Go.Proofs.Ytehlkbgjaegpjaa
