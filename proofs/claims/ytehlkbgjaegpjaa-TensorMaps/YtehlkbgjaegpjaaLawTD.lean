
/- The law TensorMaps, walked. -/
import Derived.Test.YtehlkbgjaegpjaaLawTB
import Derived.Test.YtehlkbgjaegpjaaOpn
namespace Go.Proofs.Ytehlkbgjaegpjaa
open Go.RowKit
set_option linter.unusedVariables false

/-- block B holds one thing -/
def One (w : World) (e : TypeId) (B : Nat) (x : Value) : Prop := w.heap[B]? = some (.cells #[x] e)
theorem One.o {w : World} {e : TypeId} {B : Nat} {x : Value} (h : One w e B x) : w.cell? ⟨B, 0, none⟩ = some x ∧ B < w.heap.size := by
  refine ⟨?_, (Array.getElem?_eq_some_iff.1 h).1⟩
  unfold One at h
  simp [World.cell?, h]
theorem One.keep {w w' : World} {e : TypeId} {B : Nat} {x : Value} (h : One w e B x) (k : Kp w w') : One w' e B x := by
  unfold One
  rw [k.block B h.o.2]
  exact h
theorem One.madeAt (w : World) (x : Value) (e : TypeId) (B : Nat) (hB : B = w.heap.size) : One (w.alloc (.cells #[x] e)) e B x := by
  subst hB
  unfold One
  simp only [World.alloc, Array.getElem?_push_size]
theorem sameB_refl (s : List Int) : sameB s s = true := by unfold sameB; simp
theorem add_map (x : Nat) : Hid (∀ y w1, W64 y → Calls Try.prog 26 (#[.agg #[.float .f64 x]] ++ #[.float .f64 y]) w1 fun e w2 => ∃ r, e = .returned (.float .f64 r) ∧ (cn r = adC y x ∧ W64 r) ∧ Kp w1 w2) :=
  fun y w1 _ => adder_any x y w1
theorem sqrt_map : Hid (∀ y w1, W64 y → Calls Try.prog 27 (#[] ++ #[.float .f64 y]) w1 fun e w2 => ∃ r, e = .returned (.float .f64 r) ∧ (cn r = sqC y ∧ W64 r) ∧ Kp w1 w2) := by
  intro y w1 _
  refine (sqrt_any y w1).mono ?_
  rintro e w2 ⟨r, rfl, h, _, k⟩
  exact ⟨r, rfl, h, k⟩

set_option maxHeartbeats 4000000 in
theorem maps_yes (p p' : Option Addr) (c c' x : Nat) (s : List Int) (d : List Nat) (w : World) (ms : s.length ≤ 9223372036854775807) (md : d.length ≤ 9223372036854775807)
    (S_0 : Hid (Ints w (.slice p s.length c) s)) (D_0 : Hid (Flts w (.slice p' d.length c') d)) (BS : Hid (s.length ≤ 40)) (BD : Hid (d.length ≤ 8192))
    (GT : Hid ((decide (s.length ≤ 40) && decide (d.length ≤ 8192)) = true)) (HM : Hid (mayT s d = true)) :
    Calls Try.prog 6 #[.agg #[.slice p s.length c, .slice p' d.length c'], .float .f64 x] w fun e w' => e = .returned (.bool true) ∧ Kp w w' := by
    have hmf : ∀ (fn : Fn) (first cap : Array Value) (w : World), (Instr.makeFunc fn first cap).run Try.prog w = .ok (.func fn first cap) w := fun _ _ _ _ => rfl
    have hst : ∀ (a : Addr) (x : Nat) (w : World), (store a (.float .f64 x)).run Try.prog w = stored Try.prog w a (.float .f64 x) .plain := fun a x w => run_store _ w a _ _ rfl
    have HV := hide (fun j hj w' (k : Kp w w') => flts_cell (unhide D_0) j hj w' k)
    have WS := hide (unhide S_0).wf
    go_enter Try.func6, Try.ntmps6
    go_wp2_with fail
    have T_1 := hide (Bx.madeAt w (.slice p s.length c) (.slice p' d.length c') (w.heap.size) rfl)
    have q1 := Kp.alloc w (.cells #[(.slice p s.length c), (.slice p' d.length c')] 27)
    generalize (w.alloc (.cells #[(.slice p s.length c), (.slice p' d.length c')] 27)) = w1 at *
    have K1 := hide q1
    have S_1 := hide ((unhide S_0).keep q1)
    have D_1 := hide ((unhide D_0).keep q1)
    clear S_0 D_0
    clear q1
    generalize w.heap.size = B_T at *
    obtain ⟨T0_1, T1_1, -, -, T4_1⟩ := (unhide T_1).o
    refine (awake3_any w1).mono ?_
    rintro e w2 ⟨rfl, k2⟩
    have K2 := hide ((unhide K1).trans k2)
    have S_2 := hide ((unhide S_1).keep k2)
    have D_2 := hide ((unhide D_1).keep k2)
    have T_2 := hide ((unhide T_1).keep k2)
    clear K1 S_1 D_1 T_1 T0_1 T1_1 T4_1
    obtain ⟨T0_2, T1_2, -, -, T4_2⟩ := (unhide T_2).o
    clear k2
    go_wp2_with fail
    refine (small_any p p' s.length c d.length c' w2 ms md).mono ?_
    rw [unhide GT]
    rintro e w3 ⟨rfl, k3⟩
    have K3 := hide ((unhide K2).trans k3)
    have S_3 := hide ((unhide S_2).keep k3)
    have D_3 := hide ((unhide D_2).keep k3)
    have T_3 := hide ((unhide T_2).keep k3)
    clear K2 S_2 D_2 T_2 T0_2 T1_2 T4_2
    obtain ⟨T0_3, T1_3, -, -, T4_3⟩ := (unhide T_3).o
    clear k3
    go_wp2_with fail
    refine (rmayT_any _ _ s d w3 (unhide S_3) (unhide D_3)).mono ?_
    rw [unhide HM]
    rintro e w4 ⟨rfl, k4⟩
    have K4 := hide ((unhide K3).trans k4)
    have S_4 := hide ((unhide S_3).keep k4)
    have D_4 := hide ((unhide D_3).keep k4)
    have T_4 := hide ((unhide T_3).keep k4)
    clear K3 S_3 D_3 T_3 T0_3 T1_3 T4_3
    obtain ⟨T0_4, T1_4, -, -, T4_4⟩ := (unhide T_4).o
    clear k4
    go_wp2_with fail
    have Y_5 := hide (One.madeAt w4 (.float .f64 x) 48 (w4.heap.size) rfl)
    have q5 := Kp.alloc w4 (.cells #[(.float .f64 x)] 48)
    generalize (w4.alloc (.cells #[(.float .f64 x)] 48)) = w5 at *
    have K5 := hide ((unhide K4).trans q5)
    have S_5 := hide ((unhide S_4).keep q5)
    have D_5 := hide ((unhide D_4).keep q5)
    have T_5 := hide ((unhide T_4).keep q5)
    clear K4 S_4 D_4 T_4 T0_4 T1_4 T4_4
    obtain ⟨T0_5, T1_5, -, -, T4_5⟩ := (unhide T_5).o
    clear q5
    generalize w4.heap.size = B_Y at *
    obtain ⟨Y0_5, Y4_5⟩ := (unhide Y_5).o
    refine (map_yes 26 #[.agg #[.float .f64 x]] (fun y r => cn r = adC y x) _ _ s d w5 (unhide S_5) (unhide D_5) (unhide HM) Try.call26 (add_map x)).mono ?_
    rintro e w6 ⟨a1, n1, c1, G, cc, ds, rfl, o1, hG, og, hw, hq, k6⟩
    have K6 := hide ((unhide K5).trans k6)
    have S_6 := hide ((unhide S_5).keep k6)
    have D_6 := hide ((unhide D_5).keep k6)
    have T_6 := hide ((unhide T_5).keep k6)
    have Y_6 := hide ((unhide Y_5).keep k6)
    clear K5 S_5 D_5 T_5 T0_5 T1_5 T4_5 Y_5 Y0_5 Y4_5
    obtain ⟨T0_6, T1_6, -, -, T4_6⟩ := (unhide T_6).o
    obtain ⟨Y0_6, Y4_6⟩ := (unhide Y_6).o
    clear k6
    have O1_6 := hide og
    have Q1 := hide hq
    have M_6 := hide (o1.ints (unhide WS) (by have := unhide BS; omega))
    clear o1 hG og hw hq
    go_wp2_with fail
    have V_7 := hide (Bx.madeAt w6 (.slice a1 n1 c1) (.slice (some ⟨G, 0, none⟩) d.length cc) (w6.heap.size) rfl)
    have q7 := Kp.alloc w6 (.cells #[(.slice a1 n1 c1), (.slice (some ⟨G, 0, none⟩) d.length cc)] 27)
    generalize (w6.alloc (.cells #[(.slice a1 n1 c1), (.slice (some ⟨G, 0, none⟩) d.length cc)] 27)) = w7 at *
    have K7 := hide ((unhide K6).trans q7)
    have S_7 := hide ((unhide S_6).keep q7)
    have D_7 := hide ((unhide D_6).keep q7)
    have O1_7 := hide ((unhide O1_6).keep q7)
    have M_7 := hide ((unhide M_6).keep q7)
    have T_7 := hide ((unhide T_6).keep q7)
    have Y_7 := hide ((unhide Y_6).keep q7)
    clear K6 S_6 D_6 O1_6 M_6 T_6 T0_6 T1_6 T4_6 Y_6 Y0_6 Y4_6
    obtain ⟨T0_7, T1_7, -, -, T4_7⟩ := (unhide T_7).o
    obtain ⟨Y0_7, Y4_7⟩ := (unhide Y_7).o
    clear q7
    generalize w6.heap.size = B_V at *
    obtain ⟨V0_7, V1_7, -, -, V4_7⟩ := (unhide V_7).o
    refine (map_yes 26 #[.agg #[.float .f64 x]] (fun y r => cn r = adC y x) _ _ s d w7 (unhide S_7) (unhide D_7) (unhide HM) Try.call26 (add_map x)).mono ?_
    rintro e w8 ⟨a2, n2, c2, G2, cc2, es, rfl, o2, hG, og, hw, hq, k8⟩
    have K8 := hide ((unhide K7).trans k8)
    have S_8 := hide ((unhide S_7).keep k8)
    have D_8 := hide ((unhide D_7).keep k8)
    have O1_8 := hide ((unhide O1_7).keep k8)
    have M_8 := hide ((unhide M_7).keep k8)
    have T_8 := hide ((unhide T_7).keep k8)
    have Y_8 := hide ((unhide Y_7).keep k8)
    have V_8 := hide ((unhide V_7).keep k8)
    clear K7 S_7 D_7 O1_7 M_7 T_7 T0_7 T1_7 T4_7 Y_7 Y0_7 Y4_7 V_7 V0_7 V1_7 V4_7
    obtain ⟨T0_8, T1_8, -, -, T4_8⟩ := (unhide T_8).o
    obtain ⟨Y0_8, Y4_8⟩ := (unhide Y_8).o
    obtain ⟨V0_8, V1_8, -, -, V4_8⟩ := (unhide V_8).o
    clear k8
    have hel : es.length = d.length := og.len
    have Q2 := hide hq
    have N_8 := hide (o2.ints (unhide WS) (by have := unhide BS; omega))
    have E_8 := hide (og.flts hw (by have := unhide BD; omega))
    clear o2 hG og hw hq
    have HM2 : Hid (mayT s es = true) := by have h := unhide HM; unfold mayT at h ⊢; unfold Hid; rw [hel]; exact h
    go_wp2_with fail
    refine (map_yes 27 #[] (fun y r => cn r = sqC y) _ _ s es w8 (unhide N_8) (unhide E_8) (unhide HM2) Try.call27 sqrt_map).mono ?_
    rintro e w9 ⟨a3, n3, c3, G3, cc3, fs, rfl, o3, hG, og, hw, hq, k9⟩
    have K9 := hide ((unhide K8).trans k9)
    have S_9 := hide ((unhide S_8).keep k9)
    have D_9 := hide ((unhide D_8).keep k9)
    have O1_9 := hide ((unhide O1_8).keep k9)
    have M_9 := hide ((unhide M_8).keep k9)
    have N_9 := hide ((unhide N_8).keep k9)
    have E_9 := hide ((unhide E_8).keep k9)
    have T_9 := hide ((unhide T_8).keep k9)
    have Y_9 := hide ((unhide Y_8).keep k9)
    have V_9 := hide ((unhide V_8).keep k9)
    clear K8 S_8 D_8 O1_8 M_8 N_8 E_8 T_8 T0_8 T1_8 T4_8 Y_8 Y0_8 Y4_8 V_8 V0_8 V1_8 V4_8
    obtain ⟨T0_9, T1_9, -, -, T4_9⟩ := (unhide T_9).o
    obtain ⟨Y0_9, Y4_9⟩ := (unhide Y_9).o
    obtain ⟨V0_9, V1_9, -, -, V4_9⟩ := (unhide V_9).o
    clear k9
    rw [hel] at og hq
    rw [hel]
    have Q3 := hide hq
    have O3_9 := hide og
    clear o3 hG og hw hq
    clear N_9
    clear E_9
    have hde : ((d.length : Int) != (d.length : Int)) = false := by simp
    go_upto_region 8 with fail
    have Z_10 := hide (Bx.madeAt w9 (.slice a3 n3 c3) (.slice (some ⟨G3, 0, none⟩) d.length cc3) (w9.heap.size) rfl)
    have q10 := Kp.alloc w9 (.cells #[(.slice a3 n3 c3), (.slice (some ⟨G3, 0, none⟩) d.length cc3)] 27)
    generalize (w9.alloc (.cells #[(.slice a3 n3 c3), (.slice (some ⟨G3, 0, none⟩) d.length cc3)] 27)) = w10 at *
    have K10 := hide ((unhide K9).trans q10)
    have S_10 := hide ((unhide S_9).keep q10)
    have D_10 := hide ((unhide D_9).keep q10)
    have O1_10 := hide ((unhide O1_9).keep q10)
    have M_10 := hide ((unhide M_9).keep q10)
    have O3_10 := hide ((unhide O3_9).keep q10)
    have T_10 := hide ((unhide T_9).keep q10)
    have Y_10 := hide ((unhide Y_9).keep q10)
    have V_10 := hide ((unhide V_9).keep q10)
    clear K9 S_9 D_9 O1_9 M_9 O3_9 T_9 T0_9 T1_9 T4_9 Y_9 Y0_9 Y4_9 V_9 V0_9 V1_9 V4_9
    obtain ⟨T0_10, T1_10, -, -, T4_10⟩ := (unhide T_10).o
    obtain ⟨Y0_10, Y4_10⟩ := (unhide Y_10).o
    obtain ⟨V0_10, V1_10, -, -, V4_10⟩ := (unhide V_10).o
    clear q10
    generalize w9.heap.size = B_Z at *
    obtain ⟨Z0_10, Z1_10, -, -, Z4_10⟩ := (unhide Z_10).o
    go_wp2_with fail
    refine (rsame_any _ _ s s w10 (unhide M_10) (unhide S_10)).mono ?_
    rw [sameB_refl]
    rintro e w11 ⟨rfl, k11⟩
    have K11 := hide ((unhide K10).trans k11)
    have S_11 := hide ((unhide S_10).keep k11)
    have D_11 := hide ((unhide D_10).keep k11)
    have O1_11 := hide ((unhide O1_10).keep k11)
    have M_11 := hide ((unhide M_10).keep k11)
    have O3_11 := hide ((unhide O3_10).keep k11)
    have T_11 := hide ((unhide T_10).keep k11)
    have Y_11 := hide ((unhide Y_10).keep k11)
    have V_11 := hide ((unhide V_10).keep k11)
    have Z_11 := hide ((unhide Z_10).keep k11)
    clear K10 S_10 D_10 O1_10 M_10 O3_10 T_10 T0_10 T1_10 T4_10 Y_10 Y0_10 Y4_10 V_10 V0_10 V1_10 V4_10 Z_10 Z0_10 Z1_10 Z4_10
    obtain ⟨T0_11, T1_11, -, -, T4_11⟩ := (unhide T_11).o
    obtain ⟨Y0_11, Y4_11⟩ := (unhide Y_11).o
    obtain ⟨V0_11, V1_11, -, -, V4_11⟩ := (unhide V_11).o
    obtain ⟨Z0_11, Z1_11, -, -, Z4_11⟩ := (unhide Z_11).o
    clear k11
    go_wp2
    clear T0_11 T1_11 T4_11 Y0_11 Y4_11 V0_11 V1_11 V4_11 Z0_11 Z1_11 Z4_11
    go_loopw [8] (fun i wr => ∃ j : Nat, j ≤ d.length ∧ i = .int .i64 j ∧ Hid (Kp w11 wr)) (fun i _ => d.length - (intOf i).toNat)
    case atStart => exact ⟨0, Nat.zero_le _, rfl, Kp.refl _⟩
    case round wr =>
      obtain ⟨j, hj, rfl, KR⟩ := hrel
      have T_r := hide ((unhide T_11).keep (unhide KR))
      obtain ⟨T0_r, T1_r, -, -, T4_r⟩ := (unhide T_r).o
      have V_r := hide ((unhide V_11).keep (unhide KR))
      obtain ⟨V0_r, V1_r, -, -, V4_r⟩ := (unhide V_r).o
      have Z_r := hide ((unhide Z_11).keep (unhide KR))
      obtain ⟨Z0_r, Z1_r, -, -, Z4_r⟩ := (unhide Z_r).o
      by_cases hlt : j < d.length
      · have hm1 := ((unhide O1_11).keep (unhide KR)).cell hlt
        have hm3 := ((unhide O3_11).keep (unhide KR)).cell hlt
        obtain ⟨b, off, hp, hck⟩ := (unhide HV j hlt) _ ((unhide K11).trans (unhide KR))
        subst hp
        have R1 := hide (unhide Q1 j hlt)
        have R3 : Hid (cn (fs.getD j 0) = sqC (adC (d.getD j 0) x)) := by unfold Hid; rw [unhide Q3 j hlt, ← sqC_cn, unhide Q2 j hlt]
        generalize fs.getD j 0 = n3j at *
        generalize ds.getD j 0 = m1j at *
        generalize d.getD j 0 = z at *
        have hop := fun t w => run_add_any (P := Try.prog) w t z x
        have hcw : ∀ (w : World) (a : Addr), (flW .add w z x).cell? a = w.cell? a := fun w a => by unfold World.cell?; rw [flW_heap]
        have CS := hide (fun w0 y (h : cn y = adC z x) => (frsame_any m1j y w0).mono (R' := fun e w' => e = .returned (.bool true) ∧ w' = w0) (by rintro e w' ⟨rfl, rfl⟩; exact ⟨ret_bool (sameF_iff.2 ((unhide R1).trans h.symm)), rfl⟩))
        have CT := hide (fun w0 y (h : cn y = sqC (adC z x)) => (frsame_any n3j y w0).mono (R' := fun e w' => e = .returned (.bool true) ∧ w' = w0) (by rintro e w' ⟨rfl, rfl⟩; exact ⟨ret_bool (sameF_iff.2 ((unhide R3).trans h.symm)), rfl⟩))
        have CQ := hide (fun w0 y (h : cn y = adC z x) => (sqrt_any y w0).mono (R' := fun e w' => ∃ r, e = .returned (.float .f64 r) ∧ Hid (cn r = sqC (adC z x)) ∧ (∀ a : Addr, w'.cell? a = w0.cell? a) ∧ Hid (Kp w0 w')) (by rintro e w' ⟨r, rfl, ⟨h1, _⟩, h2, h3⟩; exact ⟨r, rfl, by unfold Hid; rw [h1, ← sqC_cn, h], fun a => by unfold World.cell?; rw [h2], h3⟩))
        have hjd : (j : Int) < (d.length : Int) := by omega
        go_wp2_with fail
        go_region_held (fun w' => w'.cell? ⟨B_T, 1, none⟩ = some (.slice (some ⟨b, off, none⟩) d.length c') ∧ w'.cell? ⟨B_V, 1, none⟩ = some (.slice (some ⟨G, 0, none⟩) d.length cc) ∧ w'.cell? ⟨B_Z, 1, none⟩ = some (.slice (some ⟨G3, 0, none⟩) d.length cc3) ∧ w'.cell? ⟨b, off + j, none⟩ = some (.float .f64 z) ∧ w'.cell? ⟨G, j, none⟩ = some (.float .f64 m1j) ∧ w'.cell? ⟨G3, j, none⟩ = some (.float .f64 n3j)) (go_keep)
          (first
            | (go_at_call_of 18 (Value.float FloatKind.f64 m1j); refine ((unhide CS) _ _ ?_).mono ?_; (exact (flR_add _ _ _).1); rintro e x1 ⟨rfl, rfl⟩)
            | (go_at_call 27; refine ((unhide CQ) _ _ ?_).mono ?_; (exact (flR_add _ _ _).1); rintro e x2 ⟨r2, rfl, F2, f2, KX⟩)
            | (go_at_call 18; refine ((unhide CT) _ _ ?_).mono ?_; (exact unhide (by assumption)); rintro e x3 ⟨rfl, rfl⟩))
        have KZ := hide ((unhide KR).trans ((Kp.drew wr).trans ((flW_kp _ _ _ _).trans ((flW_kp _ _ _ _).trans (unhide KX)))))
        go_wp2
        go_roundw
        case rel => exact ⟨j + 1, by omega, by go_num, unhide KZ⟩
        case measure => simp [intOf]; omega
      · go_wp2
        go_ret
        exact ⟨rfl, (unhide K11).trans (unhide KR)⟩

set_option maxHeartbeats 1000000 in
theorem maps_e1 (p p' : Option Addr) (c c' x : Nat) (s : List Int) (d : List Nat) (w : World) (ms : s.length ≤ 9223372036854775807) (md : d.length ≤ 9223372036854775807) (GT : Hid ((decide (s.length ≤ 40) && decide (d.length ≤ 8192)) = false)) :
    Calls Try.prog 6 #[.agg #[.slice p s.length c, .slice p' d.length c'], .float .f64 x] w fun e w' => e = .returned (.bool true) ∧ Kp w w' := by
    go_enter Try.func6, Try.ntmps6
    go_wp2_with fail
    have T_1 := hide (Bx.madeAt w (.slice p s.length c) (.slice p' d.length c') (w.heap.size) rfl)
    have q1 := Kp.alloc w (.cells #[(.slice p s.length c), (.slice p' d.length c')] 27)
    generalize (w.alloc (.cells #[(.slice p s.length c), (.slice p' d.length c')] 27)) = w1 at *
    have K1 := hide q1
    clear q1
    generalize w.heap.size = B_T at *
    obtain ⟨T0_1, T1_1, -, -, T4_1⟩ := (unhide T_1).o
    refine (awake3_any w1).mono ?_
    rintro e w2 ⟨rfl, k2⟩
    have K2 := hide ((unhide K1).trans k2)
    have T_2 := hide ((unhide T_1).keep k2)
    clear K1 T_1 T0_1 T1_1 T4_1
    obtain ⟨T0_2, T1_2, -, -, T4_2⟩ := (unhide T_2).o
    clear k2
    go_wp2_with fail
    refine (small_any p p' s.length c d.length c' w2 ms md).mono ?_
    rw [unhide GT]
    rintro e w3 ⟨rfl, k3⟩
    have K3 := hide ((unhide K2).trans k3)
    have T_3 := hide ((unhide T_2).keep k3)
    clear K2 T_2 T0_2 T1_2 T4_2
    obtain ⟨T0_3, T1_3, -, -, T4_3⟩ := (unhide T_3).o
    clear k3
    go_wp2
    go_ret
    exact ⟨rfl, unhide K3⟩

set_option maxHeartbeats 1000000 in
theorem maps_e2 (p p' : Option Addr) (c c' x : Nat) (s : List Int) (d : List Nat) (w : World) (ms : s.length ≤ 9223372036854775807) (md : d.length ≤ 9223372036854775807) (S_0 : Hid (Ints w (.slice p s.length c) s)) (D_0 : Hid (Flts w (.slice p' d.length c') d))
    (GT : Hid ((decide (s.length ≤ 40) && decide (d.length ≤ 8192)) = true)) (HM : Hid (mayT s d = false)) :
    Calls Try.prog 6 #[.agg #[.slice p s.length c, .slice p' d.length c'], .float .f64 x] w fun e w' => e = .returned (.bool true) ∧ Kp w w' := by
    go_enter Try.func6, Try.ntmps6
    go_wp2_with fail
    have T_1 := hide (Bx.madeAt w (.slice p s.length c) (.slice p' d.length c') (w.heap.size) rfl)
    have q1 := Kp.alloc w (.cells #[(.slice p s.length c), (.slice p' d.length c')] 27)
    generalize (w.alloc (.cells #[(.slice p s.length c), (.slice p' d.length c')] 27)) = w1 at *
    have K1 := hide q1
    have S_1 := hide ((unhide S_0).keep q1)
    have D_1 := hide ((unhide D_0).keep q1)
    clear S_0 D_0
    clear q1
    generalize w.heap.size = B_T at *
    obtain ⟨T0_1, T1_1, -, -, T4_1⟩ := (unhide T_1).o
    refine (awake3_any w1).mono ?_
    rintro e w2 ⟨rfl, k2⟩
    have K2 := hide ((unhide K1).trans k2)
    have S_2 := hide ((unhide S_1).keep k2)
    have D_2 := hide ((unhide D_1).keep k2)
    have T_2 := hide ((unhide T_1).keep k2)
    clear K1 S_1 D_1 T_1 T0_1 T1_1 T4_1
    obtain ⟨T0_2, T1_2, -, -, T4_2⟩ := (unhide T_2).o
    clear k2
    go_wp2_with fail
    refine (small_any p p' s.length c d.length c' w2 ms md).mono ?_
    rw [unhide GT]
    rintro e w3 ⟨rfl, k3⟩
    have K3 := hide ((unhide K2).trans k3)
    have S_3 := hide ((unhide S_2).keep k3)
    have D_3 := hide ((unhide D_2).keep k3)
    have T_3 := hide ((unhide T_2).keep k3)
    clear K2 S_2 D_2 T_2 T0_2 T1_2 T4_2
    obtain ⟨T0_3, T1_3, -, -, T4_3⟩ := (unhide T_3).o
    clear k3
    go_wp2_with fail
    refine (rmayT_any _ _ s d w3 (unhide S_3) (unhide D_3)).mono ?_
    rw [unhide HM]
    rintro e w4 ⟨rfl, k4⟩
    have K4 := hide ((unhide K3).trans k4)
    have S_4 := hide ((unhide S_3).keep k4)
    have D_4 := hide ((unhide D_3).keep k4)
    have T_4 := hide ((unhide T_3).keep k4)
    clear K3 S_3 D_3 T_3 T0_3 T1_3 T4_3
    obtain ⟨T0_4, T1_4, -, -, T4_4⟩ := (unhide T_4).o
    clear k4
    go_wp2
    go_ret
    exact ⟨rfl, unhide K4⟩

theorem maps_walk (p p' : Option Addr) (c c' x : Nat) (s : List Int) (d : List Nat) (w : World) (ms : s.length ≤ 9223372036854775807) (md : d.length ≤ 9223372036854775807) (hx : W64 x)
    (hS : s.length ≤ 1000000 → Ints w (.slice p s.length c) s) (hD : d.length ≤ 1000000 → Flts w (.slice p' d.length c') d) :
    Calls Try.prog 6 #[.agg #[.slice p s.length c, .slice p' d.length c'], .float .f64 x] w fun e w' => e = .returned (.bool true) ∧ Kp w w' := by
  by_cases g1 : s.length ≤ 40 ∧ d.length ≤ 8192
  · have GT : Hid ((decide (s.length ≤ 40) && decide (d.length ≤ 8192)) = true) := by unfold Hid; rw [decide_eq_true g1.1, decide_eq_true g1.2]; rfl
    have S0 := hS (by omega)
    have D0 := hD (by omega)
    cases hm : mayT s d
    · exact maps_e2 p p' c c' x s d w ms md S0 D0 GT hm
    · exact maps_yes p p' c c' x s d w ms md S0 D0 g1.1 g1.2 GT hm
  · have GT : Hid ((decide (s.length ≤ 40) && decide (d.length ≤ 8192)) = false) := by
      unfold Hid
      cases h : (decide (s.length ≤ 40) && decide (d.length ≤ 8192))
      · rfl
      · simp at h; omega
    exact maps_e1 p p' c c' x s d w ms md GT

end Go.Proofs.Ytehlkbgjaegpjaa
