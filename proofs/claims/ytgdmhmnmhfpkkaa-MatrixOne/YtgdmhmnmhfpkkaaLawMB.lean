
/- The law MatrixOne, walked. -/
import Derived.Test.YtgdmhmnmhfpkkaaMatG
import Derived.Test.YtgdmhmnmhfpkkaaMatL
import Derived.Test.YtgdmhmnmhfpkkaaMatM
import Derived.Test.YtgdmhmnmhfpkkaaFOne
import Derived.Test.YtgdmhmnmhfpkkaaOpn
namespace Go.Proofs.Ytgdmhmnmhfpkkaa
open Go.RowKit

theorem sameT_refl5 (s : List Int) (d : List Nat) : sameT s d s d = true := by
  unfold sameT sameB allB sameF
  simp
theorem fin_all {s : List Int} {d : List Nat} (hw : ∀ x ∈ d, W64 x) (h : finT s d = true) : ∀ q, FinW (d.getD q 0) := by
  intro q
  by_cases hq : q < d.length
  · unfold finT at h
    rw [Bool.and_eq_true, Bool.not_eq_true'] at h
    refine finW_of (getD_w64 hw q) ?_
    cases he : endB (d.getD q 0)
    · rfl
    · rw [anyB_at hq he] at h
      cases h.2
  · have : d.getD q 0 = 0 := by simp [Nat.le_of_not_lt hq]
    rw [this]
    exact zr_fin (Or.inl rfl)

set_option maxRecDepth 10000 in
set_option maxHeartbeats 8000000 in
theorem one_walk (p' : Option Addr) (p0 : Option Addr) (c c' : Nat) (f : List Int) (d : List Nat) (w : World) (mf : f.length ≤ 9223372036854775807) (md : d.length ≤ 9223372036854775807)
    (h0 : f.length ≤ 1000000 → Ints w (.slice p0 f.length c) f) (h1 : d.length ≤ 1000000 → Flts w (.slice p' d.length c') d) (r0 : Roomy (.slice p' d.length c')) :
    Calls Try.prog 6 #[.agg #[.slice p0 f.length c, .slice p' d.length c']] w fun e w' => e = .returned (.bool true) ∧ Kp w w' := by
  have R0 := hide r0
  clear r0
  by_cases gt : (decide (f.length ≤ 40) && decide (d.length ≤ 8192)) = true
  · have GT := hide gt
    simp only [Bool.and_eq_true, decide_eq_true_eq] at gt
    have A_0 := hide (h0 (by omega))
    have D_0 := hide (h1 (by omega))
    have hfl : f.length ≤ 40 := gt.1
    clear h0 h1 gt
    cases mt : mayT f d
    · have MT := hide mt
      clear mt
      go_enter Try.func6, Try.ntmps6
      go_wp2_with fail
      have X_1 := hide (Bx.madeAt w (.slice p0 f.length c) (.slice p' d.length c') (w.heap.size) rfl)
      have q1 := Kp.alloc w (.cells #[(.slice p0 f.length c), (.slice p' d.length c')] 25)
      generalize (w.alloc (.cells #[(.slice p0 f.length c), (.slice p' d.length c')] 25)) = w1 at *
      have K1 := hide q1
      have A_1 := hide ((unhide A_0).keep q1)
      have D_1 := hide ((unhide D_0).keep q1)
      clear A_0 D_0
      clear q1
      generalize w.heap.size = B_X at *
      obtain ⟨X0_1, X1_1, -, -, X4_1⟩ := (unhide X_1).o
      refine (awake5_any w1).mono ?_
      rintro e w2 ⟨rfl, k2⟩
      have K2 := hide ((unhide K1).trans k2)
      have A_2 := hide ((unhide A_1).keep k2)
      have D_2 := hide ((unhide D_1).keep k2)
      have X_2 := hide ((unhide X_1).keep k2)
      clear K1 A_1 D_1 X_1 X0_1 X1_1 X4_1
      obtain ⟨X0_2, X1_2, -, -, X4_2⟩ := (unhide X_2).o
      clear k2
      go_wp2_with fail
      refine (small_any _ p' _ c d.length c' w2 mf md).mono ?_
      rw [unhide GT]
      rintro e w3 ⟨rfl, k3⟩
      have K3 := hide ((unhide K2).trans k3)
      have A_3 := hide ((unhide A_2).keep k3)
      have D_3 := hide ((unhide D_2).keep k3)
      have X_3 := hide ((unhide X_2).keep k3)
      clear K2 A_2 D_2 X_2 X0_2 X1_2 X4_2
      obtain ⟨X0_3, X1_3, -, -, X4_3⟩ := (unhide X_3).o
      clear k3
      go_wp2_with fail
      refine (rmayT_any _ _ f d w3 (unhide A_3) (unhide D_3)).mono ?_
      rw [unhide MT]
      rintro e w4 ⟨rfl, k4⟩
      have K4 := hide ((unhide K3).trans k4)
      have A_4 := hide ((unhide A_3).keep k4)
      have D_4 := hide ((unhide D_3).keep k4)
      have X_4 := hide ((unhide X_3).keep k4)
      clear K3 A_3 D_3 X_3 X0_3 X1_3 X4_3
      obtain ⟨X0_4, X1_4, -, -, X4_4⟩ := (unhide X_4).o
      clear k4
      go_wp2
      go_ret
      exact ⟨rfl, unhide K4⟩
    · have MT := hide mt
      by_cases hl : f.length = 2
      · obtain ⟨p, n, rfl, p1, n1, dl, dm⟩ := two_of mt hl
        have hll : ([(p : Int), (n : Int)].length : Int) = 2 := rfl
        obtain ⟨bs, os, c0, ec, hbs, -, hs1⟩ := (unhide A_0).two
        injection ec with ec1 ec2 ec3
        subst ec1 ec3
        change Calls Try.prog _ #[.agg #[.slice (some ⟨bs, os, none⟩) 2 c, _]] _ _
        have nm : n ≤ 4096 := le_mul_r p1 dm
        have HSH : Hid (∀ w', Kp w w' → w'.cell? ⟨bs, os + 1, none⟩ = some (.int .i64 (n : Int))) := fun w' k => (Below.cell k (p := ⟨bs, os + 1, none⟩) hbs).trans hs1
        clear mt hl hll hfl hbs hs1
        by_cases hn : n ≤ 40
        · have hnI : decide ((40 : Int) < (n : Int)) = false := decide_eq_false (by omega)
          have hnJ : ¬ ((40 : Int) < (n : Int)) := by omega
          have n40 : n ≤ 4096 := nm
          have DL := hide dl
          have hm2 : Hid (matB [(p : Int), (n : Int)] d = true) := matB_yes.2 ⟨unhide MT, rfl⟩
          have E1 := hide (tur_yes (unhide hm2))
          have ml : (turnD p n d).length = n * p := turnD_length p n d
          have hm3 : Hid (matB [(n : Int), (p : Int)] (turnD p n d) = true) := matB_yes.2 ⟨mayT_two n1 p1 ml (by rw [Nat.mul_comm]; exact dm), rfl⟩
          have E2 := tur_yes (unhide hm3)
          rw [turn_turn dl] at E2
          have E2 := hide E2
          have nn : n * n ≤ 1600 := Nat.mul_le_mul hn hn
          have hm4 : Hid (matB [(n : Int), (n : Int)] (onesL n n) = true) := matB_yes.2 ⟨mayT_two n1 n1 (onesL_length n n) (by omega), rfl⟩
          have hfit : Hid (fitB [(p : Int), (n : Int)] d [(n : Int), (n : Int)] (onesL n n) = true) := by
            unfold Hid fitB
            rw [unhide hm2, unhide hm4]
            simp
          have E3 := hide (mul_yes (unhide hfit) p1 n1 dm)
          have MB : Hid (mayB [(n : Int), (n : Int)] = true) := by unfold Hid; rw [may_two n1 n1]; exact decide_eq_true (by omega)
          have A00 := A_0
          have D00 := D_0
          clear hm2 hm3 hm4 hfit ml dl dm
          go_enter Try.func6, Try.ntmps6
          go_wp2_with fail
          have X_1 := hide (Bx.madeAt w (.slice (some ⟨bs, os, none⟩) 2 c) (.slice p' d.length c') (w.heap.size) rfl)
          have q1 := Kp.alloc w (.cells #[(.slice (some ⟨bs, os, none⟩) 2 c), (.slice p' d.length c')] 25)
          generalize (w.alloc (.cells #[(.slice (some ⟨bs, os, none⟩) 2 c), (.slice p' d.length c')] 25)) = w1 at *
          have K1 := hide q1
          have A_1 := hide ((unhide A_0).keep q1)
          have D_1 := hide ((unhide D_0).keep q1)
          clear A_0 D_0
          clear q1
          generalize w.heap.size = B_X at *
          obtain ⟨X0_1, X1_1, -, -, X4_1⟩ := (unhide X_1).o
          refine (awake5_any w1).mono ?_
          rintro e w2 ⟨rfl, k2⟩
          have K2 := hide ((unhide K1).trans k2)
          have A_2 := hide ((unhide A_1).keep k2)
          have D_2 := hide ((unhide D_1).keep k2)
          have X_2 := hide ((unhide X_1).keep k2)
          clear K1 A_1 D_1 X_1 X0_1 X1_1 X4_1
          obtain ⟨X0_2, X1_2, -, -, X4_2⟩ := (unhide X_2).o
          clear k2
          go_wp2_with fail
          refine (small_any _ p' _ c d.length c' w2 mf md).mono ?_
          rw [unhide GT]
          rintro e w3 ⟨rfl, k3⟩
          have K3 := hide ((unhide K2).trans k3)
          have A_3 := hide ((unhide A_2).keep k3)
          have D_3 := hide ((unhide D_2).keep k3)
          have X_3 := hide ((unhide X_2).keep k3)
          clear K2 A_2 D_2 X_2 X0_2 X1_2 X4_2
          obtain ⟨X0_3, X1_3, -, -, X4_3⟩ := (unhide X_3).o
          clear k3
          go_wp2_with fail
          refine (rmayT_any _ _ [(p : Int), (n : Int)] d w3 (unhide A_3) (unhide D_3)).mono ?_
          rw [unhide MT]
          rintro e w4 ⟨rfl, k4⟩
          have K4 := hide ((unhide K3).trans k4)
          have A_4 := hide ((unhide A_3).keep k4)
          have D_4 := hide ((unhide D_3).keep k4)
          have X_4 := hide ((unhide X_3).keep k4)
          clear K3 A_3 D_3 X_3 X0_3 X1_3 X4_3
          obtain ⟨X0_4, X1_4, -, -, X4_4⟩ := (unhide X_4).o
          clear k4
          have sh1 := unhide HSH _ (unhide K4)
          go_wp2_with fail
          refine (turn_all _ _ [(p : Int), (n : Int)] d w4 (unhide A_4) (unhide D_4)).mono ?_
          rw [(unhide E1).1, (unhide E1).2.1, (unhide E1).2.2]
          rintro e w5 ⟨⟨ae, ce, be, de, rfl, se, fe, ue, ve⟩, k5⟩
          have K5 := hide ((unhide K4).trans k5)
          have A_5 := hide ((unhide A_4).keep k5)
          have D_5 := hide ((unhide D_4).keep k5)
          have X_5 := hide ((unhide X_4).keep k5)
          clear K4 A_4 D_4 X_4 X0_4 X1_4 X4_4
          obtain ⟨X0_5, X1_5, -, -, X4_5⟩ := (unhide X_5).o
          clear k5
          have Re : Hid (Roomy (.slice be (turnD p n d).length de)) := roomy _ _ _ ue ve
          clear ue ve
          have Se_5 := hide se
          have De_5 := hide fe
          clear se fe
          go_wp2_with fail
          have Be_6 := hide (Bx.madeAt w5 (.slice ae [(n : Int), (p : Int)].length ce) (.slice be (turnD p n d).length de) (w5.heap.size) rfl)
          have q6 := Kp.alloc w5 (.cells #[(.slice ae [(n : Int), (p : Int)].length ce), (.slice be (turnD p n d).length de)] 25)
          generalize (w5.alloc (.cells #[(.slice ae [(n : Int), (p : Int)].length ce), (.slice be (turnD p n d).length de)] 25)) = w6 at *
          have K6 := hide ((unhide K5).trans q6)
          have A_6 := hide ((unhide A_5).keep q6)
          have D_6 := hide ((unhide D_5).keep q6)
          have Se_6 := hide ((unhide Se_5).keep q6)
          have De_6 := hide ((unhide De_5).keep q6)
          have X_6 := hide ((unhide X_5).keep q6)
          clear K5 A_5 D_5 Se_5 De_5 X_5 X0_5 X1_5 X4_5
          obtain ⟨X0_6, X1_6, -, -, X4_6⟩ := (unhide X_6).o
          clear q6
          generalize w5.heap.size = B_Be at *
          obtain ⟨Be0_6, Be1_6, -, -, Be4_6⟩ := (unhide Be_6).o
          clear sh1
          refine (turn_all _ _ [(n : Int), (p : Int)] (turnD p n d) w6 (unhide Se_6) (unhide De_6)).mono ?_
          rw [(unhide E2).1, (unhide E2).2.1, (unhide E2).2.2]
          rintro e w7 ⟨⟨au, cu, bu, du, rfl, su, fu, uu, vu⟩, k7⟩
          have K7 := hide ((unhide K6).trans k7)
          have A_7 := hide ((unhide A_6).keep k7)
          have D_7 := hide ((unhide D_6).keep k7)
          have Se_7 := hide ((unhide Se_6).keep k7)
          have De_7 := hide ((unhide De_6).keep k7)
          have X_7 := hide ((unhide X_6).keep k7)
          have Be_7 := hide ((unhide Be_6).keep k7)
          clear K6 A_6 D_6 Se_6 De_6 X_6 X0_6 X1_6 X4_6 Be_6 Be0_6 Be1_6 Be4_6
          obtain ⟨X0_7, X1_7, -, -, X4_7⟩ := (unhide X_7).o
          obtain ⟨Be0_7, Be1_7, -, -, Be4_7⟩ := (unhide Be_7).o
          clear k7
          have Ru : Hid (Roomy (.slice bu d.length du)) := roomy _ _ _ uu vu
          clear uu vu
          have Su_7 := hide su
          have Du_7 := hide fu
          clear su fu
          go_wp2_with fail
          have Bu_8 := hide (Bx.madeAt w7 (.slice au [(p : Int), (n : Int)].length cu) (.slice bu d.length du) (w7.heap.size) rfl)
          have q8 := Kp.alloc w7 (.cells #[(.slice au [(p : Int), (n : Int)].length cu), (.slice bu d.length du)] 25)
          generalize (w7.alloc (.cells #[(.slice au [(p : Int), (n : Int)].length cu), (.slice bu d.length du)] 25)) = w8 at *
          have K8 := hide ((unhide K7).trans q8)
          have A_8 := hide ((unhide A_7).keep q8)
          have D_8 := hide ((unhide D_7).keep q8)
          have Se_8 := hide ((unhide Se_7).keep q8)
          have De_8 := hide ((unhide De_7).keep q8)
          have Su_8 := hide ((unhide Su_7).keep q8)
          have Du_8 := hide ((unhide Du_7).keep q8)
          have X_8 := hide ((unhide X_7).keep q8)
          have Be_8 := hide ((unhide Be_7).keep q8)
          clear K7 A_7 D_7 Se_7 De_7 Su_7 Du_7 X_7 X0_7 X1_7 X4_7 Be_7 Be0_7 Be1_7 Be4_7
          obtain ⟨X0_8, X1_8, -, -, X4_8⟩ := (unhide X_8).o
          obtain ⟨Be0_8, Be1_8, -, -, Be4_8⟩ := (unhide Be_8).o
          clear q8
          generalize w7.heap.size = B_Bu at *
          obtain ⟨Bu0_8, Bu1_8, -, -, Bu4_8⟩ := (unhide Bu_8).o
          refine (rsameT_any _ _ _ _ [(p : Int), (n : Int)] d [(p : Int), (n : Int)] d w8 (unhide Su_8) (unhide Du_8) (unhide A_8) (unhide D_8)).mono ?_
          rw [sameT_refl5]
          rintro e w9 ⟨rfl, k9⟩
          have K9 := hide ((unhide K8).trans k9)
          have A_9 := hide ((unhide A_8).keep k9)
          have D_9 := hide ((unhide D_8).keep k9)
          have Se_9 := hide ((unhide Se_8).keep k9)
          have De_9 := hide ((unhide De_8).keep k9)
          have Su_9 := hide ((unhide Su_8).keep k9)
          have Du_9 := hide ((unhide Du_8).keep k9)
          have X_9 := hide ((unhide X_8).keep k9)
          have Be_9 := hide ((unhide Be_8).keep k9)
          have Bu_9 := hide ((unhide Bu_8).keep k9)
          clear K8 A_8 D_8 Se_8 De_8 Su_8 Du_8 X_8 X0_8 X1_8 X4_8 Be_8 Be0_8 Be1_8 Be4_8 Bu_8 Bu0_8 Bu1_8 Bu4_8
          obtain ⟨X0_9, X1_9, -, -, X4_9⟩ := (unhide X_9).o
          obtain ⟨Be0_9, Be1_9, -, -, Be4_9⟩ := (unhide Be_9).o
          obtain ⟨Bu0_9, Bu1_9, -, -, Bu4_9⟩ := (unhide Bu_9).o
          clear k9
          clear Se_9
          clear De_9
          clear Su_9
          clear Du_9
          have sh1 := unhide HSH _ (unhide K9)
          go_wp2_with fail
          have N_10 := hide (lit_ints w9 3 [(n : Int), (n : Int)] #[.int .i64 (n : Int), .int .i64 (n : Int)] (w9.heap.size) 2 rfl rfl rfl (i64_two n40 n40) (by decide))
          have q10 := Kp.alloc w9 (.cells #[.int .i64 (n : Int), .int .i64 (n : Int)] 3)
          generalize (w9.alloc (.cells #[.int .i64 (n : Int), .int .i64 (n : Int)] 3)) = w10 at *
          have K10 := hide ((unhide K9).trans q10)
          have A_10 := hide ((unhide A_9).keep q10)
          have D_10 := hide ((unhide D_9).keep q10)
          have X_10 := hide ((unhide X_9).keep q10)
          have Be_10 := hide ((unhide Be_9).keep q10)
          have Bu_10 := hide ((unhide Bu_9).keep q10)
          clear K9 A_9 D_9 X_9 X0_9 X1_9 X4_9 Be_9 Be0_9 Be1_9 Be4_9 Bu_9 Bu0_9 Bu1_9 Bu4_9
          obtain ⟨X0_10, X1_10, -, -, X4_10⟩ := (unhide X_10).o
          obtain ⟨Be0_10, Be1_10, -, -, Be4_10⟩ := (unhide Be_10).o
          obtain ⟨Bu0_10, Bu1_10, -, -, Bu4_10⟩ := (unhide Bu_10).o
          clear q10
          generalize w9.heap.size = B_N at *
          clear sh1
          have KB := K10
          refine (rnew_yes _ [(n : Int), (n : Int)] 0 w10 (unhide N_10) (unhide MB)).mono ?_
          rintro e w11 ⟨a1, n1', c1, G, q, rfl, hn, o1, hG, og, k11⟩
          have K11 := hide ((unhide K10).trans k11)
          have A_11 := hide ((unhide A_10).keep k11)
          have D_11 := hide ((unhide D_10).keep k11)
          have N_11 := hide ((unhide N_10).keep k11)
          have X_11 := hide ((unhide X_10).keep k11)
          have Be_11 := hide ((unhide Be_10).keep k11)
          have Bu_11 := hide ((unhide Bu_10).keep k11)
          clear K10 A_10 D_10 N_10 X_10 X0_10 X1_10 X4_10 Be_10 Be0_10 Be1_10 Be4_10 Bu_10 Bu0_10 Bu1_10 Bu4_10
          obtain ⟨X0_11, X1_11, -, -, X4_11⟩ := (unhide X_11).o
          obtain ⟨Be0_11, Be1_11, -, -, Be4_11⟩ := (unhide Be_11).o
          obtain ⟨Bu0_11, Bu1_11, -, -, Bu4_11⟩ := (unhide Bu_11).o
          clear k11
          rw [prodL_two] at hn
          obtain rfl : q = n * n := by omega
          have O_11 := hide o1
          have G_11 := hide og
          have GS : Hid (w.heap.size ≤ G) := Nat.le_trans (unhide KB).size hG
          clear o1 og hG hn
          clear N_11
          go_upto_region 11 with fail
          have T_12 := hide (Bx.madeAt w11 (.slice a1 n1' c1) (.slice (some ⟨G, 0, none⟩) (n * n) (n * n)) (w11.heap.size) rfl)
          have q12 := Kp.alloc w11 (.cells #[(.slice a1 n1' c1), (.slice (some ⟨G, 0, none⟩) (n * n) (n * n))] 25)
          generalize (w11.alloc (.cells #[(.slice a1 n1' c1), (.slice (some ⟨G, 0, none⟩) (n * n) (n * n))] 25)) = w12 at *
          have K12 := hide ((unhide K11).trans q12)
          have A_12 := hide ((unhide A_11).keep q12)
          have D_12 := hide ((unhide D_11).keep q12)
          have O_12 := hide ((unhide O_11).keep q12)
          have G_12 := hide ((unhide G_11).keep q12)
          have X_12 := hide ((unhide X_11).keep q12)
          have Be_12 := hide ((unhide Be_11).keep q12)
          have Bu_12 := hide ((unhide Bu_11).keep q12)
          clear K11 A_11 D_11 O_11 G_11 X_11 X0_11 X1_11 X4_11 Be_11 Be0_11 Be1_11 Be4_11 Bu_11 Bu0_11 Bu1_11 Bu4_11
          obtain ⟨X0_12, X1_12, -, -, X4_12⟩ := (unhide X_12).o
          obtain ⟨Be0_12, Be1_12, -, -, Be4_12⟩ := (unhide Be_12).o
          obtain ⟨Bu0_12, Bu1_12, -, -, Bu4_12⟩ := (unhide Bu_12).o
          clear q12
          generalize w11.heap.size = B_T at *
          obtain ⟨T0_12, T1_12, -, -, T4_12⟩ := (unhide T_12).o
          have hTG : ¬ B_T = G := (unhide T_12).neG (unhide G_12) (by decide)
          have hXG : ¬ B_X = G := (unhide X_12).neG (unhide G_12) (by decide)
          have hst : ∀ (a : Addr) (x : Nat) (w : World), (store a (.float .f64 x)).run Try.prog w = stored Try.prog w a (.float .f64 x) .plain := fun a x w => run_store _ w a _ _ rfl
          clear X0_12 X1_12 X4_12 Be0_12 Be1_12 Be4_12 Bu0_12 Bu1_12 Bu4_12 T0_12 T1_12 T4_12
          go_wp2
          go_loopw [10] (fun i wr => ∃ k : Nat, k ≤ n ∧ i = .int .i64 k ∧ Hid (OwnG wr 42 G (n * n) (n * n) (onesL n k)) ∧ Hid (Kx G w12 wr)) (fun i _ => n - (intOf i).toNat)
          case atStart => exact ⟨0, Nat.zero_le _, rfl, by rw [onesL_zero]; exact (unhide G_12), Kx.refl _ _⟩
          case round =>
            obtain ⟨k, hk, rfl, OG, KR⟩ := hrel
            generalize wr = w50 at *
            by_cases hlt : k < n
            · have hltI : (k : Int) < (n : Int) := by omega
              have q2 : k * n + k < n * n := inrow hlt hlt
              have i0 : (k : Int) * (n : Int) = ((k * n : Nat) : Int) := by simp
              have k0 : (n : Int) * (n : Int) = ((n * n : Nat) : Int) := by simp
              have i1 : 0 ≤ (k : Int) * (n : Int) := by rw [i0]; omega
              have i2 : (k : Int) * (n : Int) ≤ 4096 := by rw [i0]; omega
              have hi1 : 0 ≤ (k : Int) * (n : Int) + (k : Int) := by omega
              have hi2 : (k : Int) * (n : Int) + (k : Int) < ((n * n : Nat) : Int) := by rw [i0]; omega
              have hi2' : (k : Int) * (n : Int) + (k : Int) < (n : Int) * (n : Int) := by rw [i0, k0]; omega
              have hi3 : ((k : Int) * (n : Int) + (k : Int)).toNat = k * n + k := by rw [i0]; omega
              have hw1 : IntKind.i64.wrap ((k : Int) * (n : Int)) = (k : Int) * (n : Int) := wrap_64 i1 (by omega)
              have hw2 : IntKind.i64.wrap ((k : Int) * (n : Int) + (k : Int)) = (k : Int) * (n : Int) + (k : Int) := wrap_64 hi1 (by omega)
              have tb := (unhide T_12).keepx (unhide KR) hTG
              obtain ⟨t0, t1, -, -, -⟩ := tb.o
              have hgc := (unhide OG).cell q2
              have hgf := (unhide OG).frozen (k * n + k)
              have OS := hide ((unhide OG).set (k * n + k) 4607182418800017408)
              rw [onesL_set hlt] at OS
              have KS := hide ((unhide KR).set (k * n + k) (.float .f64 4607182418800017408))
              generalize (onesL n k).getD (k * n + k) 0 = old at *
              clear i0 k0 tb
              go_wp2
              generalize (w50.setCell ⟨G, k * n + k, none⟩ (.float .f64 4607182418800017408)) = w51 at *
              go_roundw
              case rel => exact ⟨k + 1, by omega, by go_num, unhide OS, unhide KS⟩
              case measure => simp [intOf]; omega
            · obtain rfl : k = n := by omega
              have hltI : ¬ (k : Int) < (k : Int) := by omega
              have K_50 : Hid (Kp w w50) := Kx.after (unhide K12) (unhide KR) (unhide GS)
              have A_50 := hide ((unhide A00).keep (unhide K_50))
              have D_50 := hide ((unhide D00).keep (unhide K_50))
              have M_50 := hide (((unhide O_12).keepx (unhide G_12) (by decide) (unhide KR)).ints (i64_two n40 n40) (by simp))
              have E_50 := hide ((unhide OG).flts (ones_w64 k k) (by omega))
              have X_50 := hide ((unhide X_12).keepx (unhide KR) hXG)
              have T_50 := hide ((unhide T_12).keepx (unhide KR) hTG)
              have RO : Hid (Roomy (.slice p' d.length c')) := R0
              obtain ⟨X0_50, X1_50, -, -, X4_50⟩ := (unhide X_50).o
              obtain ⟨T0_50, T1_50, -, -, T4_50⟩ := (unhide T_50).o
              clear KR OG K12 O_12 G_12 A_12 D_12 X_12 Be_12 Bu_12 T_12
              go_wp2_with fail
              refine (mul_all _ _ _ _ [(p : Int), (k : Int)] [(k : Int), (k : Int)] d (onesL k k) w50 (unhide A_50) (unhide D_50) (unhide RO) (unhide M_50) (unhide E_50)).mono ?_
              rw [(unhide E3).1, (unhide E3).2.1, (unhide E3).2.2]
              rintro e w51 ⟨lx, ⟨ax, cx, bx, dx, rfl, sx, fx, ux, vx⟩, hx, k51⟩
              have K51 := hide ((unhide K_50).trans k51)
              have A_51 := hide ((unhide A_50).keep k51)
              have D_51 := hide ((unhide D_50).keep k51)
              have M_51 := hide ((unhide M_50).keep k51)
              have E_51 := hide ((unhide E_50).keep k51)
              have X_51 := hide ((unhide X_50).keep k51)
              have T_51 := hide ((unhide T_50).keep k51)
              clear K_50 A_50 D_50 M_50 E_50 X_50 X0_50 X1_50 X4_50 T_50 T0_50 T1_50 T4_50
              obtain ⟨X0_51, X1_51, -, -, X4_51⟩ := (unhide X_51).o
              obtain ⟨T0_51, T1_51, -, -, T4_51⟩ := (unhide T_51).o
              clear k51
              have Hx := hide hx
              clear hx
              have Rx : Hid (Roomy (.slice bx lx.length dx)) := roomy _ _ _ ux vx
              clear ux vx
              have Sx_51 := hide sx
              have Dx_51 := hide fx
              clear sx fx
              go_wp2_with fail
              have Bx_52 := hide (Bx.madeAt w51 (.slice ax [(p : Int), (k : Int)].length cx) (.slice bx lx.length dx) (w51.heap.size) rfl)
              have q52 := Kp.alloc w51 (.cells #[(.slice ax [(p : Int), (k : Int)].length cx), (.slice bx lx.length dx)] 25)
              generalize (w51.alloc (.cells #[(.slice ax [(p : Int), (k : Int)].length cx), (.slice bx lx.length dx)] 25)) = w52 at *
              have K52 := hide ((unhide K51).trans q52)
              have A_52 := hide ((unhide A_51).keep q52)
              have D_52 := hide ((unhide D_51).keep q52)
              have M_52 := hide ((unhide M_51).keep q52)
              have E_52 := hide ((unhide E_51).keep q52)
              have Sx_52 := hide ((unhide Sx_51).keep q52)
              have Dx_52 := hide ((unhide Dx_51).keep q52)
              have X_52 := hide ((unhide X_51).keep q52)
              have T_52 := hide ((unhide T_51).keep q52)
              clear K51 A_51 D_51 M_51 E_51 Sx_51 Dx_51 X_51 X0_51 X1_51 X4_51 T_51 T0_51 T1_51 T4_51
              obtain ⟨X0_52, X1_52, -, -, X4_52⟩ := (unhide X_52).o
              obtain ⟨T0_52, T1_52, -, -, T4_52⟩ := (unhide T_52).o
              clear q52
              generalize w51.heap.size = B_Bx at *
              obtain ⟨Bx0_52, Bx1_52, -, -, Bx4_52⟩ := (unhide Bx_52).o
              cases hft : finT [(p : Int), (k : Int)] d
              · refine (rfinT_any _ _ [(p : Int), (k : Int)] d w52 (unhide A_52) (unhide D_52)).mono ?_
                rw [hft]
                rintro e w53 ⟨rfl, k53⟩
                have K53 := hide ((unhide K52).trans k53)
                have A_53 := hide ((unhide A_52).keep k53)
                have D_53 := hide ((unhide D_52).keep k53)
                have M_53 := hide ((unhide M_52).keep k53)
                have E_53 := hide ((unhide E_52).keep k53)
                have Sx_53 := hide ((unhide Sx_52).keep k53)
                have Dx_53 := hide ((unhide Dx_52).keep k53)
                have X_53 := hide ((unhide X_52).keep k53)
                have T_53 := hide ((unhide T_52).keep k53)
                have Bx_53 := hide ((unhide Bx_52).keep k53)
                clear K52 A_52 D_52 M_52 E_52 Sx_52 Dx_52 X_52 X0_52 X1_52 X4_52 T_52 T0_52 T1_52 T4_52 Bx_52 Bx0_52 Bx1_52 Bx4_52
                obtain ⟨X0_53, X1_53, -, -, X4_53⟩ := (unhide X_53).o
                obtain ⟨T0_53, T1_53, -, -, T4_53⟩ := (unhide T_53).o
                obtain ⟨Bx0_53, Bx1_53, -, -, Bx4_53⟩ := (unhide Bx_53).o
                clear k53
                go_wp2
                go_ret
                exact ⟨rfl, unhide K53⟩
              · have FQ := hide (one_eq (unhide DL) (fin_all (unhide D00).wf hft) (unhide Hx))
                have HFT := hide hft
                clear hft
                refine (rfinT_any _ _ [(p : Int), (k : Int)] d w52 (unhide A_52) (unhide D_52)).mono ?_
                rw [unhide HFT]
                rintro e w53 ⟨rfl, k53⟩
                have K53 := hide ((unhide K52).trans k53)
                have A_53 := hide ((unhide A_52).keep k53)
                have D_53 := hide ((unhide D_52).keep k53)
                have M_53 := hide ((unhide M_52).keep k53)
                have E_53 := hide ((unhide E_52).keep k53)
                have Sx_53 := hide ((unhide Sx_52).keep k53)
                have Dx_53 := hide ((unhide Dx_52).keep k53)
                have X_53 := hide ((unhide X_52).keep k53)
                have T_53 := hide ((unhide T_52).keep k53)
                have Bx_53 := hide ((unhide Bx_52).keep k53)
                clear K52 A_52 D_52 M_52 E_52 Sx_52 Dx_52 X_52 X0_52 X1_52 X4_52 T_52 T0_52 T1_52 T4_52 Bx_52 Bx0_52 Bx1_52 Bx4_52
                obtain ⟨X0_53, X1_53, -, -, X4_53⟩ := (unhide X_53).o
                obtain ⟨T0_53, T1_53, -, -, T4_53⟩ := (unhide T_53).o
                obtain ⟨Bx0_53, Bx1_53, -, -, Bx4_53⟩ := (unhide Bx_53).o
                clear k53
                go_wp2_with fail
                refine (equal_any _ _ _ _ [(p : Int), (k : Int)] lx d w53 (unhide Sx_53) (unhide Dx_53) (unhide A_53) (unhide D_53) (unhide FQ).1 (fun q hq => (unhide FQ).2 q (by rw [← (unhide FQ).1]; exact hq))).mono ?_
                rintro e w54 ⟨rfl, k54⟩
                have K54 := hide ((unhide K53).trans k54)
                have A_54 := hide ((unhide A_53).keep k54)
                have D_54 := hide ((unhide D_53).keep k54)
                have M_54 := hide ((unhide M_53).keep k54)
                have E_54 := hide ((unhide E_53).keep k54)
                have Sx_54 := hide ((unhide Sx_53).keep k54)
                have Dx_54 := hide ((unhide Dx_53).keep k54)
                have X_54 := hide ((unhide X_53).keep k54)
                have T_54 := hide ((unhide T_53).keep k54)
                have Bx_54 := hide ((unhide Bx_53).keep k54)
                clear K53 A_53 D_53 M_53 E_53 Sx_53 Dx_53 X_53 X0_53 X1_53 X4_53 T_53 T0_53 T1_53 T4_53 Bx_53 Bx0_53 Bx1_53 Bx4_53
                obtain ⟨X0_54, X1_54, -, -, X4_54⟩ := (unhide X_54).o
                obtain ⟨T0_54, T1_54, -, -, T4_54⟩ := (unhide T_54).o
                obtain ⟨Bx0_54, Bx1_54, -, -, Bx4_54⟩ := (unhide Bx_54).o
                clear k54
                go_wp2
                go_ret
                exact ⟨rfl, unhide K54⟩
        · have hnI : decide ((40 : Int) < (n : Int)) = true := decide_eq_true (by omega)
          have hnJ : ((40 : Int) < (n : Int)) := by omega
          clear dl dm
          go_enter Try.func6, Try.ntmps6
          go_wp2_with fail
          have X_1 := hide (Bx.madeAt w (.slice (some ⟨bs, os, none⟩) 2 c) (.slice p' d.length c') (w.heap.size) rfl)
          have q1 := Kp.alloc w (.cells #[(.slice (some ⟨bs, os, none⟩) 2 c), (.slice p' d.length c')] 25)
          generalize (w.alloc (.cells #[(.slice (some ⟨bs, os, none⟩) 2 c), (.slice p' d.length c')] 25)) = w1 at *
          have K1 := hide q1
          have A_1 := hide ((unhide A_0).keep q1)
          have D_1 := hide ((unhide D_0).keep q1)
          clear A_0 D_0
          clear q1
          generalize w.heap.size = B_X at *
          obtain ⟨X0_1, X1_1, -, -, X4_1⟩ := (unhide X_1).o
          refine (awake5_any w1).mono ?_
          rintro e w2 ⟨rfl, k2⟩
          have K2 := hide ((unhide K1).trans k2)
          have A_2 := hide ((unhide A_1).keep k2)
          have D_2 := hide ((unhide D_1).keep k2)
          have X_2 := hide ((unhide X_1).keep k2)
          clear K1 A_1 D_1 X_1 X0_1 X1_1 X4_1
          obtain ⟨X0_2, X1_2, -, -, X4_2⟩ := (unhide X_2).o
          clear k2
          go_wp2_with fail
          refine (small_any _ p' _ c d.length c' w2 mf md).mono ?_
          rw [unhide GT]
          rintro e w3 ⟨rfl, k3⟩
          have K3 := hide ((unhide K2).trans k3)
          have A_3 := hide ((unhide A_2).keep k3)
          have D_3 := hide ((unhide D_2).keep k3)
          have X_3 := hide ((unhide X_2).keep k3)
          clear K2 A_2 D_2 X_2 X0_2 X1_2 X4_2
          obtain ⟨X0_3, X1_3, -, -, X4_3⟩ := (unhide X_3).o
          clear k3
          go_wp2_with fail
          refine (rmayT_any _ _ [(p : Int), (n : Int)] d w3 (unhide A_3) (unhide D_3)).mono ?_
          rw [unhide MT]
          rintro e w4 ⟨rfl, k4⟩
          have K4 := hide ((unhide K3).trans k4)
          have A_4 := hide ((unhide A_3).keep k4)
          have D_4 := hide ((unhide D_3).keep k4)
          have X_4 := hide ((unhide X_3).keep k4)
          clear K3 A_3 D_3 X_3 X0_3 X1_3 X4_3
          obtain ⟨X0_4, X1_4, -, -, X4_4⟩ := (unhide X_4).o
          clear k4
          have sh1 := unhide HSH _ (unhide K4)
          go_wp2
          go_ret
          exact ⟨rfl, unhide K4⟩
      · have hll : ((f.length : Int) != 2) = true := by rw [bne_iff_ne]; omega
        clear mt hl
        go_enter Try.func6, Try.ntmps6
        go_wp2_with fail
        have X_1 := hide (Bx.madeAt w (.slice p0 f.length c) (.slice p' d.length c') (w.heap.size) rfl)
        have q1 := Kp.alloc w (.cells #[(.slice p0 f.length c), (.slice p' d.length c')] 25)
        generalize (w.alloc (.cells #[(.slice p0 f.length c), (.slice p' d.length c')] 25)) = w1 at *
        have K1 := hide q1
        have A_1 := hide ((unhide A_0).keep q1)
        have D_1 := hide ((unhide D_0).keep q1)
        clear A_0 D_0
        clear q1
        generalize w.heap.size = B_X at *
        obtain ⟨X0_1, X1_1, -, -, X4_1⟩ := (unhide X_1).o
        refine (awake5_any w1).mono ?_
        rintro e w2 ⟨rfl, k2⟩
        have K2 := hide ((unhide K1).trans k2)
        have A_2 := hide ((unhide A_1).keep k2)
        have D_2 := hide ((unhide D_1).keep k2)
        have X_2 := hide ((unhide X_1).keep k2)
        clear K1 A_1 D_1 X_1 X0_1 X1_1 X4_1
        obtain ⟨X0_2, X1_2, -, -, X4_2⟩ := (unhide X_2).o
        clear k2
        go_wp2_with fail
        refine (small_any _ p' _ c d.length c' w2 mf md).mono ?_
        rw [unhide GT]
        rintro e w3 ⟨rfl, k3⟩
        have K3 := hide ((unhide K2).trans k3)
        have A_3 := hide ((unhide A_2).keep k3)
        have D_3 := hide ((unhide D_2).keep k3)
        have X_3 := hide ((unhide X_2).keep k3)
        clear K2 A_2 D_2 X_2 X0_2 X1_2 X4_2
        obtain ⟨X0_3, X1_3, -, -, X4_3⟩ := (unhide X_3).o
        clear k3
        go_wp2_with fail
        refine (rmayT_any _ _ f d w3 (unhide A_3) (unhide D_3)).mono ?_
        rw [unhide MT]
        rintro e w4 ⟨rfl, k4⟩
        have K4 := hide ((unhide K3).trans k4)
        have A_4 := hide ((unhide A_3).keep k4)
        have D_4 := hide ((unhide D_3).keep k4)
        have X_4 := hide ((unhide X_3).keep k4)
        clear K3 A_3 D_3 X_3 X0_3 X1_3 X4_3
        obtain ⟨X0_4, X1_4, -, -, X4_4⟩ := (unhide X_4).o
        clear k4
        go_wp2
        go_ret
        exact ⟨rfl, unhide K4⟩
  · have GT : Hid ((decide (f.length ≤ 40) && decide (d.length ≤ 8192)) = false) := eq_false_of_ne_true gt
    clear gt h0 h1
    go_enter Try.func6, Try.ntmps6
    go_wp2_with fail
    have X_1 := hide (Bx.madeAt w (.slice p0 f.length c) (.slice p' d.length c') (w.heap.size) rfl)
    have q1 := Kp.alloc w (.cells #[(.slice p0 f.length c), (.slice p' d.length c')] 25)
    generalize (w.alloc (.cells #[(.slice p0 f.length c), (.slice p' d.length c')] 25)) = w1 at *
    have K1 := hide q1
    clear q1
    generalize w.heap.size = B_X at *
    obtain ⟨X0_1, X1_1, -, -, X4_1⟩ := (unhide X_1).o
    refine (awake5_any w1).mono ?_
    rintro e w2 ⟨rfl, k2⟩
    have K2 := hide ((unhide K1).trans k2)
    have X_2 := hide ((unhide X_1).keep k2)
    clear K1 X_1 X0_1 X1_1 X4_1
    obtain ⟨X0_2, X1_2, -, -, X4_2⟩ := (unhide X_2).o
    clear k2
    go_wp2_with fail
    refine (small_any _ p' _ c d.length c' w2 mf md).mono ?_
    rw [unhide GT]
    rintro e w3 ⟨rfl, k3⟩
    have K3 := hide ((unhide K2).trans k3)
    have X_3 := hide ((unhide X_2).keep k3)
    clear K2 X_2 X0_2 X1_2 X4_2
    obtain ⟨X0_3, X1_3, -, -, X4_3⟩ := (unhide X_3).o
    clear k3
    go_wp2
    go_ret
    exact ⟨rfl, unhide K3⟩

end Go.Proofs.Ytgdmhmnmhfpkkaa
