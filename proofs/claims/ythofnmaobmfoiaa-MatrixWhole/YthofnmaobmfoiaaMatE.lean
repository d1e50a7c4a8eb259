
/- Contracts of Mul where matrices fit. -/
import Derived.Test.YthofnmaobmfoiaaMatD
namespace Go.Proofs.Ythofnmaobmfoiaa
open Go.RowKit

set_option maxHeartbeats 4000000 in
theorem mul_fit (sv dv sv2 dv2 : Value) (p m n : Nat) (d e : List Nat) (w : World) (h1 : Ints w sv [(p : Int), (m : Int)]) (hd : Flts w dv d) (hr : Roomy dv) (h2 : Ints w sv2 [(m : Int), (n : Int)]) (hd2 : Flts w dv2 e) (p1 : 1 ≤ p) (m1 : 1 ≤ m) (n1 : 1 ≤ n) (dl : d.length = p * m) (dm : p * m ≤ 4096) (el : e.length = m * n) (em : m * n ≤ 4096) (hs : p * n ≤ 4096) :
    Calls Try.prog 6 #[.agg #[sv, dv], .agg #[sv2, dv2]] w fun ee w' => ∃ a1 n1 c1 G c ds, ee = .returned (.tuple #[.agg #[.slice a1 n1 c1, .slice (some ⟨G, 0, none⟩) ds.length c], .int .i64 0]) ∧ Fin w w' [(p : Int), (n : Int)] a1 n1 c1 G c ds ∧ ds.map cn = mulL p m n d e ∧ (∀ x ∈ ds, W64 x) := by
  have H1 := hide h1
  have H2 := hide h2
  have D1 := hide hd
  have D2 := hide hd2
  have RM := hide hr
  have E1 : Hid (matB [(p : Int), (m : Int)] d = true) := matB_yes.2 ⟨mayT_two p1 m1 dl dm, rfl⟩
  have E2 : Hid (matB [(m : Int), (n : Int)] e = true) := matB_yes.2 ⟨mayT_two m1 n1 el em, rfl⟩
  have PM := hide (show p ≤ 4096 ∧ m ≤ 4096 ∧ n ≤ 4096 from ⟨le_mul_l m1 dm, le_mul_r p1 dm, le_mul_r m1 em⟩)
  obtain ⟨bs, os, cS, rfl, hbs, hs0, hs1⟩ := h1.two
  obtain ⟨bt, ot, cT, rfl, hbt, ht0, ht1⟩ := h2.two
  obtain ⟨aD, cD, rfl, -⟩ := hd.val
  obtain ⟨aE, cE, rfl, -⟩ := hd2.val
  have hne : ((m : Int) != (m : Int)) = false := by simp
  have DL := hide dl
  have DM := hide dm
  have EL := hide el
  have EM := hide em
  generalize hnD : d.length = nD at *
  generalize hnE : e.length = nE at *
  have HND := hide hnD
  have HNE := hide hnE
  clear h1 hd h2 hd2 hr hnD hnE dl dm el em
  go_enter Try.func6, Try.ntmps6
  go_wp2_with fail
  obtain ⟨W, hW, x1, x2, x3, k0⟩ := boxes3_in w (.slice (some ⟨bs, os, none⟩) 2 cS) (.slice aD nD cD) (.slice (some ⟨bt, ot, none⟩) 2 cT) (.slice aE nE cE) (.slice none 0 0) (.slice none 0 0)
  rw [← hW]
  clear hW
  have hRS : Hid (w.heap.size ≤ w.heap.size + 2) := by unfold Hid; omega
  have K0 := hide k0
  have X1 := hide x1
  have X2 := hide x2
  have X3 := hide x3
  clear x1 x2 x3 k0
  generalize w.heap.size + 2 = R at X3 hRS ⊢
  generalize w.heap.size + 1 = B2 at X2 ⊢
  generalize w.heap.size = B at X1 ⊢
  have C1 := hide (fun w0 (k : Kp W w0) => (mmay_any (.slice (some ⟨bs, os, none⟩) 2 cS) (.slice aD nD cD) [(p : Int), (m : Int)] d w0 ((unhide H1).keep ((unhide K0).trans k)) ((unhide D1).keep ((unhide K0).trans k))).mono (R' := fun ee w' => ee = .returned (.bool true) ∧ Hid (Kp W w') ∧ BxO w' B (.slice (some ⟨bs, os, none⟩) 2 cS) (.slice aD nD cD) ∧ BxO w' B2 (.slice (some ⟨bt, ot, none⟩) 2 cT) (.slice aE nE cE) ∧ BxO w' R (.slice none 0 0) (.slice none 0 0) ∧ w'.cell? ⟨bs, os, none⟩ = some (.int .i64 (p : Int)) ∧ w'.cell? ⟨bs, os + 1, none⟩ = some (.int .i64 (m : Int)) ∧ w'.cell? ⟨bt, ot, none⟩ = some (.int .i64 (m : Int)) ∧ w'.cell? ⟨bt, ot + 1, none⟩ = some (.int .i64 (n : Int))) (by
    rintro ee w' ⟨rfl, k'⟩
    exact ⟨by rw [unhide E1], k.trans k', ((unhide X1).keep (k.trans k')).o, ((unhide X2).keep (k.trans k')).o, ((unhide X3).keep (k.trans k')).o, (Below.cell ((unhide K0).trans (k.trans k')) (p := ⟨bs, os, none⟩) hbs).trans hs0, (Below.cell ((unhide K0).trans (k.trans k')) (p := ⟨bs, os + 1, none⟩) hbs).trans hs1, (Below.cell ((unhide K0).trans (k.trans k')) (p := ⟨bt, ot, none⟩) hbt).trans ht0, (Below.cell ((unhide K0).trans (k.trans k')) (p := ⟨bt, ot + 1, none⟩) hbt).trans ht1⟩))
  have C2 := hide (fun w0 (k : Kp W w0) => (mmay_any (.slice (some ⟨bt, ot, none⟩) 2 cT) (.slice aE nE cE) [(m : Int), (n : Int)] e w0 ((unhide H2).keep ((unhide K0).trans k)) ((unhide D2).keep ((unhide K0).trans k))).mono (R' := fun ee w' => ee = .returned (.bool true) ∧ Hid (Kp W w') ∧ BxO w' B (.slice (some ⟨bs, os, none⟩) 2 cS) (.slice aD nD cD) ∧ BxO w' B2 (.slice (some ⟨bt, ot, none⟩) 2 cT) (.slice aE nE cE) ∧ BxO w' R (.slice none 0 0) (.slice none 0 0) ∧ w'.cell? ⟨bs, os, none⟩ = some (.int .i64 (p : Int)) ∧ w'.cell? ⟨bs, os + 1, none⟩ = some (.int .i64 (m : Int)) ∧ w'.cell? ⟨bt, ot, none⟩ = some (.int .i64 (m : Int)) ∧ w'.cell? ⟨bt, ot + 1, none⟩ = some (.int .i64 (n : Int))) (by
    rintro ee w' ⟨rfl, k'⟩
    exact ⟨by rw [unhide E2], k.trans k', ((unhide X1).keep (k.trans k')).o, ((unhide X2).keep (k.trans k')).o, ((unhide X3).keep (k.trans k')).o, (Below.cell ((unhide K0).trans (k.trans k')) (p := ⟨bs, os, none⟩) hbs).trans hs0, (Below.cell ((unhide K0).trans (k.trans k')) (p := ⟨bs, os + 1, none⟩) hbs).trans hs1, (Below.cell ((unhide K0).trans (k.trans k')) (p := ⟨bt, ot, none⟩) hbt).trans ht0, (Below.cell ((unhide K0).trans (k.trans k')) (p := ⟨bt, ot + 1, none⟩) hbt).trans ht1⟩))
  obtain ⟨c0, c1, -, -, -⟩ := (unhide X1).o
  obtain ⟨b0, b1, -, -, -⟩ := (unhide X2).o
  obtain ⟨r0, r1, r2, r3, -⟩ := (unhide X3).o
  have s0 := (Below.cell (unhide K0) (p := ⟨bs, os, none⟩) hbs).trans hs0
  have s1 := (Below.cell (unhide K0) (p := ⟨bs, os + 1, none⟩) hbs).trans hs1
  have s2 := (Below.cell (unhide K0) (p := ⟨bt, ot, none⟩) hbt).trans ht0
  have s3 := (Below.cell (unhide K0) (p := ⟨bt, ot + 1, none⟩) hbt).trans ht1
  clear hs0 hs1 ht0 ht1
  try go_wp2_with fail
  go_region_held3 (fun w' => w'.cell? ⟨B, 0, none⟩ = some (.slice (some ⟨bs, os, none⟩) 2 cS) ∧ w'.cell? ⟨B, 1, none⟩ = some (.slice aD nD cD) ∧ w'.cell? ⟨B2, 0, none⟩ = some (.slice (some ⟨bt, ot, none⟩) 2 cT) ∧ w'.cell? ⟨B2, 1, none⟩ = some (.slice aE nE cE) ∧ w'.cell? ⟨bs, os, none⟩ = some (.int .i64 (p : Int)) ∧ w'.cell? ⟨bs, os + 1, none⟩ = some (.int .i64 (m : Int)) ∧ w'.cell? ⟨bt, ot, none⟩ = some (.int .i64 (m : Int)) ∧ w'.cell? ⟨bt, ot + 1, none⟩ = some (.int .i64 (n : Int))) (go_keep)
    (first
      | (go_at_call_of 9 (Value.agg #[Value.slice (some (Addr.mk bs os none)) 2 cS, Value.slice aD nD cD]); refine ((unhide C1) _ ?_).mono ?_; (first | (exact unhide (by assumption)) | exact Kp.drew W); rintro ee z1 ⟨rfl, KX, ⟨c0, c1, -, -, -⟩, ⟨b0, b1, -, -, -⟩, ⟨r0, r1, r2, r3, -⟩, s0, s1, s2, s3⟩)
      | (go_at_call 9; refine ((unhide C2) _ ?_).mono ?_; (first | (exact unhide (by assumption)) | exact Kp.drew W); rintro ee z2 ⟨rfl, KX, ⟨c0, c1, -, -, -⟩, ⟨b0, b1, -, -, -⟩, ⟨r0, r1, r2, r3, -⟩, s0, s1, s2, s3⟩))
  clear C1 C2
  go_upto_region 3 with fail
  go_region_held3 (fun w' => w'.cell? ⟨B, 0, none⟩ = some (.slice (some ⟨bs, os, none⟩) 2 cS) ∧ w'.cell? ⟨B, 1, none⟩ = some (.slice aD nD cD) ∧ w'.cell? ⟨B2, 0, none⟩ = some (.slice (some ⟨bt, ot, none⟩) 2 cT) ∧ w'.cell? ⟨B2, 1, none⟩ = some (.slice aE nE cE) ∧ w'.cell? ⟨bs, os, none⟩ = some (.int .i64 (p : Int)) ∧ w'.cell? ⟨bs, os + 1, none⟩ = some (.int .i64 (m : Int)) ∧ w'.cell? ⟨bt, ot, none⟩ = some (.int .i64 (m : Int)) ∧ w'.cell? ⟨bt, ot + 1, none⟩ = some (.int .i64 (n : Int))) (go_keep) (fail)
  have ES : Hid (mayB [(p : Int), (n : Int)] = true) := by unfold Hid; rw [may_two p1 n1]; exact decide_eq_true hs
  have qa := (Kp.alloc z2 (.cells #[.int .i64 (p : Int), .int .i64 (n : Int)] 3)).trans (Kp.drew _)
  have LS : Hid (Ints (z2.alloc (.cells #[.int .i64 (p : Int), .int .i64 (n : Int)] 3)).drew (.slice (some ⟨z2.heap.size, 0, none⟩) 2 2) [(p : Int), (n : Int)]) := (lit_ints z2 3 [(p : Int), (n : Int)] #[.int .i64 (p : Int), .int .i64 (n : Int)] z2.heap.size 2 rfl rfl rfl (i64_two (unhide PM).1 (unhide PM).2.2) (by decide)).keep (Kp.drew _)
  have K3 := hide (((unhide K0).trans (unhide KX)).trans qa)
  have Y1 := hide ((unhide X1).keep ((unhide KX).trans qa))
  have Y2 := hide ((unhide X2).keep ((unhide KX).trans qa))
  have Y3 := hide ((unhide X3).keep ((unhide KX).trans qa))
  clear qa X1 X2 X3 hne
  generalize (z2.alloc (.cells #[.int .i64 (p : Int), .int .i64 (n : Int)] 3)).drew = w3 at *
  generalize z2.heap.size = L at *
  go_wp2_with fail
  refine (size_any _ [(p : Int), (n : Int)] w3 (unhide LS)).mono ?_
  rw [szE_yes (unhide ES), szN_yes (unhide ES)]
  generalize prodL [(p : Int), (n : Int)] = q
  rintro ee w4 ⟨rfl, k4⟩
  have Z1 := hide ((unhide Y1).keep k4)
  have Z2 := hide ((unhide Y2).keep k4)
  have Z3 := hide ((unhide Y3).keep k4)
  have K4 := hide ((unhide K3).trans k4)
  have LS4 := hide ((unhide LS).keep k4)
  clear k4 Y1 Y2 Y3 K3 LS
  obtain ⟨c0, c1, -, -, -⟩ := (unhide Z1).o
  obtain ⟨b0, b1, -, -, -⟩ := (unhide Z2).o
  go_wp2_with fail
  refine (mults_any _ _ _ _ p m n d e w4 ((unhide H1).keep (unhide K4)) ((unhide D1).keep (unhide K4)) (unhide RM) ((unhide H2).keep (unhide K4)) ((unhide D2).keep (unhide K4)) ((unhide HND).trans (unhide DL)) (unhide DM) ((unhide HNE).trans (unhide EL)) (unhide EM) p1 m1 n1 hs).mono ?_
  rintro ee w5 ⟨u5, ds, rfl, o5, hcn, hw5, k5⟩
  have hdl : ds.length = p * n := by have := congrArg List.length hcn; rw [List.length_map, mulL_length] at this; exact this
  have MT : Hid (mayT [(p : Int), (n : Int)] ds = true) := mayT_two p1 n1 hdl hs
  have FD := hide (o5.flts hw5 (by omega))
  have CN := hide hcn
  have HW := hide hw5
  obtain ⟨a5, n5, c5, rfl⟩ := o5.sl
  have Y3 := hide ((unhide Z3).keep k5)
  have K5 := hide ((unhide K4).trans k5)
  have LS5 := hide ((unhide LS4).keep k5)
  clear o5 hcn hw5 k5 c0 c1 b0 b1 Z1 Z2 Z3 K4 LS4 hdl
  go_wp2_with fail
  refine (of_yes _ _ [(p : Int), (n : Int)] ds w5 (unhide LS5) (unhide FD) (unhide MT)).mono ?_
  rintro ee w6 ⟨a1, m1', c1, G1, c, rfl, o1, hG1, og, k6⟩
  have z := (unhide Y3).keep k6
  obtain ⟨d0, d1, d2, d3, -⟩ := z.o
  have y9 := z.set (.slice a1 m1' c1) (.slice (some ⟨G1, 0, none⟩) ds.length c)
  obtain ⟨y0, y1, -, -, -⟩ := y9.o
  have FN := hide (Fin.mk' o1 hG1 og (unhide K5) k6 (unhide Y3) (unhide hRS))
  clear z y9 og o1 k6 hG1 FD
  go_wp2
  generalize ((w6.setCell ⟨R, 0, none⟩ (.slice a1 m1' c1)).setCell ⟨R, 1, none⟩ (.slice (some ⟨G1, 0, none⟩) ds.length c)) = w9 at *
  refine bodyPost_ret (v := .tuple #[.agg #[.slice a1 m1' c1, .slice (some ⟨G1, 0, none⟩) ds.length c], .int .i64 0]) (by simp [results, Try.results6, go_sem, y0, y1]) rfl ⟨a1, m1', c1, G1, c, ds, rfl, unhide FN, unhide CN, unhide HW⟩

set_option maxHeartbeats 4000000 in
theorem mul_over (sv dv sv2 dv2 : Value) (p m n : Nat) (d e : List Nat) (w : World) (h1 : Ints w sv [(p : Int), (m : Int)]) (hd : Flts w dv d) (hr : Roomy dv) (h2 : Ints w sv2 [(m : Int), (n : Int)]) (hd2 : Flts w dv2 e) (p1 : 1 ≤ p) (m1 : 1 ≤ m) (n1 : 1 ≤ n) (dl : d.length = p * m) (dm : p * m ≤ 4096) (el : e.length = m * n) (em : m * n ≤ 4096) (hs : ¬ p * n ≤ 4096) :
    Calls Try.prog 6 #[.agg #[sv, dv], .agg #[sv2, dv2]] w fun ee w' => ee = .returned (.tuple #[.agg #[.slice none 0 0, .slice none 0 0], .int .i64 3]) ∧ Kp w w' := by
  have H1 := hide h1
  have H2 := hide h2
  have D1 := hide hd
  have D2 := hide hd2
  have RM := hide hr
  have E1 : Hid (matB [(p : Int), (m : Int)] d = true) := matB_yes.2 ⟨mayT_two p1 m1 dl dm, rfl⟩
  have E2 : Hid (matB [(m : Int), (n : Int)] e = true) := matB_yes.2 ⟨mayT_two m1 n1 el em, rfl⟩
  have PM := hide (show p ≤ 4096 ∧ m ≤ 4096 ∧ n ≤ 4096 from ⟨le_mul_l m1 dm, le_mul_r p1 dm, le_mul_r m1 em⟩)
  obtain ⟨bs, os, cS, rfl, hbs, hs0, hs1⟩ := h1.two
  obtain ⟨bt, ot, cT, rfl, hbt, ht0, ht1⟩ := h2.two
  obtain ⟨aD, cD, rfl, -⟩ := hd.val
  obtain ⟨aE, cE, rfl, -⟩ := hd2.val
  have hne : ((m : Int) != (m : Int)) = false := by simp
  have DL := hide dl
  have DM := hide dm
  have EL := hide el
  have EM := hide em
  generalize hnD : d.length = nD at *
  generalize hnE : e.length = nE at *
  have HND := hide hnD
  have HNE := hide hnE
  clear h1 hd h2 hd2 hr hnD hnE dl dm el em
  go_enter Try.func6, Try.ntmps6
  go_wp2_with fail
  obtain ⟨W, hW, x1, x2, x3, k0⟩ := boxes3_in w (.slice (some ⟨bs, os, none⟩) 2 cS) (.slice aD nD cD) (.slice (some ⟨bt, ot, none⟩) 2 cT) (.slice aE nE cE) (.slice none 0 0) (.slice none 0 0)
  rw [← hW]
  clear hW
  have hRS : Hid (w.heap.size ≤ w.heap.size + 2) := by unfold Hid; omega
  have K0 := hide k0
  have X1 := hide x1
  have X2 := hide x2
  have X3 := hide x3
  clear x1 x2 x3 k0
  generalize w.heap.size + 2 = R at X3 hRS ⊢
  generalize w.heap.size + 1 = B2 at X2 ⊢
  generalize w.heap.size = B at X1 ⊢
  have C1 := hide (fun w0 (k : Kp W w0) => (mmay_any (.slice (some ⟨bs, os, none⟩) 2 cS) (.slice aD nD cD) [(p : Int), (m : Int)] d w0 ((unhide H1).keep ((unhide K0).trans k)) ((unhide D1).keep ((unhide K0).trans k))).mono (R' := fun ee w' => ee = .returned (.bool true) ∧ Hid (Kp W w') ∧ BxO w' B (.slice (some ⟨bs, os, none⟩) 2 cS) (.slice aD nD cD) ∧ BxO w' B2 (.slice (some ⟨bt, ot, none⟩) 2 cT) (.slice aE nE cE) ∧ BxO w' R (.slice none 0 0) (.slice none 0 0) ∧ w'.cell? ⟨bs, os, none⟩ = some (.int .i64 (p : Int)) ∧ w'.cell? ⟨bs, os + 1, none⟩ = some (.int .i64 (m : Int)) ∧ w'.cell? ⟨bt, ot, none⟩ = some (.int .i64 (m : Int)) ∧ w'.cell? ⟨bt, ot + 1, none⟩ = some (.int .i64 (n : Int))) (by
    rintro ee w' ⟨rfl, k'⟩
    exact ⟨by rw [unhide E1], k.trans k', ((unhide X1).keep (k.trans k')).o, ((unhide X2).keep (k.trans k')).o, ((unhide X3).keep (k.trans k')).o, (Below.cell ((unhide K0).trans (k.trans k')) (p := ⟨bs, os, none⟩) hbs).trans hs0, (Below.cell ((unhide K0).trans (k.trans k')) (p := ⟨bs, os + 1, none⟩) hbs).trans hs1, (Below.cell ((unhide K0).trans (k.trans k')) (p := ⟨bt, ot, none⟩) hbt).trans ht0, (Below.cell ((unhide K0).trans (k.trans k')) (p := ⟨bt, ot + 1, none⟩) hbt).trans ht1⟩))
  have C2 := hide (fun w0 (k : Kp W w0) => (mmay_any (.slice (some ⟨bt, ot, none⟩) 2 cT) (.slice aE nE cE) [(m : Int), (n : Int)] e w0 ((unhide H2).keep ((unhide K0).trans k)) ((unhide D2).keep ((unhide K0).trans k))).mono (R' := fun ee w' => ee = .returned (.bool true) ∧ Hid (Kp W w') ∧ BxO w' B (.slice (some ⟨bs, os, none⟩) 2 cS) (.slice aD nD cD) ∧ BxO w' B2 (.slice (some ⟨bt, ot, none⟩) 2 cT) (.slice aE nE cE) ∧ BxO w' R (.slice none 0 0) (.slice none 0 0) ∧ w'.cell? ⟨bs, os, none⟩ = some (.int .i64 (p : Int)) ∧ w'.cell? ⟨bs, os + 1, none⟩ = some (.int .i64 (m : Int)) ∧ w'.cell? ⟨bt, ot, none⟩ = some (.int .i64 (m : Int)) ∧ w'.cell? ⟨bt, ot + 1, none⟩ = some (.int .i64 (n : Int))) (by
    rintro ee w' ⟨rfl, k'⟩
    exact ⟨by rw [unhide E2], k.trans k', ((unhide X1).keep (k.trans k')).o, ((unhide X2).keep (k.trans k')).o, ((unhide X3).keep (k.trans k')).o, (Below.cell ((unhide K0).trans (k.trans k')) (p := ⟨bs, os, none⟩) hbs).trans hs0, (Below.cell ((unhide K0).trans (k.trans k')) (p := ⟨bs, os + 1, none⟩) hbs).trans hs1, (Below.cell ((unhide K0).trans (k.trans k')) (p := ⟨bt, ot, none⟩) hbt).trans ht0, (Below.cell ((unhide K0).trans (k.trans k')) (p := ⟨bt, ot + 1, none⟩) hbt).trans ht1⟩))
  obtain ⟨c0, c1, -, -, -⟩ := (unhide X1).o
  obtain ⟨b0, b1, -, -, -⟩ := (unhide X2).o
  obtain ⟨r0, r1, r2, r3, -⟩ := (unhide X3).o
  have s0 := (Below.cell (unhide K0) (p := ⟨bs, os, none⟩) hbs).trans hs0
  have s1 := (Below.cell (unhide K0) (p := ⟨bs, os + 1, none⟩) hbs).trans hs1
  have s2 := (Below.cell (unhide K0) (p := ⟨bt, ot, none⟩) hbt).trans ht0
  have s3 := (Below.cell (unhide K0) (p := ⟨bt, ot + 1, none⟩) hbt).trans ht1
  clear hs0 hs1 ht0 ht1
  try go_wp2_with fail
  go_region_held3 (fun w' => w'.cell? ⟨B, 0, none⟩ = some (.slice (some ⟨bs, os, none⟩) 2 cS) ∧ w'.cell? ⟨B, 1, none⟩ = some (.slice aD nD cD) ∧ w'.cell? ⟨B2, 0, none⟩ = some (.slice (some ⟨bt, ot, none⟩) 2 cT) ∧ w'.cell? ⟨B2, 1, none⟩ = some (.slice aE nE cE) ∧ w'.cell? ⟨bs, os, none⟩ = some (.int .i64 (p : Int)) ∧ w'.cell? ⟨bs, os + 1, none⟩ = some (.int .i64 (m : Int)) ∧ w'.cell? ⟨bt, ot, none⟩ = some (.int .i64 (m : Int)) ∧ w'.cell? ⟨bt, ot + 1, none⟩ = some (.int .i64 (n : Int))) (go_keep)
    (first
      | (go_at_call_of 9 (Value.agg #[Value.slice (some (Addr.mk bs os none)) 2 cS, Value.slice aD nD cD]); refine ((unhide C1) _ ?_).mono ?_; (first | (exact unhide (by assumption)) | exact Kp.drew W); rintro ee z1 ⟨rfl, KX, ⟨c0, c1, -, -, -⟩, ⟨b0, b1, -, -, -⟩, ⟨r0, r1, r2, r3, -⟩, s0, s1, s2, s3⟩)
      | (go_at_call 9; refine ((unhide C2) _ ?_).mono ?_; (first | (exact unhide (by assumption)) | exact Kp.drew W); rintro ee z2 ⟨rfl, KX, ⟨c0, c1, -, -, -⟩, ⟨b0, b1, -, -, -⟩, ⟨r0, r1, r2, r3, -⟩, s0, s1, s2, s3⟩))
  clear C1 C2
  go_upto_region 3 with fail
  go_region_held3 (fun w' => w'.cell? ⟨B, 0, none⟩ = some (.slice (some ⟨bs, os, none⟩) 2 cS) ∧ w'.cell? ⟨B, 1, none⟩ = some (.slice aD nD cD) ∧ w'.cell? ⟨B2, 0, none⟩ = some (.slice (some ⟨bt, ot, none⟩) 2 cT) ∧ w'.cell? ⟨B2, 1, none⟩ = some (.slice aE nE cE) ∧ w'.cell? ⟨bs, os, none⟩ = some (.int .i64 (p : Int)) ∧ w'.cell? ⟨bs, os + 1, none⟩ = some (.int .i64 (m : Int)) ∧ w'.cell? ⟨bt, ot, none⟩ = some (.int .i64 (m : Int)) ∧ w'.cell? ⟨bt, ot + 1, none⟩ = some (.int .i64 (n : Int))) (go_keep) (fail)
  have ES : Hid (mayB [(p : Int), (n : Int)] = false) := by unfold Hid; rw [may_two p1 n1]; exact decide_eq_false hs
  have qa := (Kp.alloc z2 (.cells #[.int .i64 (p : Int), .int .i64 (n : Int)] 3)).trans (Kp.drew _)
  have LS : Hid (Ints (z2.alloc (.cells #[.int .i64 (p : Int), .int .i64 (n : Int)] 3)).drew (.slice (some ⟨z2.heap.size, 0, none⟩) 2 2) [(p : Int), (n : Int)]) := (lit_ints z2 3 [(p : Int), (n : Int)] #[.int .i64 (p : Int), .int .i64 (n : Int)] z2.heap.size 2 rfl rfl rfl (i64_two (unhide PM).1 (unhide PM).2.2) (by decide)).keep (Kp.drew _)
  have K3 := hide (((unhide K0).trans (unhide KX)).trans qa)
  have Y1 := hide ((unhide X1).keep ((unhide KX).trans qa))
  have Y2 := hide ((unhide X2).keep ((unhide KX).trans qa))
  have Y3 := hide ((unhide X3).keep ((unhide KX).trans qa))
  clear qa X1 X2 X3 hne
  generalize (z2.alloc (.cells #[.int .i64 (p : Int), .int .i64 (n : Int)] 3)).drew = w3 at *
  generalize z2.heap.size = L at *
  go_wp2_with fail
  refine (size_any _ [(p : Int), (n : Int)] w3 (unhide LS)).mono ?_
  rw [szE_two p1 n1 hs, szN_no (unhide ES)]
  rintro ee w4 ⟨rfl, k4⟩
  have x9 := (unhide Y3).keep k4
  obtain ⟨d0, d1, d2, d3, -⟩ := x9.o
  have y9 := x9.set (.slice none 0 0) (.slice none 0 0)
  obtain ⟨y0, y1, -, -, -⟩ := y9.o
  have KF := hide ((((unhide K3).trans k4).set (unhide hRS) (i := 0) (.slice none 0 0)).set (unhide hRS) (i := 1) (.slice none 0 0))
  clear x9 y9 k4
  go_wp2
  generalize ((w4.setCell ⟨R, 0, none⟩ (.slice none 0 0)).setCell ⟨R, 1, none⟩ (.slice none 0 0)) = w9 at *
  refine bodyPost_ret (v := .tuple #[.agg #[.slice none 0 0, .slice none 0 0], .int .i64 3]) (by simp [results, Try.results6, go_sem, y0, y1]) rfl ⟨rfl, unhide KF⟩

end Go.Proofs.Ythofnmaobmfoiaa
