
/- Contracts of the document's own Matmul where the product is too great. -/
import Derived.Test.YtgdmhmnmhfpkkaaMatG
namespace Go.Proofs.Ytgdmhmnmhfpkkaa
open Go.RowKit

set_option maxRecDepth 10000 in
set_option maxHeartbeats 8000000 in
theorem rmul_over (sv dv sv2 dv2 : Value) (p m n : Nat) (d e : List Nat) (w : World) (h1 : Ints w sv [(p : Int), (m : Int)]) (hd : Flts w dv d) (h2 : Ints w sv2 [(m : Int), (n : Int)]) (hd2 : Flts w dv2 e) (p1 : 1 ≤ p) (m1 : 1 ≤ m) (n1 : 1 ≤ n) (dl : d.length = p * m) (dm : p * m ≤ 4096) (el : e.length = m * n) (em : m * n ≤ 4096) (hs : ¬ p * n ≤ 4096) :
    Calls Try.prog 12 #[.agg #[sv, dv], .agg #[sv2, dv2]] w fun ee w' => ee = .returned (.tuple #[.agg #[.slice none 0 0, .slice none 0 0], .int .i64 3]) ∧ Kp w w' := by
  have H1 := hide h1
  have H2 := hide h2
  have D1 := hide hd
  have D2 := hide hd2
  have E1 : Hid (mayT [(p : Int), (m : Int)] d = true) := mayT_two p1 m1 dl dm
  have E2 : Hid (mayT [(m : Int), (n : Int)] e = true) := mayT_two m1 n1 el em
  have pm : p ≤ 4096 := le_mul_l m1 dm
  have mm : m ≤ 4096 := le_mul_r p1 dm
  have nm : n ≤ 4096 := le_mul_r m1 em
  obtain ⟨bs, os, cS, rfl, hbs, hs0, hs1⟩ := h1.two
  obtain ⟨bt, ot, cT, rfl, hbt, ht0, ht1⟩ := h2.two
  obtain ⟨aD, cD, rfl, hv⟩ := hd.val
  obtain ⟨b, off, rfl, hb, hc⟩ := hv (by rw [dl]; have := Nat.mul_le_mul p1 m1; omega)
  obtain ⟨aE, cE, rfl, hv2⟩ := hd2.val
  obtain ⟨b2, off2, rfl, hb2, hc2⟩ := hv2 (by rw [el]; have := Nat.mul_le_mul m1 n1; omega)
  have HC := hide hc
  have HC2 := hide hc2
  have hne : ((m : Int) != (m : Int)) = false := by simp
  have DL := hide dl
  have DM := hide dm
  have EL := hide el
  have EM := hide em
  have hdl : d.length ≤ 4096 := by omega
  have hel : e.length ≤ 4096 := by omega
  generalize hnD : d.length = nD at *
  generalize hnE : e.length = nE at *
  clear h1 hd h2 hd2 hnD hnE dl dm el em hv hv2 hc hc2
  go_enter Try.func12, Try.ntmps12
  go_wp2_with fail
  obtain ⟨W, hW, x1, x2, x3, k0⟩ := boxes3_in w (.slice (some ⟨bs, os, none⟩) 2 cS) (.slice (some ⟨b, off, none⟩) nD cD) (.slice (some ⟨bt, ot, none⟩) 2 cT) (.slice (some ⟨b2, off2, none⟩) nE cE) (.slice none 0 0) (.slice none 0 0)
  rw [← hW]
  clear hW
  have hRS : Hid (w.heap.size ≤ w.heap.size + 2) := by unfold Hid; omega
  have K0 := hide k0
  have X1 := hide x1
  have X2 := hide x2
  have X3 := hide x3
  clear x1 x2 x3 k0
  generalize w.heap.size + 2 = R at X3 hRS ⊢
  generalize w.heap.size + 1 = B2 at X2 ⊢
  generalize w.heap.size = B at X1 ⊢
  have C1 := hide (fun w0 (k : Kp W w0) => (rmayT_any (.slice (some ⟨bs, os, none⟩) 2 cS) (.slice (some ⟨b, off, none⟩) nD cD) [(p : Int), (m : Int)] d w0 ((unhide H1).keep ((unhide K0).trans k)) ((unhide D1).keep ((unhide K0).trans k))).mono (R' := fun ee w' => ee = .returned (.bool true) ∧ Hid (Kp W w') ∧ BxO w' B (.slice (some ⟨bs, os, none⟩) 2 cS) (.slice (some ⟨b, off, none⟩) nD cD) ∧ BxO w' B2 (.slice (some ⟨bt, ot, none⟩) 2 cT) (.slice (some ⟨b2, off2, none⟩) nE cE) ∧ BxO w' R (.slice none 0 0) (.slice none 0 0) ∧ w'.cell? ⟨bs, os, none⟩ = some (.int .i64 (p : Int)) ∧ w'.cell? ⟨bs, os + 1, none⟩ = some (.int .i64 (m : Int)) ∧ w'.cell? ⟨bt, ot, none⟩ = some (.int .i64 (m : Int)) ∧ w'.cell? ⟨bt, ot + 1, none⟩ = some (.int .i64 (n : Int))) (by
    rintro ee w' ⟨rfl, k'⟩
    exact ⟨by rw [unhide E1], k.trans k', ((unhide X1).keep (k.trans k')).o, ((unhide X2).keep (k.trans k')).o, ((unhide X3).keep (k.trans k')).o, (Below.cell ((unhide K0).trans (k.trans k')) (p := ⟨bs, os, none⟩) hbs).trans hs0, (Below.cell ((unhide K0).trans (k.trans k')) (p := ⟨bs, os + 1, none⟩) hbs).trans hs1, (Below.cell ((unhide K0).trans (k.trans k')) (p := ⟨bt, ot, none⟩) hbt).trans ht0, (Below.cell ((unhide K0).trans (k.trans k')) (p := ⟨bt, ot + 1, none⟩) hbt).trans ht1⟩))
  have C2 := hide (fun w0 (k : Kp W w0) => (rmayT_any (.slice (some ⟨bt, ot, none⟩) 2 cT) (.slice (some ⟨b2, off2, none⟩) nE cE) [(m : Int), (n : Int)] e w0 ((unhide H2).keep ((unhide K0).trans k)) ((unhide D2).keep ((unhide K0).trans k))).mono (R' := fun ee w' => ee = .returned (.bool true) ∧ Hid (Kp W w') ∧ BxO w' B (.slice (some ⟨bs, os, none⟩) 2 cS) (.slice (some ⟨b, off, none⟩) nD cD) ∧ BxO w' B2 (.slice (some ⟨bt, ot, none⟩) 2 cT) (.slice (some ⟨b2, off2, none⟩) nE cE) ∧ BxO w' R (.slice none 0 0) (.slice none 0 0) ∧ w'.cell? ⟨bs, os, none⟩ = some (.int .i64 (p : Int)) ∧ w'.cell? ⟨bs, os + 1, none⟩ = some (.int .i64 (m : Int)) ∧ w'.cell? ⟨bt, ot, none⟩ = some (.int .i64 (m : Int)) ∧ w'.cell? ⟨bt, ot + 1, none⟩ = some (.int .i64 (n : Int))) (by
    rintro ee w' ⟨rfl, k'⟩
    exact ⟨by rw [unhide E2], k.trans k', ((unhide X1).keep (k.trans k')).o, ((unhide X2).keep (k.trans k')).o, ((unhide X3).keep (k.trans k')).o, (Below.cell ((unhide K0).trans (k.trans k')) (p := ⟨bs, os, none⟩) hbs).trans hs0, (Below.cell ((unhide K0).trans (k.trans k')) (p := ⟨bs, os + 1, none⟩) hbs).trans hs1, (Below.cell ((unhide K0).trans (k.trans k')) (p := ⟨bt, ot, none⟩) hbt).trans ht0, (Below.cell ((unhide K0).trans (k.trans k')) (p := ⟨bt, ot + 1, none⟩) hbt).trans ht1⟩))
  obtain ⟨c0, c1, -, -, -⟩ := (unhide X1).o
  obtain ⟨b0, b1, -, -, -⟩ := (unhide X2).o
  obtain ⟨r0, r1, r2, r3, -⟩ := (unhide X3).o
  have s0 := (Below.cell (unhide K0) (p := ⟨bs, os, none⟩) hbs).trans hs0
  have s1 := (Below.cell (unhide K0) (p := ⟨bs, os + 1, none⟩) hbs).trans hs1
  have s2 := (Below.cell (unhide K0) (p := ⟨bt, ot, none⟩) hbt).trans ht0
  have s3 := (Below.cell (unhide K0) (p := ⟨bt, ot + 1, none⟩) hbt).trans ht1
  clear hs0 hs1 ht0 ht1
  try go_wp2_with fail
  go_region_held3 (fun w' => w'.cell? ⟨B, 0, none⟩ = some (.slice (some ⟨bs, os, none⟩) 2 cS) ∧ w'.cell? ⟨B, 1, none⟩ = some (.slice (some ⟨b, off, none⟩) nD cD) ∧ w'.cell? ⟨B2, 0, none⟩ = some (.slice (some ⟨bt, ot, none⟩) 2 cT) ∧ w'.cell? ⟨B2, 1, none⟩ = some (.slice (some ⟨b2, off2, none⟩) nE cE) ∧ w'.cell? ⟨bs, os, none⟩ = some (.int .i64 (p : Int)) ∧ w'.cell? ⟨bs, os + 1, none⟩ = some (.int .i64 (m : Int)) ∧ w'.cell? ⟨bt, ot, none⟩ = some (.int .i64 (m : Int)) ∧ w'.cell? ⟨bt, ot + 1, none⟩ = some (.int .i64 (n : Int))) (go_keep)
    (first
      | (go_at_call_of 23 (Value.agg #[Value.slice (some (Addr.mk bs os none)) 2 cS, Value.slice (some (Addr.mk b off none)) nD cD]); refine ((unhide C1) _ ?_).mono ?_; (first | (exact unhide (by assumption)) | exact Kp.drew W); rintro ee z1 ⟨rfl, KX, ⟨c0, c1, -, -, -⟩, ⟨b0, b1, -, -, -⟩, ⟨r0, r1, r2, r3, -⟩, s0, s1, s2, s3⟩)
      | (go_at_call 23; refine ((unhide C2) _ ?_).mono ?_; (first | (exact unhide (by assumption)) | exact Kp.drew W); rintro ee z2 ⟨rfl, KX, ⟨c0, c1, -, -, -⟩, ⟨b0, b1, -, -, -⟩, ⟨r0, r1, r2, r3, -⟩, s0, s1, s2, s3⟩))
  clear C1 C2 H1 H2 D1 D2 E1 E2 hne
  have K1 := hide ((unhide K0).trans (unhide KX))
  have Y1 := hide ((unhide X1).keep (unhide KX))
  have Y2 := hide ((unhide X2).keep (unhide KX))
  have Y3 := hide ((unhide X3).keep (unhide KX))
  clear X1 X2 X3 K0 KX r0 r1 r2 r3
  generalize z2 = w1 at *
  have c4 : B < w1.heap.size := (unhide Y1).lt
  have b4 : B2 < w1.heap.size := (unhide Y2).lt
  have s4 : bs < w1.heap.size := Nat.lt_of_lt_of_le hbs (unhide K1).size
  have s5 : bt < w1.heap.size := Nat.lt_of_lt_of_le hbt (unhide K1).size
  have CL : Hid (∀ w', Kp w1 w' → BxO w' B (.slice (some ⟨bs, os, none⟩) 2 cS) (.slice (some ⟨b, off, none⟩) nD cD) ∧ BxO w' B2 (.slice (some ⟨bt, ot, none⟩) 2 cT) (.slice (some ⟨b2, off2, none⟩) nE cE) ∧ w'.cell? ⟨bs, os, none⟩ = some (.int .i64 (p : Int)) ∧ w'.cell? ⟨bs, os + 1, none⟩ = some (.int .i64 (m : Int)) ∧ w'.cell? ⟨bt, ot, none⟩ = some (.int .i64 (m : Int)) ∧ w'.cell? ⟨bt, ot + 1, none⟩ = some (.int .i64 (n : Int)) ∧ bs < w'.heap.size ∧ bt < w'.heap.size) := by
    intro w' k
    exact ⟨((unhide Y1).keep k).o, ((unhide Y2).keep k).o, (Below.cell k (p := ⟨bs, os, none⟩) s4).trans s0, (Below.cell k (p := ⟨bs, os + 1, none⟩) s4).trans s1, (Below.cell k (p := ⟨bt, ot, none⟩) s5).trans s2, (Below.cell k (p := ⟨bt, ot + 1, none⟩) s5).trans s3, Nat.lt_of_lt_of_le s4 k.size, Nat.lt_of_lt_of_le s5 k.size⟩
  have LI : Hid (∀ w0 : World, Ints (w0.alloc (.cells #[.int .i64 (p : Int), .int .i64 (n : Int)] 3)) (.slice (some ⟨w0.heap.size, 0, none⟩) 2 2) [(p : Int), (n : Int)]) := fun w0 => lit_ints w0 3 [(p : Int), (n : Int)] #[.int .i64 (p : Int), .int .i64 (n : Int)] w0.heap.size 2 rfl rfl rfl (i64_two pm nm) (by decide)
  have LI2 : Hid (Ints ((w1.alloc (.cells #[.slice none 0 0, .slice none 0 0] 25)).alloc (.cells #[.int .i64 (p : Int), .int .i64 (n : Int)] 3)) (.slice (some ⟨w1.heap.size + 1, 0, none⟩) 2 2) [(p : Int), (n : Int)]) := by
    have := unhide LI (w1.alloc (.cells #[.slice none 0 0, .slice none 0 0] 25))
    rw [World.size_alloc] at this
    exact this
  have hB_0 : ∀ (w : World) (v : Value) (o j : Nat), (w.setCell ⟨w1.heap.size, j, none⟩ v).cell? ⟨B, o, none⟩ = w.cell? ⟨B, o, none⟩ := fun w v o j => cell_other (by omega) w v
  have hB_1 : ∀ (w : World) (v : Value) (o j : Nat), (w.setCell ⟨w1.heap.size + 1, j, none⟩ v).cell? ⟨B, o, none⟩ = w.cell? ⟨B, o, none⟩ := fun w v o j => cell_other (by omega) w v
  have hB2_0 : ∀ (w : World) (v : Value) (o j : Nat), (w.setCell ⟨w1.heap.size, j, none⟩ v).cell? ⟨B2, o, none⟩ = w.cell? ⟨B2, o, none⟩ := fun w v o j => cell_other (by omega) w v
  have hB2_1 : ∀ (w : World) (v : Value) (o j : Nat), (w.setCell ⟨w1.heap.size + 1, j, none⟩ v).cell? ⟨B2, o, none⟩ = w.cell? ⟨B2, o, none⟩ := fun w v o j => cell_other (by omega) w v
  have hbs_0 : ∀ (w : World) (v : Value) (o j : Nat), (w.setCell ⟨w1.heap.size, j, none⟩ v).cell? ⟨bs, o, none⟩ = w.cell? ⟨bs, o, none⟩ := fun w v o j => cell_other (by omega) w v
  have hbs_1 : ∀ (w : World) (v : Value) (o j : Nat), (w.setCell ⟨w1.heap.size + 1, j, none⟩ v).cell? ⟨bs, o, none⟩ = w.cell? ⟨bs, o, none⟩ := fun w v o j => cell_other (by omega) w v
  have hbt_0 : ∀ (w : World) (v : Value) (o j : Nat), (w.setCell ⟨w1.heap.size, j, none⟩ v).cell? ⟨bt, o, none⟩ = w.cell? ⟨bt, o, none⟩ := fun w v o j => cell_other (by omega) w v
  have hbt_1 : ∀ (w : World) (v : Value) (o j : Nat), (w.setCell ⟨w1.heap.size + 1, j, none⟩ v).cell? ⟨bt, o, none⟩ = w.cell? ⟨bt, o, none⟩ := fun w v o j => cell_other (by omega) w v
  have MB : Hid (mayB [(p : Int), (n : Int)] = false) := by unfold Hid; rw [may_two p1 n1]; exact decide_eq_false hs
  have EZ : Hid (szE [(p : Int), (n : Int)] = 3) := szE_two p1 n1 hs
  have C1 := hide (fun w0 (k : Kp w1 w0) L (hi : Ints w0 (.slice (some ⟨L, 0, none⟩) 2 2) [(p : Int), (n : Int)]) => (rnew_no (.slice (some ⟨L, 0, none⟩) 2 2) [(p : Int), (n : Int)] 0 w0 hi (unhide MB)).mono (R' := fun ee w' => ee = .returned (.tuple #[.agg #[.slice none 0 0, .slice none 0 0], .int .i64 3]) ∧ Hid (Kp w0 w') ∧ Hid (Kp w1 w0) ∧ BxO w' B (.slice (some ⟨bs, os, none⟩) 2 cS) (.slice (some ⟨b, off, none⟩) nD cD) ∧ BxO w' B2 (.slice (some ⟨bt, ot, none⟩) 2 cT) (.slice (some ⟨b2, off2, none⟩) nE cE) ∧ w'.cell? ⟨bs, os, none⟩ = some (.int .i64 (p : Int)) ∧ w'.cell? ⟨bs, os + 1, none⟩ = some (.int .i64 (m : Int)) ∧ w'.cell? ⟨bt, ot, none⟩ = some (.int .i64 (m : Int)) ∧ w'.cell? ⟨bt, ot + 1, none⟩ = some (.int .i64 (n : Int)) ∧ bs < w'.heap.size ∧ bt < w'.heap.size) (by
    rintro ee w' ⟨rfl, k'⟩
    exact ⟨by rw [unhide EZ], k', k, unhide CL w' (k.trans k')⟩))
  go_upto_region 3 with fail
  go_cut [6, 7] (fun t ev wx => ev = .int .i64 3 ∧ Hid (Kp w1 wx))
  case first =>
    go_region_held3 (fun w' => w'.cell? ⟨B, 0, none⟩ = some (.slice (some ⟨bs, os, none⟩) 2 cS) ∧ w'.cell? ⟨B2, 0, none⟩ = some (.slice (some ⟨bt, ot, none⟩) 2 cT) ∧ w'.cell? ⟨bs, os, none⟩ = some (.int .i64 (p : Int)) ∧ w'.cell? ⟨bt, ot + 1, none⟩ = some (.int .i64 (n : Int))) (go_keep)
      (first
        | (go_at_call 21; refine ((unhide C1) _ ?_ _ ?_).mono ?_; (first | exact (Kp.alloc w1 (.cells #[.int .i64 (p : Int), .int .i64 (n : Int)] 3)).trans (Kp.drew _) | exact ((Kp.alloc w1 (.cells #[.int .i64 (p : Int), .int .i64 (n : Int)] 3)).trans (Kp.alloc _ (.cells #[.slice none 0 0, .slice none 0 0] 25))).trans (Kp.drew _) | exact ((Kp.alloc w1 (.cells #[.slice none 0 0, .slice none 0 0] 25)).trans (Kp.alloc _ (.cells #[.int .i64 (p : Int), .int .i64 (n : Int)] 3))).trans (Kp.drew _)); (first | exact (unhide LI _).keep (Kp.drew _) | exact (unhide LI2).keep (Kp.drew _) | exact ((unhide LI w1).keep (Kp.alloc _ (.cells #[.slice none 0 0, .slice none 0 0] 25))).keep (Kp.drew _)); rintro ee w2 ⟨rfl, J2, K2, ⟨c0, c1, -, -, c4⟩, ⟨b0, b1, -, -, b4⟩, s0, s1, s2, s3, s4, s5⟩; (first
            | (have tb := (Bx.madeAt (w1.alloc (.cells #[.int .i64 (p : Int), .int .i64 (n : Int)] 3)) (.slice none 0 0) (.slice none 0 0) (w1.heap.size + 1) (by simp)).keep ((Kp.drew ((w1.alloc (.cells #[.int .i64 (p : Int), .int .i64 (n : Int)] 3)).alloc (.cells #[.slice none 0 0, .slice none 0 0] 25))).trans (unhide J2)); have TB := hide tb; obtain ⟨t0, t1, t2, t3, t4⟩ := tb.o; clear tb)
            | (have tb := (Bx.madeAt w1 (.slice none 0 0) (.slice none 0 0) w1.heap.size rfl).keep ((Kp.alloc (w1.alloc (.cells #[.slice none 0 0, .slice none 0 0] 25)) (.cells #[.int .i64 (p : Int), .int .i64 (n : Int)] 3)).trans ((Kp.drew _).trans (unhide J2))); have TB := hide tb; obtain ⟨t0, t1, t2, t3, t4⟩ := tb.o; clear tb)
            | skip)))
    all_goals (go_wp2_with fail; go_meet)
    all_goals exact ⟨rfl, by first
      | exact ((unhide K2).trans (unhide J2)).trans (Kp.alloc _ _)
      | exact (((unhide K2).trans (unhide J2)).set (i := 0) (by omega) _).set (i := 1) (by omega) _⟩
  case rest =>
    obtain ⟨rfl, KC⟩ := hcut
    clear C1 LI LI2 hB_0 hB_1 hB2_0 hB2_1 hbs_0 hbs_1 hbt_0 hbt_1 MB CL
    have x9 := (unhide Y3).keep (unhide KC)
    obtain ⟨d0, d1, d2, d3, -⟩ := x9.o
    have y9 := x9.set (.slice none 0 0) (.slice none 0 0)
    obtain ⟨y0, y1, -, -, -⟩ := y9.o
    have KF := hide ((((unhide K1).trans (unhide KC)).set (unhide hRS) (i := 0) (.slice none 0 0)).set (unhide hRS) (i := 1) (.slice none 0 0))
    clear x9 y9
    go_wp2
    generalize ((wc.setCell ⟨R, 0, none⟩ (.slice none 0 0)).setCell ⟨R, 1, none⟩ (.slice none 0 0)) = w9 at *
    refine bodyPost_ret (v := .tuple #[.agg #[.slice none 0 0, .slice none 0 0], .int .i64 3]) (by simp [results, Try.results12, go_sem, y0, y1]) rfl ⟨rfl, unhide KF⟩

end Go.Proofs.Ytgdmhmnmhfpkkaa
