
/- Contracts of Turn and Sum; what Mul, Turn and Sum hand back, be it a tensor or none. -/
import Derived.Test.YthofnmaobmfoiaaMatE
namespace Go.Proofs.Ythofnmaobmfoiaa
open Go.RowKit

set_option maxHeartbeats 1000000 in
theorem turn_no (sv dv : Value) (f : List Int) (d : List Nat) (w : World) (h1 : Ints w sv f) (hd : Flts w dv d) (hm : matB f d = false) :
    Calls Try.prog 7 #[.agg #[sv, dv]] w fun ee w' => ee = .returned (.tuple #[.agg #[.slice none 0 0, .slice none 0 0], .int .i64 2]) ∧ Kp w w' := by
  have H1 := hide h1
  have D1 := hide hd
  have HM := hide hm
  clear h1 hd hm
  go_enter Try.func7, Try.ntmps7
  go_wp2_with fail
  obtain ⟨W, hW, x1, x2, k0⟩ := boxes_in w sv dv (.slice none 0 0) (.slice none 0 0)
  rw [← hW]
  clear hW
  have X1 := hide x1
  have X2 := hide x2
  have K0 := hide k0
  clear x1 x2 k0
  have hRS : Hid (w.heap.size ≤ w.heap.size + 1) := Nat.le_succ _
  generalize w.heap.size + 1 = R at X2 hRS ⊢
  generalize w.heap.size = B at X1 ⊢
  obtain ⟨c0, c1, -, -, -⟩ := (unhide X1).o
  try go_wp2_with fail
  refine (mmay_any _ _ f d W ((unhide H1).keep (unhide K0)) ((unhide D1).keep (unhide K0))).mono ?_
  rw [unhide HM]
  rintro ee w1 ⟨rfl, k1⟩
  clear c0 c1
  have x3 := (unhide X2).keep k1
  obtain ⟨d0, d1, d2, d3, -⟩ := x3.o
  have K1 := hide ((unhide K0).trans k1)
  have z2 := x3.set (.slice none 0 0) (.slice none 0 0)
  clear k1 x3
  obtain ⟨z0, z1, -, -, -⟩ := z2.o
  clear z2
  go_wp2
  have KF := hide (((unhide K1).set (unhide hRS) (i := 0) (.slice none 0 0)).set (unhide hRS) (i := 1) (.slice none 0 0))
  generalize ((w1.setCell ⟨R, 0, none⟩ (.slice none 0 0)).setCell ⟨R, 1, none⟩ (.slice none 0 0)) = w9 at *
  refine bodyPost_ret (v := .tuple #[.agg #[.slice none 0 0, .slice none 0 0], .int .i64 2]) (by simp [results, Try.results7, go_sem, z0, z1]) rfl ⟨rfl, unhide KF⟩

set_option maxHeartbeats 4000000 in
theorem turn_yes (sv dv : Value) (p m : Nat) (d : List Nat) (w : World) (h1 : Ints w sv [(p : Int), (m : Int)]) (hd : Flts w dv d) (p1 : 1 ≤ p) (m1 : 1 ≤ m) (dl : d.length = p * m) (dm : p * m ≤ 4096) :
    Calls Try.prog 7 #[.agg #[sv, dv]] w fun ee w' => ∃ a1 n1 c1 G c, ee = .returned (.tuple #[.agg #[.slice a1 n1 c1, .slice (some ⟨G, 0, none⟩) (turnD p m d).length c], .int .i64 0]) ∧ Fin w w' [(m : Int), (p : Int)] a1 n1 c1 G c (turnD p m d) := by
  have H1 := hide h1
  have D1 := hide hd
  have HM : Hid (matB [(p : Int), (m : Int)] d = true) := matB_yes.2 ⟨mayT_two p1 m1 dl dm, rfl⟩
  have PM := hide (show p ≤ 4096 ∧ m ≤ 4096 from ⟨le_mul_l m1 dm, le_mul_r p1 dm⟩)
  have WT : Hid (∀ x ∈ turnD p m d, W64 x) := turnD_wf (fun q => getD_w64 hd.wf q)
  have MT : Hid (mayT [(m : Int), (p : Int)] (turnD p m d) = true) := mayT_two m1 p1 (turnD_length p m d) (by rw [Nat.mul_comm]; exact dm)
  have TL : Hid ((turnD p m d).length ≤ 4096) := by unfold Hid; rw [turnD_length, Nat.mul_comm]; exact dm
  obtain ⟨bs, os, cS, rfl, hbs, hs0, hs1⟩ := h1.two
  obtain ⟨aD, cD, rfl, -⟩ := hd.val
  have DL := hide dl
  have DM := hide dm
  generalize hnD : d.length = nD at *
  have HND := hide hnD
  clear h1 hd dl dm hnD
  go_enter Try.func7, Try.ntmps7
  go_wp2_with fail
  obtain ⟨W, hW, x1, x2, k0⟩ := boxes_in w (.slice (some ⟨bs, os, none⟩) 2 cS) (.slice aD nD cD) (.slice none 0 0) (.slice none 0 0)
  rw [← hW]
  clear hW
  have X1 := hide x1
  have X2 := hide x2
  have K0 := hide k0
  clear x1 x2 k0
  have hRS : Hid (w.heap.size ≤ w.heap.size + 1) := Nat.le_succ _
  have hRB : ¬ w.heap.size = w.heap.size + 1 := by omega
  have hRb : ¬ bs = w.heap.size + 1 := by omega
  generalize w.heap.size + 1 = R at X2 hRS hRB hRb ⊢
  generalize w.heap.size = B at X1 hRB ⊢
  obtain ⟨c0, c1, -, -, -⟩ := (unhide X1).o
  try go_wp2_with fail
  refine (mmay_any _ _ [(p : Int), (m : Int)] d W ((unhide H1).keep (unhide K0)) ((unhide D1).keep (unhide K0))).mono ?_
  rw [unhide HM]
  rintro ee w1 ⟨rfl, k1⟩
  clear c0 c1
  have Y1 := hide ((unhide X1).keep k1)
  have Y2 := hide ((unhide X2).keep k1)
  have K1 := hide ((unhide K0).trans k1)
  obtain ⟨c0, c1, -, -, c4⟩ := (unhide Y1).o
  obtain ⟨r0, r1, r2, r3, r4⟩ := (unhide Y2).o
  have s0 := (Below.cell (unhide K1) (p := ⟨bs, os, none⟩) hbs).trans hs0
  have s1 := (Below.cell (unhide K1) (p := ⟨bs, os + 1, none⟩) hbs).trans hs1
  have s4 : bs < w1.heap.size := Nat.lt_of_lt_of_le hbs (unhide K1).size
  clear k1 X1 X2 K0
  have CL : Hid (∀ w0, Kp w1 w0 → BxO w0 B (.slice (some ⟨bs, os, none⟩) 2 cS) (.slice aD nD cD) ∧ BxO w0 R (.slice none 0 0) (.slice none 0 0) ∧ w0.cell? ⟨bs, os, none⟩ = some (.int .i64 (p : Int)) ∧ w0.cell? ⟨bs, os + 1, none⟩ = some (.int .i64 (m : Int)) ∧ bs < w0.heap.size) := by
    intro w0 k
    exact ⟨((unhide Y1).keep k).o, ((unhide Y2).keep k).o, (Below.cell k (p := ⟨bs, os, none⟩) s4).trans s0, (Below.cell k (p := ⟨bs, os + 1, none⟩) s4).trans s1, Nat.lt_of_lt_of_le s4 k.size⟩
  have C1 := hide (fun w0 (k : Kp w1 w0) => (bycols_any (.slice (some ⟨bs, os, none⟩) 2 cS) (.slice aD nD cD) p m d w0 ((unhide H1).keep ((unhide K1).trans k)) ((unhide D1).keep ((unhide K1).trans k)) ((unhide HND).trans (unhide DL)) (unhide DM) p1 m1).mono (R' := fun ee w' => ∃ a n c, ee = .returned (.slice a n c) ∧ Hid (Flts w' (.slice a n c) (turnD p m d)) ∧ Hid (Kp w0 w') ∧ Hid (Kp w1 w') ∧ BxO w' B (.slice (some ⟨bs, os, none⟩) 2 cS) (.slice aD nD cD) ∧ BxO w' R (.slice none 0 0) (.slice none 0 0) ∧ w'.cell? ⟨bs, os, none⟩ = some (.int .i64 (p : Int)) ∧ w'.cell? ⟨bs, os + 1, none⟩ = some (.int .i64 (m : Int)) ∧ bs < w'.heap.size) (by
    rintro ee w' ⟨u, rfl, o, k'⟩
    obtain ⟨a, n, c, rfl⟩ := o.sl
    exact ⟨a, n, c, rfl, o.flts (unhide WT) (by have := unhide TL; omega), k', k.trans k', unhide CL w' (k.trans k')⟩))
  have C2 := hide (fun w0 (k : Kp w1 w0) L a n c (hi : Ints w0 (.slice (some ⟨L, 0, none⟩) 2 2) [(m : Int), (p : Int)]) (hf : Flts w0 (.slice a n c) (turnD p m d)) => (of_yes (.slice (some ⟨L, 0, none⟩) 2 2) (.slice a n c) [(m : Int), (p : Int)] (turnD p m d) w0 hi hf (unhide MT)).mono (R' := fun ee w' => ∃ a1 n1 c1 G1 c, ee = .returned (.tuple #[.agg #[.slice a1 n1 c1, .slice (some ⟨G1, 0, none⟩) (turnD p m d).length c], .int .i64 0]) ∧ Hid (Fin w ((w'.setCell ⟨R, 0, none⟩ (.slice a1 n1 c1)).setCell ⟨R, 1, none⟩ (.slice (some ⟨G1, 0, none⟩) (turnD p m d).length c)) [(m : Int), (p : Int)] a1 n1 c1 G1 c (turnD p m d)) ∧ Hid (Bx ((w'.setCell ⟨R, 0, none⟩ (.slice a1 n1 c1)).setCell ⟨R, 1, none⟩ (.slice (some ⟨G1, 0, none⟩) (turnD p m d).length c)) R (.slice a1 n1 c1) (.slice (some ⟨G1, 0, none⟩) (turnD p m d).length c)) ∧ BxO w' B (.slice (some ⟨bs, os, none⟩) 2 cS) (.slice aD nD cD) ∧ BxO w' R (.slice none 0 0) (.slice none 0 0) ∧ w'.cell? ⟨bs, os, none⟩ = some (.int .i64 (p : Int)) ∧ w'.cell? ⟨bs, os + 1, none⟩ = some (.int .i64 (m : Int)) ∧ bs < w'.heap.size) (by
    rintro ee w' ⟨a1, n1, c1, G1, c, rfl, o1, hG1, og, k'⟩
    exact ⟨a1, n1, c1, G1, c, rfl, Fin.mk' o1 hG1 og ((unhide K1).trans k) k' ((unhide Y2).keep k) (unhide hRS), ((unhide Y2).keep (k.trans k')).set _ _, unhide CL w' (k.trans k')⟩))
  have LI : Hid (∀ w0 : World, Ints (w0.alloc (.cells #[.int .i64 (m : Int), .int .i64 (p : Int)] 3)) (.slice (some ⟨w0.heap.size, 0, none⟩) 2 2) [(m : Int), (p : Int)]) := fun w0 => lit_ints w0 3 [(m : Int), (p : Int)] #[.int .i64 (m : Int), .int .i64 (p : Int)] w0.heap.size 2 rfl rfl rfl (i64_two (unhide PM).2 (unhide PM).1) (by decide)
  have hs1' : ∀ (w : World) (v : Value) (o j : Nat), (w.setCell ⟨R, j, none⟩ v).cell? ⟨B, o, none⟩ = w.cell? ⟨B, o, none⟩ := fun w v o j => cell_other hRB w v
  have hs2' : ∀ (w : World) (v : Value) (o j : Nat), (w.setCell ⟨R, j, none⟩ v).cell? ⟨bs, o, none⟩ = w.cell? ⟨bs, o, none⟩ := fun w v o j => cell_other hRb w v
  clear H1 D1 HM WT MT hs0 hs1
  generalize hT : (turnD p m d).length = tl at *
  have HT := hide hT
  clear hT
  go_upto_region 3 with fail
  go_region_held3 (fun w' => w'.cell? ⟨B, 0, none⟩ = some (.slice (some ⟨bs, os, none⟩) 2 cS) ∧ w'.cell? ⟨B, 1, none⟩ = some (.slice aD nD cD) ∧ w'.cell? ⟨bs, os, none⟩ = some (.int .i64 (p : Int)) ∧ w'.cell? ⟨bs, os + 1, none⟩ = some (.int .i64 (m : Int))) (go_keep)
    (first
      | (go_at_call 13; refine ((unhide C1) _ ?_).mono ?_; (first | (exact Kp.drew w1) | (exact (Kp.alloc _ _).trans (Kp.drew _))); rintro ee w2 ⟨a2, n2, c2, rfl, F2, J2, K2, ⟨c0, c1, -, -, c4⟩, ⟨r0, r1, r2, r3, r4⟩, s0, s1, s4⟩)
      | (go_at_call 11; (first | refine ((unhide C2) _ (unhide K2) _ _ _ _ (((unhide LI _).keep (Kp.drew _)).keep (unhide J2)) (unhide F2)).mono ?_ | refine ((unhide C2) _ ((unhide K2).trans (Kp.alloc _ _)) _ _ _ _ (unhide LI _) ((unhide F2).keep (Kp.alloc _ _))).mono ?_); rintro ee w3 ⟨a1, n1, c1', G1, c, rfl, FN, BF, ⟨c0, c1, -, -, c4⟩, ⟨r0, r1, r2, r3, r4⟩, s0, s1, s4⟩))
  all_goals (
    generalize ((w3.setCell ⟨R, 0, none⟩ (.slice a1 n1 c1')).setCell ⟨R, 1, none⟩ (.slice (some ⟨G1, 0, none⟩) tl c)) = w9 at *
    obtain ⟨z0, z1, -, -, -⟩ := (unhide BF).o
    go_wp2
    refine bodyPost_ret (v := .tuple #[.agg #[.slice a1 n1 c1', .slice (some ⟨G1, 0, none⟩) tl c], .int .i64 0]) (by simp [results, Try.results7, go_sem, z0, z1]) rfl ⟨a1, n1, c1', G1, c, by rw [unhide HT], unhide FN⟩)

theorem may_one : mayB [1] = true := by decide +kernel
theorem prodL_one : prodL [1] = 1 := by decide +kernel

/-- what Sum makes -/
def smS (s : List Int) (d : List Nat) : List Int := if mayT s d = true then [1] else []
def smL (s : List Int) (d : List Nat) : List Nat := if mayT s d = true then [foldC d] else []
def smE (s : List Int) (d : List Nat) : Int := if mayT s d = true then 0 else 2
theorem sm_yes {s : List Int} {d : List Nat} (h : mayT s d = true) : smS s d = [1] ∧ smL s d = [foldC d] ∧ smE s d = 0 := ⟨if_pos h, if_pos h, if_pos h⟩
theorem sm_no {s : List Int} {d : List Nat} (h : mayT s d = false) : smS s d = [] ∧ smL s d = [] ∧ smE s d = 2 := ⟨if_neg (by rw [h]; simp), if_neg (by rw [h]; simp), if_neg (by rw [h]; simp)⟩
theorem mayT_one (r : Nat) : mayT [1] [r] = true := by unfold mayT; rw [may_one, prodL_one]; rfl
theorem i64_one : ∀ x ∈ [(1 : Int)], I64 x := by unfold I64; decide

theorem turn_all (sv dv : Value) (f : List Int) (d : List Nat) (w : World) (h1 : Ints w sv f) (hd : Flts w dv d) :
    Calls Try.prog 7 #[.agg #[sv, dv]] w fun e w' => HandR e w' (turS f d) (turL f d) (turE f d) ∧ Kp w w' := by
  cases hm : matB f d
  · obtain ⟨e1, e2, e3⟩ := tur_no hm
    rw [e1, e2, e3]
    refine (turn_no sv dv f d w h1 hd hm).mono ?_
    rintro e w' ⟨rfl, k⟩
    exact ⟨HandR.nil _ _, k⟩
  · obtain ⟨p, m, rfl, p1, m1, dl, dm⟩ := two_of (matB_yes.1 hm).1 (matB_yes.1 hm).2
    obtain ⟨e1, e2, e3⟩ := tur_yes hm
    rw [e1, e2, e3]
    refine (turn_yes sv dv p m d w h1 hd p1 m1 dl dm).mono ?_
    rintro e w' ⟨a1, n1, c1, G, c, rfl, fn⟩
    exact ⟨HandR.fin fn (mayT_two m1 p1 (turnD_length p m d) (by rw [Nat.mul_comm]; exact dm)) (i64_two (le_mul_r p1 dm) (le_mul_l m1 dm)) (turnD_wf (fun q => getD_w64 hd.wf q)), fn.kp⟩

theorem mul_all (sv dv sv2 dv2 : Value) (f g : List Int) (d e : List Nat) (w : World) (h1 : Ints w sv f) (hd : Flts w dv d) (hr : Roomy dv) (h2 : Ints w sv2 g) (hd2 : Flts w dv2 e) :
    Calls Try.prog 6 #[.agg #[sv, dv], .agg #[sv2, dv2]] w fun ee w' => ∃ ds, HandR ee w' (mulS f d g e) ds (mulE f d g e) ∧ ds.map cn = mulD f d g e ∧ Kp w w' := by
  cases hm : fitB f d g e
  · obtain ⟨e1, e2, e3⟩ := mul_nofit hm
    rw [e1, e2, e3]
    refine (mul_no sv dv sv2 dv2 f g d e w h1 hd h2 hd2 hm).mono ?_
    rintro ee w' ⟨rfl, k⟩
    exact ⟨[], HandR.nil _ _, rfl, k⟩
  · obtain ⟨p, m, n, rfl, rfl, p1, m1, n1, dl, dm, el, em⟩ := fit_of hm
    by_cases hs : p * n ≤ 4096
    · obtain ⟨e1, e2, e3⟩ := mul_yes hm p1 n1 hs
      rw [e1, e2, e3]
      refine (mul_fit sv dv sv2 dv2 p m n d e w h1 hd hr h2 hd2 p1 m1 n1 dl dm el em hs).mono ?_
      rintro ee w' ⟨a1, n1', c1, G, c, ds, rfl, fn, hcn, hw⟩
      have hdl : ds.length = p * n := by have := congrArg List.length hcn; rw [List.length_map, mulL_length] at this; exact this
      exact ⟨ds, HandR.fin fn (mayT_two p1 n1 hdl hs) (i64_two (le_mul_l m1 dm) (le_mul_r m1 em)) hw, hcn, fn.kp⟩
    · obtain ⟨e1, e2, e3⟩ := mul_big hm p1 n1 hs
      rw [e1, e2, e3]
      refine (mul_over sv dv sv2 dv2 p m n d e w h1 hd hr h2 hd2 p1 m1 n1 dl dm el em hs).mono ?_
      rintro ee w' ⟨rfl, k⟩
      exact ⟨[], HandR.nil _ _, rfl, k⟩

end Go.Proofs.Ythofnmaobmfoiaa
