
/- Contracts of the document's own Sum; what its Matmul, Turn and Sum hand back; two answers held against each other. -/
import Derived.Test.YtgdmhmnmhfpkkaaMatH
import Derived.Test.YtgdmhmnmhfpkkaaMatI
import Derived.Test.YtgdmhmnmhfpkkaaMatJ
namespace Go.Proofs.Ytgdmhmnmhfpkkaa
open Go.RowKit

set_option maxHeartbeats 1000000 in
theorem rsum_no (sv dv : Value) (f : List Int) (d : List Nat) (w : World) (h1 : Ints w sv f) (hd : Flts w dv d) (hm : mayT f d = false) :
    Calls Try.prog 16 #[.agg #[sv, dv]] w fun ee w' => ee = .returned (.tuple #[.agg #[.slice none 0 0, .slice none 0 0], .int .i64 2]) ∧ Kp w w' := by
  have H1 := hide h1
  have D1 := hide hd
  have HM := hide hm
  clear h1 hd hm
  go_enter Try.func16, Try.ntmps16
  go_wp2_with fail
  obtain ⟨W, hW, x1, x2, k0⟩ := boxes_in w sv dv (.slice none 0 0) (.slice none 0 0)
  rw [← hW]
  clear hW
  have X1 := hide x1
  have X2 := hide x2
  have K0 := hide k0
  clear x1 x2 k0
  have hRS : Hid (w.heap.size ≤ w.heap.size + 1) := Nat.le_succ _
  generalize w.heap.size + 1 = R at X2 hRS ⊢
  generalize w.heap.size = B at X1 ⊢
  obtain ⟨c0, c1, -, -, -⟩ := (unhide X1).o
  try go_wp2_with fail
  refine (rmayT_any _ _ f d W ((unhide H1).keep (unhide K0)) ((unhide D1).keep (unhide K0))).mono ?_
  rw [unhide HM]
  rintro ee w1 ⟨rfl, k1⟩
  clear c0 c1
  have x3 := (unhide X2).keep k1
  obtain ⟨d0, d1, d2, d3, -⟩ := x3.o
  have K1 := hide ((unhide K0).trans k1)
  have z2 := x3.set (.slice none 0 0) (.slice none 0 0)
  clear k1 x3
  obtain ⟨z0, z1, -, -, -⟩ := z2.o
  clear z2
  go_wp2
  have KF := hide (((unhide K1).set (unhide hRS) (i := 0) (.slice none 0 0)).set (unhide hRS) (i := 1) (.slice none 0 0))
  generalize ((w1.setCell ⟨R, 0, none⟩ (.slice none 0 0)).setCell ⟨R, 1, none⟩ (.slice none 0 0)) = w9 at *
  refine bodyPost_ret (v := .tuple #[.agg #[.slice none 0 0, .slice none 0 0], .int .i64 2]) (by simp [results, Try.results16, go_sem, z0, z1]) rfl ⟨rfl, unhide KF⟩

theorem own_one (w : World) (r : Nat) : OwnG (w.alloc (.cells #[.float .f64 r] 42)) 42 w.heap.size 1 1 [r] := by
  refine BlkF.g (ys := [r]) ?_ rfl (by decide)
  unfold BlkF
  simp only [World.alloc, Array.getElem?_push_size]
  rfl

set_option maxHeartbeats 1000000 in
theorem rsum_yes (sv dv : Value) (f : List Int) (d : List Nat) (w : World) (h1 : Ints w sv f) (hd : Flts w dv d) (hr : Roomy dv) (hm : mayT f d = true) :
    Calls Try.prog 16 #[.agg #[sv, dv]] w fun ee w' => ∃ a1 n1 c1 G c r, ee = .returned (.tuple #[.agg #[.slice a1 n1 c1, .slice (some ⟨G, 0, none⟩) [r].length c], .int .i64 0]) ∧ Fin w w' [1] a1 n1 c1 G c [r] ∧ cn r = foldC d ∧ W64 r := by
  have H1 := hide h1
  have D1 := hide hd
  have RM := hide hr
  have HM := hide hm
  obtain ⟨aD, cD, rfl, -⟩ := hd.val
  generalize d.length = nD at *
  clear h1 hd hr hm
  go_enter Try.func16, Try.ntmps16
  go_wp2_with fail
  obtain ⟨W, hW, x1, x2, k0⟩ := boxes_in w sv (.slice aD nD cD) (.slice none 0 0) (.slice none 0 0)
  rw [← hW]
  clear hW
  have X1 := hide x1
  have X2 := hide x2
  have K0 := hide k0
  clear x1 x2 k0
  have hRS : Hid (w.heap.size ≤ w.heap.size + 1) := Nat.le_succ _
  generalize w.heap.size + 1 = R at X2 hRS ⊢
  generalize w.heap.size = B at X1 ⊢
  obtain ⟨c0, c1, -, -, -⟩ := (unhide X1).o
  try go_wp2_with fail
  refine (rmayT_any _ _ f d W ((unhide H1).keep (unhide K0)) ((unhide D1).keep (unhide K0))).mono ?_
  rw [unhide HM]
  rintro ee w1 ⟨rfl, k1⟩
  clear c0 c1
  have qa := Kp.alloc w1 (.cells #[.int .i64 1] 3)
  have LI : Hid (Own (w1.alloc (.cells #[.int .i64 1] 3)) 3 W.heap.size (.slice (some ⟨w1.heap.size, 0, none⟩) 1 1) [1]) := Own.lit w1 3 [1] #[.int .i64 1] w1.heap.size 1 W.heap.size rfl rfl rfl k1.size (by decide)
  have Y1 := hide ((unhide X1).keep (k1.trans qa))
  have K1 := hide (k1.trans qa)
  obtain ⟨c0, c1, -, -, -⟩ := (unhide Y1).o
  clear k1 qa X1
  go_wp2_with fail
  generalize w1.alloc (.cells #[.int .i64 1] 3) = w2 at *
  generalize w1.heap.size = L at *
  refine (rfold_any _ _ d w2 (Nat.le_refl _) ((unhide D1).keep ((unhide K0).trans (unhide K1))) (unhide RM)).mono ?_
  rintro ee w3 ⟨r, rfl, hr, -, k3⟩
  have RR := hide hr
  have qb := Kp.alloc w3 (.cells #[.float .f64 r] 42)
  have LI3 := hide (((unhide LI).keep k3).keep qb)
  have K3 := hide (((unhide K1).trans k3).trans qb)
  have OG := hide (own_one w3 r)
  have hGs : Hid (W.heap.size ≤ w3.heap.size) := ((unhide K1).trans k3).size
  have z := (unhide X2).keep (unhide K3)
  obtain ⟨d0, d1, d2, d3, -⟩ := z.o
  have y9 := z.set (.slice (some ⟨L, 0, none⟩) 1 1) (.slice (some ⟨w3.heap.size, 0, none⟩) 1 1)
  obtain ⟨y0, y1, -, -, -⟩ := y9.o
  have FN : Hid (Fin w (((w3.alloc (.cells #[.float .f64 r] 42)).setCell ⟨R, 0, none⟩ (.slice (some ⟨L, 0, none⟩) 1 1)).setCell ⟨R, 1, none⟩ (.slice (some ⟨w3.heap.size, 0, none⟩) 1 1)) [1] (some ⟨L, 0, none⟩) 1 1 w3.heap.size 1 [r]) := Fin.mk' (d := [r]) (c := 1) (unhide LI3) (unhide hGs) (unhide OG) (unhide K0) (unhide K3) (unhide X2) (unhide hRS)
  clear k3 hr LI Y1 K1 c0 c1 qb z y9 OG
  go_wp2
  generalize (((w3.alloc (.cells #[.float .f64 r] 42)).setCell ⟨R, 0, none⟩ (.slice (some ⟨L, 0, none⟩) 1 1)).setCell ⟨R, 1, none⟩ (.slice (some ⟨w3.heap.size, 0, none⟩) 1 1)) = w9 at *
  refine bodyPost_ret (v := .tuple #[.agg #[.slice (some ⟨L, 0, none⟩) 1 1, .slice (some ⟨w3.heap.size, 0, none⟩) 1 1], .int .i64 0]) (by simp [results, Try.results16, go_sem, y0, y1]) rfl ⟨_, _, _, w3.heap.size, 1, r, rfl, unhide FN, (unhide RR).1, (unhide RR).2⟩

theorem rsum_all (sv dv : Value) (f : List Int) (d : List Nat) (w : World) (h1 : Ints w sv f) (hd : Flts w dv d) (hr : Roomy dv) :
    Calls Try.prog 16 #[.agg #[sv, dv]] w fun e w' => ∃ ds, HandR e w' (smS f d) ds (smE f d) ∧ ds.map cn = smL f d ∧ Kp w w' := by
  cases hm : mayT f d
  · obtain ⟨e1, e2, e3⟩ := sm_no hm
    rw [e1, e2, e3]
    refine (rsum_no sv dv f d w h1 hd hm).mono ?_
    rintro e w' ⟨rfl, k⟩
    exact ⟨[], HandR.nil _ _, rfl, k⟩
  · obtain ⟨e1, e2, e3⟩ := sm_yes hm
    rw [e1, e2, e3]
    refine (rsum_yes sv dv f d w h1 hd hr hm).mono ?_
    rintro e w' ⟨a1, n1, c1, G, c, r, rfl, fn, hc, hw⟩
    exact ⟨[r], HandR.fin fn (mayT_one r) i64_one (by intro x hx; rw [List.mem_singleton.1 hx]; exact hw), by simp [hc], fn.kp⟩

theorem rturn_all (sv dv : Value) (f : List Int) (d : List Nat) (w : World) (h1 : Ints w sv f) (hd : Flts w dv d) :
    Calls Try.prog 14 #[.agg #[sv, dv]] w fun e w' => HandR e w' (turS f d) (turL f d) (turE f d) ∧ Kp w w' := by
  cases hm : matB f d
  · obtain ⟨e1, e2, e3⟩ := tur_no hm
    rw [e1, e2, e3]
    refine (rturn_no sv dv f d w h1 hd hm).mono ?_
    rintro e w' ⟨rfl, k⟩
    exact ⟨HandR.nil _ _, k⟩
  · obtain ⟨p, m, rfl, p1, m1, dl, dm⟩ := two_of (matB_yes.1 hm).1 (matB_yes.1 hm).2
    obtain ⟨e1, e2, e3⟩ := tur_yes hm
    rw [e1, e2, e3]
    refine (rturn_yes sv dv p m d w h1 hd p1 m1 dl dm).mono ?_
    rintro e w' ⟨a1, n1, c1, G, c, rfl, fn⟩
    exact ⟨HandR.fin fn (mayT_two m1 p1 (turnD_length p m d) (by rw [Nat.mul_comm]; exact dm)) (i64_two (le_mul_r p1 dm) (le_mul_l m1 dm)) (turnD_wf (fun q => getD_w64 hd.wf q)), fn.kp⟩

theorem rmul_all (sv dv sv2 dv2 : Value) (f g : List Int) (d e : List Nat) (w : World) (h1 : Ints w sv f) (hd : Flts w dv d) (h2 : Ints w sv2 g) (hd2 : Flts w dv2 e) :
    Calls Try.prog 12 #[.agg #[sv, dv], .agg #[sv2, dv2]] w fun ee w' => ∃ ds, HandR ee w' (mulS f d g e) ds (mulE f d g e) ∧ ds.map cn = mulD f d g e ∧ Kp w w' := by
  cases hm : fitB f d g e
  · obtain ⟨e1, e2, e3⟩ := mul_nofit hm
    rw [e1, e2, e3]
    refine (rmul_no sv dv sv2 dv2 f g d e w h1 hd h2 hd2 hm).mono ?_
    rintro ee w' ⟨rfl, k⟩
    exact ⟨[], HandR.nil _ _, rfl, k⟩
  · obtain ⟨p, m, n, rfl, rfl, p1, m1, n1, dl, dm, el, em⟩ := fit_of hm
    by_cases hs : p * n ≤ 4096
    · obtain ⟨e1, e2, e3⟩ := mul_yes hm p1 n1 hs
      rw [e1, e2, e3]
      refine (rmul_fit sv dv sv2 dv2 p m n d e w h1 hd h2 hd2 p1 m1 n1 dl dm el em hs).mono ?_
      rintro ee w' ⟨a1, n1', c1, G, c, ds, rfl, fn, hcn, hw⟩
      have hdl : ds.length = p * n := by have := congrArg List.length hcn; rw [List.length_map, mulL_length] at this; exact this
      exact ⟨ds, HandR.fin fn (mayT_two p1 n1 hdl hs) (i64_two (le_mul_l m1 dm) (le_mul_r m1 em)) hw, hcn, fn.kp⟩
    · obtain ⟨e1, e2, e3⟩ := mul_big hm p1 n1 hs
      rw [e1, e2, e3]
      refine (rmul_over sv dv sv2 dv2 p m n d e w h1 hd h2 hd2 p1 m1 n1 dl dm el em hs).mono ?_
      rintro ee w' ⟨rfl, k⟩
      exact ⟨[], HandR.nil _ _, rfl, k⟩

theorem sameT_cn5 {s : List Int} {d d' : List Nat} (h : d.map cn = d'.map cn) : sameT s d s d' = true := by
  have hl : d.length = d'.length := by have := congrArg List.length h; simpa using this
  rw [sameT_yes (by unfold sameB; simp)]
  refine allB_yes hl (fun j hj => ?_)
  rw [sameF_iff]
  have h2 := congrArg (fun l => l.getD j 0) h
  have hj' : j < d'.length := by omega
  simp [hj, hj'] at h2
  simp [hj, hj']
  exact h2

set_option maxHeartbeats 1000000 in
theorem same5_any (sv dv sv' dv' : Value) (s : List Int) (d d' : List Nat) (q : Int) (w : World) (hs : Ints w sv s) (hd : Flts w dv d) (hs' : Ints w sv' s) (hd' : Flts w dv' d') (hc : d.map cn = d'.map cn) :
    Calls Try.prog 17 #[.agg #[sv, dv], .int .i64 q, .agg #[sv', dv'], .int .i64 q] w fun e w' => e = .returned (.bool true) ∧ Kp w w' := by
  have HS := hide hs
  have HD := hide hd
  have HS' := hide hs'
  have HD' := hide hd'
  have HT := hide (sameT_cn5 (s := s) hc)
  have hqq : (q == q) = true := by simp
  obtain ⟨p1, k1, rfl, -⟩ := hs.val
  obtain ⟨p2, k2, rfl, -⟩ := hd.val
  obtain ⟨p3, k3, rfl, -⟩ := hs'.val
  obtain ⟨p4, k4, rfl, -⟩ := hd'.val
  clear hs hd hs' hd' hc
  go_enter Try.func17, Try.ntmps17
  go_wp2_with fail
  obtain ⟨W, hW, x1, x2, k0⟩ := boxes_in w (.slice p1 s.length k1) (.slice p2 d.length k2) (.slice p3 s.length k3) (.slice p4 d'.length k4)
  rw [← hW]
  clear hW
  have K0 := hide k0
  try generalize w.heap.size + 1 = R at x2 ⊢
  try generalize w.heap.size = B at x1 ⊢
  obtain ⟨c0, c1, -, -, -⟩ := x1.o
  obtain ⟨d0, d1, -, -, -⟩ := x2.o
  clear x1 x2 k0
  try go_wp2_with fail
  refine (rsameT_any _ _ _ _ s d s d' W ((unhide HS).keep (unhide K0)) ((unhide HD).keep (unhide K0)) ((unhide HS').keep (unhide K0)) ((unhide HD').keep (unhide K0))).mono ?_
  rw [unhide HT]
  rintro e w1 ⟨rfl, k1'⟩
  have KF := hide ((unhide K0).trans k1')
  clear k1'
  go_wp2
  go_ret
  exact ⟨rfl, unhide KF⟩

end Go.Proofs.Ytgdmhmnmhfpkkaa
