
/- The contract of Two. -/
import Derived.Test.YtcegkaemcjlfgaaKerD
import Derived.Deep.RegionHeld3
namespace Go.Proofs.Ytcegkaemcjlfgaa
open Go.RowKit

theorem spr_into {a b : List Int} (h : sprE a b = 0) : intoB a (sprL a b) = true ∧ intoB b (sprL a b) = true := by
  obtain ⟨m1, m2, ag, mj⟩ := (sprE_zero_iff a b).1 h
  rw [sprL_yes m1 m2 ag mj]
  have pa := (may_good m1).2
  have pb := (may_good m2).2
  refine ⟨into_mk m1 mj (by rw [joinL_length]; omega) (fun k => ?_) (fun k => ?_), into_mk m2 mj (by rw [joinL_length]; omega) (fun k => ?_) (fun k => ?_)⟩
  · rw [fe_join pa pb]; omega
  · have g := ag_all ag k
    have p1 := fe_pos pa k
    have p2 := fe_pos pb k
    rw [fe_join pa pb]
    unfold agB at *
    simp only [Bool.or_eq_true, beq_iff_eq] at *
    omega
  · rw [fe_join pa pb]; omega
  · have g := ag_all ag k
    have p1 := fe_pos pa k
    have p2 := fe_pos pb k
    rw [fe_join pa pb]
    unfold agB at *
    simp only [Bool.or_eq_true, beq_iff_eq] at *
    omega

theorem boxes3_in (w : World) (x y u v p q : Value) : ∃ W, W = ((w.alloc (.cells #[x, y] 25)).alloc (.cells #[u, v] 25)).alloc (.cells #[p, q] 25) ∧ Bx W w.heap.size x y ∧ Bx W (w.heap.size + 1) u v ∧ Bx W (w.heap.size + 2) p q ∧ Kp w W := by
  obtain ⟨W, hW, x1, x2, k⟩ := boxes_in w x y u v
  refine ⟨_, rfl, ?_, ?_, ?_, ?_⟩
  · rw [← hW]; exact x1.keep (Kp.alloc _ _)
  · rw [← hW]; exact x2.keep (Kp.alloc _ _)
  · have := Bx.made ((w.alloc (.cells #[x, y] 25)).alloc (.cells #[u, v] 25)) p q
    have e1 : ((w.alloc (Obj.cells #[x, y] 25)).alloc (Obj.cells #[u, v] 25)).heap.size = w.heap.size + 2 := by simp
    rw [e1] at this
    exact this
  · rw [← hW]; exact k.trans (Kp.alloc _ _)

/-- the error of Two -/
def twoE (f : List Int) (d : List Nat) (f2 : List Int) (d2 : List Nat) : Int := if (mayT f d && mayT f2 d2) = true then sprE f f2 else 2

set_option maxHeartbeats 1000000 in
theorem two_no (op : Int) (g : Nat) (sv dv sv2 dv2 : Value) (f f2 : List Int) (d d2 : List Nat) (w : World) (h : Ints w sv f) (hd : Flts w dv d) (h2 : Ints w sv2 f2) (hd2 : Flts w dv2 d2)
    (hof : Hid (∀ w, Calls Try.prog 31 #[.int .i64 op] w fun e w' => e = .returned (.func (.func g) #[] #[]) ∧ w' = w)) (he : twoE f d f2 d2 ≠ 0) :
    Calls Try.prog 16 #[.int .i64 op, .agg #[sv, dv], .agg #[sv2, dv2]] w fun e w' => e = .returned (.tuple #[.agg #[.slice none 0 0, .slice none 0 0], .int .i64 (twoE f d f2 d2)]) ∧ Kp w w' := by
  have H := hide h
  have HD := hide hd
  have H2 := hide h2
  have HD2 := hide hd2
  have hfn := fnil_eq2
  clear h hd h2 hd2
  have hRS : Hid (w.heap.size ≤ w.heap.size + 2) := by unfold Hid; omega
  go_enter Try.func16, Try.ntmps16
  go_wp2_with fail
  obtain ⟨W, hW, x1, x2, x3, k0⟩ := boxes3_in w sv dv sv2 dv2 (.slice none 0 0) (.slice none 0 0)
  rw [← hW]
  clear hW
  have X1 := hide x1
  have X2 := hide x2
  have X3 := hide x3
  have K0 := hide k0
  clear x1 x2 x3 k0
  generalize w.heap.size + 2 = R at X3 hRS ⊢
  generalize w.heap.size + 1 = B2 at X2 ⊢
  generalize w.heap.size = B at X1 ⊢
  obtain ⟨c0, c1, -, -, -⟩ := (unhide X1).o
  obtain ⟨b0, b1, -, -, -⟩ := (unhide X2).o
  refine (hof.out W).mono ?_
  rintro e w0 ⟨rfl, rfl⟩
  go_wp2_with fail
  refine (mayT_any _ _ f d w0 ((unhide H).keep (unhide K0)) ((unhide HD).keep (unhide K0))).mono ?_
  rintro e w1 ⟨rfl, k1⟩
  clear c0 c1 b0 b1
  have Y1 := hide ((unhide X1).keep k1)
  have Y2 := hide ((unhide X2).keep k1)
  have Y3 := hide ((unhide X3).keep k1)
  have K1 := hide ((unhide K0).trans k1)
  obtain ⟨c0, c1, -, -, -⟩ := (unhide Y1).o
  obtain ⟨b0, b1, -, -, -⟩ := (unhide Y2).o
  clear k1 X1 X2 X3 K0
  cases hm1 : mayT f d
  · have EE : Hid (twoE f d f2 d2 = 2) := by unfold Hid twoE; rw [hm1]; rfl
    clear hm1
    obtain ⟨d0, d1, dd2, d3, -⟩ := (unhide Y3).o
    have z2 := (unhide Y3).set (.slice none 0 0) (.slice none 0 0)
    obtain ⟨z0, z1, -, -, -⟩ := z2.o
    clear z2
    have KF := hide (((unhide K1).set (unhide hRS) (i := 0) (.slice none 0 0)).set (unhide hRS) (i := 1) (.slice none 0 0))
    go_wp2
    generalize ((w1.setCell ⟨R, 0, none⟩ (.slice none 0 0)).setCell ⟨R, 1, none⟩ (.slice none 0 0)) = w9 at *
    refine bodyPost_ret (v := .tuple #[.agg #[.slice none 0 0, .slice none 0 0], .int .i64 2]) (by simp [results, Try.results16, go_sem, z0, z1]) rfl ⟨by rw [unhide EE], unhide KF⟩
  · have HM1 := hide hm1
    clear hm1
    go_wp2_with fail
    refine (mayT_any _ _ f2 d2 w1 ((unhide H2).keep (unhide K1)) ((unhide HD2).keep (unhide K1))).mono ?_
    rintro e w2 ⟨rfl, k2⟩
    clear c0 c1 b0 b1
    have X1 := hide ((unhide Y1).keep k2)
    have X2 := hide ((unhide Y2).keep k2)
    have X3 := hide ((unhide Y3).keep k2)
    have K2 := hide ((unhide K1).trans k2)
    obtain ⟨c0, c1, -, -, -⟩ := (unhide X1).o
    obtain ⟨b0, b1, -, -, -⟩ := (unhide X2).o
    clear k2 Y1 Y2 Y3 K1
    cases hm2 : mayT f2 d2
    · have EE : Hid (twoE f d f2 d2 = 2) := by unfold Hid twoE; rw [hm2, Bool.and_false]; rfl
      clear hm2
      obtain ⟨d0, d1, dd2, d3, -⟩ := (unhide X3).o
      have z2 := (unhide X3).set (.slice none 0 0) (.slice none 0 0)
      obtain ⟨z0, z1, -, -, -⟩ := z2.o
      clear z2
      have KF := hide (((unhide K2).set (unhide hRS) (i := 0) (.slice none 0 0)).set (unhide hRS) (i := 1) (.slice none 0 0))
      go_wp2
      generalize ((w2.setCell ⟨R, 0, none⟩ (.slice none 0 0)).setCell ⟨R, 1, none⟩ (.slice none 0 0)) = w9 at *
      refine bodyPost_ret (v := .tuple #[.agg #[.slice none 0 0, .slice none 0 0], .int .i64 2]) (by simp [results, Try.results16, go_sem, z0, z1]) rfl ⟨by rw [unhide EE], unhide KF⟩
    · have EE : Hid (twoE f d f2 d2 = sprE f f2) := by unfold Hid twoE; rw [hm2, unhide HM1]; rfl
      have hne : (sprE f f2 != 0) = true := by rw [bne_iff_ne, ← unhide EE]; exact he
      clear hm2
      go_wp2_with fail
      refine (spread_any _ _ f f2 w2 ((unhide H).keep (unhide K2)) ((unhide H2).keep (unhide K2))).mono ?_
      rintro e w3 ⟨r, rfl, hr, -, k3⟩
      clear c0 c1 b0 b1
      obtain ⟨pr, cr, rfl, -⟩ := hr.val
      clear hr
      have y3 := (unhide X3).keep k3
      obtain ⟨d0, d1, dd2, d3, -⟩ := y3.o
      have z2 := y3.set (.slice none 0 0) (.slice none 0 0)
      obtain ⟨z0, z1, -, -, -⟩ := z2.o
      have KF := hide ((((unhide K2).trans k3).set (unhide hRS) (i := 0) (.slice none 0 0)).set (unhide hRS) (i := 1) (.slice none 0 0))
      clear z2 y3 k3 he
      generalize sprE f f2 = q at *
      go_wp2
      generalize ((w3.setCell ⟨R, 0, none⟩ (.slice none 0 0)).setCell ⟨R, 1, none⟩ (.slice none 0 0)) = w9 at *
      refine bodyPost_ret (v := .tuple #[.agg #[.slice none 0 0, .slice none 0 0], .int .i64 q]) (by simp [results, Try.results16, go_sem, z0, z1]) rfl ⟨by rw [unhide EE], unhide KF⟩

set_option maxHeartbeats 4000000 in
theorem two_yes (op : Int) (g : Nat) (RR : Nat → Nat → Nat → Prop) (sv dv sv2 dv2 : Value) (f f2 : List Int) (d d2 : List Nat) (w : World) (h : Ints w sv f) (hd : Flts w dv d) (h2 : Ints w sv2 f2) (hd2 : Flts w dv2 d2)
    (hof : Hid (∀ w, Calls Try.prog 31 #[.int .i64 op] w fun e w' => e = .returned (.func (.func g) #[] #[]) ∧ w' = w))
    (hcall : ∀ args w, Sem.run Try.prog (callFunc g args) w = .ok (.enter g args) w)
    (hf : Hid (∀ x y w1, W64 x → W64 y → Calls Try.prog g #[.float .f64 x, .float .f64 y] w1 fun e w2 => ∃ r, e = .returned (.float .f64 r) ∧ (RR x y r ∧ W64 r) ∧ Kp w1 w2))
    (hm1 : mayT f d = true) (hm2 : mayT f2 d2 = true) (he : sprE f f2 = 0) :
    Calls Try.prog 16 #[.int .i64 op, .agg #[sv, dv], .agg #[sv2, dv2]] w fun e w' => ∃ a1 n1 c1 G c ds, e = .returned (.tuple #[.agg #[.slice a1 n1 c1, .slice (some ⟨G, 0, none⟩) ds.length c], .int .i64 0]) ∧
      Fin w w' (sprL f f2) a1 n1 c1 G c ds ∧ mayT (sprL f f2) ds = true ∧ (∀ x ∈ ds, W64 x) ∧ ∀ j, j < ds.length → RR ((sprD f (sprL f f2) d).getD j 0) ((sprD f2 (sprL f f2) d2).getD j 0) (ds.getD j 0) := by
  have H := hide h
  have HD := hide hd
  have H2 := hide h2
  have HD2 := hide hd2
  have hfn := fnil_eq2
  obtain ⟨i1, i2⟩ := spr_into he
  have I1 := hide i1
  have I2 := hide i2
  have WD := hide (sprD_wf (f := f) (t := sprL f f2) hd.wf)
  have WD2 := hide (sprD_wf (f := f2) (t := sprL f f2) hd2.wf)
  have HM1 := hide hm1
  have HM2 := hide hm2
  have HE := hide he
  have LE : Hid ((sprD f2 (sprL f f2) d2).length = (sprD f (sprL f f2) d).length) := by unfold Hid; rw [sprD_length, sprD_length, srcL_length, srcL_length]
  have LB : Hid ((sprD f (sprL f f2) d).length ≤ 4096) := by
    have := mayT_len (sprD_may (d := d) i1)
    have := may_prod (mayT_may (sprD_may (d := d) i1))
    unfold Hid; omega
  clear h hd h2 hd2 hm1 hm2 he i1 i2
  have hRS : Hid (w.heap.size ≤ w.heap.size + 2) := by unfold Hid; omega
  obtain ⟨aS, cs, rfl, -⟩ := (unhide H).val
  obtain ⟨ad, cd, rfl, -⟩ := (unhide HD).val
  obtain ⟨aS2, cs2, rfl, -⟩ := (unhide H2).val
  obtain ⟨ad2, cd2, rfl, -⟩ := (unhide HD2).val
  go_enter Try.func16, Try.ntmps16
  go_wp2_with fail
  obtain ⟨W, hW, x1, x2, x3, k0⟩ := boxes3_in w (.slice aS f.length cs) (.slice ad d.length cd) (.slice aS2 f2.length cs2) (.slice ad2 d2.length cd2) (.slice none 0 0) (.slice none 0 0)
  rw [← hW]
  clear hW
  have X1 := hide x1
  have X2 := hide x2
  have X3 := hide x3
  have K0 := hide k0
  clear x1 x2 x3 k0
  generalize w.heap.size + 2 = R at X3 hRS ⊢
  generalize w.heap.size + 1 = B2 at X2 ⊢
  generalize w.heap.size = B at X1 ⊢
  obtain ⟨c0, c1, -, -, -⟩ := (unhide X1).o
  obtain ⟨b0, b1, -, -, -⟩ := (unhide X2).o
  refine (hof.out W).mono ?_
  rintro e w0 ⟨rfl, rfl⟩
  go_wp2_with fail
  refine (mayT_any _ _ f d w0 ((unhide H).keep (unhide K0)) ((unhide HD).keep (unhide K0))).mono ?_
  rw [unhide HM1]
  rintro e w1 ⟨rfl, k1⟩
  clear c0 c1 b0 b1
  have Y1 := hide ((unhide X1).keep k1)
  have Y2 := hide ((unhide X2).keep k1)
  have Y3 := hide ((unhide X3).keep k1)
  have K1 := hide ((unhide K0).trans k1)
  obtain ⟨c0, c1, -, -, -⟩ := (unhide Y1).o
  obtain ⟨b0, b1, -, -, -⟩ := (unhide Y2).o
  clear k1 X1 X2 X3 K0
  go_wp2_with fail
  refine (mayT_any _ _ f2 d2 w1 ((unhide H2).keep (unhide K1)) ((unhide HD2).keep (unhide K1))).mono ?_
  rw [unhide HM2]
  rintro e w2 ⟨rfl, k2⟩
  clear c0 c1 b0 b1
  have X1 := hide ((unhide Y1).keep k2)
  have X2 := hide ((unhide Y2).keep k2)
  have X3 := hide ((unhide Y3).keep k2)
  have K2 := hide ((unhide K1).trans k2)
  obtain ⟨c0, c1, -, -, -⟩ := (unhide X1).o
  obtain ⟨b0, b1, -, -, -⟩ := (unhide X2).o
  clear k2 Y1 Y2 Y3 K1
  go_wp2_with fail
  refine (spread_any _ _ f f2 w2 ((unhide H).keep (unhide K2)) ((unhide H2).keep (unhide K2))).mono ?_
  rw [unhide HE]
  rintro e w3 ⟨r, rfl, hr, -, k3⟩
  clear c0 c1 b0 b1
  have HR := hide hr
  obtain ⟨pr, cr, rfl, -⟩ := hr.val
  have x1 := (unhide X1).keep k3
  have x2 := (unhide X2).keep k3
  have x3 := (unhide X3).keep k3
  have K3 := hide ((unhide K2).trans k3)
  clear hr k3 X1 X2 X3 K2
  obtain ⟨c0, c1, c2, c3, c4⟩ := x1.o
  obtain ⟨b0, b1, b2, b3, b4⟩ := x2.o
  obtain ⟨r0, r1, r2, r3, r4⟩ := x3.o
  have Z3 := hide x3
  have L1 := hide (sprD_length f (sprL f f2) d)
  generalize hT : sprL f f2 = T at *
  have C1 := hide (fun w0 (k : Kp w3 w0) => (kspread_any (.slice aS f.length cs) (.slice ad d.length cd) (.slice pr T.length cr) f T d w0 ((unhide H).keep ((unhide K3).trans k)) ((unhide HD).keep ((unhide K3).trans k)) ((unhide HR).keep k) (unhide I1) (mayT_len (unhide HM1))).mono (R' := fun e w' => ∃ G, e = .returned (.slice (some ⟨G, 0, none⟩) (sprD f T d).length (sprD f T d).length) ∧ Hid (Flts w' (.slice (some ⟨G, 0, none⟩) (sprD f T d).length (sprD f T d).length) (sprD f T d)) ∧ Hid (Kp w3 w') ∧ BxO w' B (.slice aS f.length cs) (.slice ad d.length cd) ∧ BxO w' B2 (.slice aS2 f2.length cs2) (.slice ad2 d2.length cd2) ∧ BxO w' R (.slice none 0 0) (.slice none 0 0)) (by
    rintro e w' ⟨G, rfl, hG, bg, k'⟩
    exact ⟨G, rfl, bg.flts rfl (unhide WD) (by have := unhide LB; omega), k.trans k', (x1.keep (k.trans k')).o, (x2.keep (k.trans k')).o, (x3.keep (k.trans k')).o⟩))
  have C2 := hide (fun w0 (k : Kp w3 w0) => (kspread_any (.slice aS2 f2.length cs2) (.slice ad2 d2.length cd2) (.slice pr T.length cr) f2 T d2 w0 ((unhide H2).keep ((unhide K3).trans k)) ((unhide HD2).keep ((unhide K3).trans k)) ((unhide HR).keep k) (unhide I2) (mayT_len (unhide HM2))).mono (R' := fun e w' => ∃ G, e = .returned (.slice (some ⟨G, 0, none⟩) (sprD f2 T d2).length (sprD f2 T d2).length) ∧ Hid (Flts w' (.slice (some ⟨G, 0, none⟩) (sprD f2 T d2).length (sprD f2 T d2).length) (sprD f2 T d2)) ∧ Hid (Kp w0 w') ∧ Hid (Kp w3 w') ∧ BxO w' B (.slice aS f.length cs) (.slice ad d.length cd) ∧ BxO w' B2 (.slice aS2 f2.length cs2) (.slice ad2 d2.length cd2) ∧ BxO w' R (.slice none 0 0) (.slice none 0 0)) (by
    rintro e w' ⟨G, rfl, hG, bg, k'⟩
    exact ⟨G, rfl, bg.flts rfl (unhide WD2) (by have := unhide LB; have := unhide LE; omega), k', k.trans k', (x1.keep (k.trans k')).o, (x2.keep (k.trans k')).o, (x3.keep (k.trans k')).o⟩))
  have C3 := hide (fun w0 (k : Kp w3 w0) v1 v2 (q1 : Flts w0 v1 (sprD f T d)) (q2 : Flts w0 v2 (sprD f2 T d2)) => (paired_any g RR v1 v2 (sprD f T d) (sprD f2 T d2) w0 q1 q2 (unhide LE) (unhide LB) hcall hf).mono (R' := fun e w' => ∃ G ds, e = .returned (.slice (some ⟨G, 0, none⟩) ds.length ds.length) ∧ Hid (Flts w' (.slice (some ⟨G, 0, none⟩) ds.length ds.length) ds ∧ ds.length = (sprD f T d).length ∧ (∀ x ∈ ds, W64 x) ∧ ∀ j, j < (sprD f T d).length → RR ((sprD f T d).getD j 0) ((sprD f2 T d2).getD j 0) (ds.getD j 0)) ∧ Hid (Kp w3 w') ∧ BxO w' B (.slice aS f.length cs) (.slice ad d.length cd) ∧ BxO w' B2 (.slice aS2 f2.length cs2) (.slice ad2 d2.length cd2) ∧ BxO w' R (.slice none 0 0) (.slice none 0 0)) (by
    rintro e w' ⟨G, ds, rfl, hG, bg, hl, hw, hrr, k'⟩
    exact ⟨G, ds, rfl, ⟨bg.flts rfl hw (by have := unhide LB; omega), hl, hw, hrr⟩, k.trans k', (x1.keep (k.trans k')).o, (x2.keep (k.trans k')).o, (x3.keep (k.trans k')).o⟩))
  have C4 := hide (fun w0 (k : Kp w3 w0) G ds (q : Flts w0 (.slice (some ⟨G, 0, none⟩) ds.length ds.length) ds) (hmt : mayT T ds = true) => (of_yes (.slice pr T.length cr) (.slice (some ⟨G, 0, none⟩) ds.length ds.length) T ds w0 ((unhide HR).keep k) q hmt).mono (R' := fun e w' => ∃ a1 n1 c1 G1 c, e = .returned (.tuple #[.agg #[.slice a1 n1 c1, .slice (some ⟨G1, 0, none⟩) ds.length c], .int .i64 0]) ∧ Hid (Own w' 3 w0.heap.size (.slice a1 n1 c1) T ∧ w0.heap.size ≤ G1 ∧ OwnG w' 38 G1 ds.length c ds ∧ Kp w0 w') ∧ BxO w' R (.slice none 0 0) (.slice none 0 0)) (by
    rintro e w' ⟨a1, n1, c1, G1, c, rfl, o1, hG1, og, k'⟩
    exact ⟨a1, n1, c1, G1, c, rfl, ⟨o1, hG1, og, k'⟩, (x3.keep (k.trans k')).o⟩))
  have MT : Hid (∀ ds : List Nat, ds.length = (sprD f T d).length → mayT T ds = true) := by
    intro ds hl
    have := sprD_may (d := d) (unhide I1)
    unfold mayT at *
    rw [hl]
    exact this
  clear x1 x2 x3 H HD H2 HD2 WD WD2 LB hof hfn
  go_wp2_with fail
  go_region_with (first
    | (go_at_call_of 21 (Value.agg #[Value.slice aS f.length cs, Value.slice ad d.length cd]); refine ((unhide C1) _ ?_).mono ?_; (first | (exact unhide (by assumption)) | exact Kp.drew w3); rintro e w4 ⟨G1, rfl, F1, K4, ⟨c0, c1, c2, c3, c4⟩, ⟨b0, b1, b2, b3, b4⟩, ⟨r0, r1, r2, r3, r4⟩⟩)
    | (go_at_call 21; refine ((unhide C2) _ ?_).mono ?_; (first | (exact unhide (by assumption)) | exact Kp.drew w3); rintro e w5 ⟨G2, rfl, F2, J5, K5, ⟨c0, c1, c2, c3, c4⟩, ⟨b0, b1, b2, b3, b4⟩, ⟨r0, r1, r2, r3, r4⟩⟩)
    | (go_at_call 33; refine ((unhide C3) _ (unhide K5) _ _ ((unhide F1).keep (unhide J5)) (unhide F2)).mono ?_; rintro e w6 ⟨G3, ds, rfl, F3, K6, ⟨c0, c1, c2, c3, c4⟩, ⟨b0, b1, b2, b3, b4⟩, ⟨r0, r1, r2, r3, r4⟩⟩)
    | (go_at_call 20; refine ((unhide C4) _ (unhide K6) G3 ds (unhide F3).1 (unhide MT ds (unhide F3).2.1)).mono ?_; rintro e w7 ⟨a1, n1, c1', G4, c, rfl, F4, ⟨r0, r1, r2, r3, r4⟩⟩))
  all_goals (
    have FN := hide (Fin.mk' (unhide F4).1 (unhide F4).2.1 (unhide F4).2.2.1 ((unhide K3).trans (unhide K6)) (unhide F4).2.2.2 ((unhide Z3).keep (unhide K6)) (unhide hRS))
    have z2 := ((unhide Z3).keep ((unhide K6).trans (unhide F4).2.2.2)).set (.slice a1 n1 c1') (.slice (some ⟨G4, 0, none⟩) ds.length c)
    generalize ((w7.setCell ⟨R, 0, none⟩ (.slice a1 n1 c1')).setCell ⟨R, 1, none⟩ (.slice (some ⟨G4, 0, none⟩) ds.length c)) = w9 at *
    obtain ⟨z0, z1, -, -, -⟩ := z2.o
    clear c0 c1 c2 c3 c4 b0 b1 b2 b3 b4 r0 r1 r2 r3 r4 z2)
  all_goals go_wp2
  all_goals subst hT
  all_goals refine bodyPost_ret (v := .tuple #[.agg #[.slice a1 n1 c1', .slice (some ⟨G4, 0, none⟩) ds.length c], .int .i64 0]) (by simp [results, Try.results16, go_sem, z0, z1]) rfl ⟨a1, n1, c1', G4, c, ds, rfl, unhide FN, unhide MT ds (unhide F3).2.1, (unhide F3).2.2.1, fun j hj => (unhide F3).2.2.2 j (by have := (unhide F3).2.1; omega)⟩

end Go.Proofs.Ytcegkaemcjlfgaa
