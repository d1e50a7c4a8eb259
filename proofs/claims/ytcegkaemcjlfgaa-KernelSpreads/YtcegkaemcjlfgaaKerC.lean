
/- Contracts of what is done two by two, and of tensors broadcast and reshaped. -/
import Derived.Test.YtcegkaemcjlfgaaKerB
import Derived.Test.YtcegkaemcjlfgaaSpr
import Derived.Test.YtcegkaemcjlfgaaRSpr
namespace Go.Proofs.Ytcegkaemcjlfgaa
open Go.RowKit

set_option maxHeartbeats 1000000 in
theorem paired_any (g : Nat) (R : Nat → Nat → Nat → Prop) (v u : Value) (xs ys : List Nat) (w : World) (h : Flts w v xs) (h' : Flts w u ys) (hl : ys.length = xs.length) (hn : xs.length ≤ 4096)
    (hcall : ∀ args w, Sem.run Try.prog (callFunc g args) w = .ok (.enter g args) w)
    (hf : Hid (∀ x y w1, W64 x → W64 y → Calls Try.prog g #[.float .f64 x, .float .f64 y] w1 fun e w2 => ∃ r, e = .returned (.float .f64 r) ∧ (R x y r ∧ W64 r) ∧ Kp w1 w2)) :
    Calls Try.prog 33 #[v, u, .func (.func g) #[] #[]] w fun e w' => ∃ G ds, e = .returned (.slice (some ⟨G, 0, none⟩) ds.length ds.length) ∧ w.heap.size ≤ G ∧ BlkF w' 38 G ds ∧ ds.length = xs.length ∧
      (∀ x ∈ ds, W64 x) ∧ (∀ j, j < xs.length → R (xs.getD j 0) (ys.getD j 0) (ds.getD j 0)) ∧ Kp w w' := by
  have WX := hide h.wf
  have WY := hide h'.wf
  obtain ⟨p, cp, rfl, hv⟩ := h.val
  obtain ⟨p', cp', rfl, hv'⟩ := h'.val
  have HV := hide hv
  have HV' := hide hv'
  have hmk := mk_flts xs.length (by omega)
  have hst : ∀ (a : Addr) (x : Nat) (w : World), (store a (.float .f64 x)).run Try.prog w = stored Try.prog w a (.float .f64 x) .plain := fun a x w => run_store _ w a _ _ rfl
  have hl2 : ys.length ≤ xs.length := by omega
  have hl3 : xs.length ≤ ys.length := by omega
  clear h h' hv hv' hl
  go_enter Try.func33, Try.ntmps33
  go_wp2_with fail
  clear hmk
  have B0 := hide (BlkF.made w 38 xs.length)
  have K0 := hide (Kp.alloc w (.cells (madeCells #[.float .f64 0] xs.length) 38))
  have HVB : Hid (∀ b, b < w.heap.size → ¬ b = w.heap.size) := by intro b hb; omega
  generalize w.alloc (.cells (madeCells #[.float .f64 0] xs.length) 38) = w1 at *
  generalize hG : w.heap.size = G at B0 HVB ⊢
  have HGS : Hid (w.heap.size ≤ G) := by unfold Hid; omega
  have HVB' : Hid (∀ b, b < w.heap.size → ¬ b = G) := by intro b hb; omega
  clear hG HVB
  generalize hN : xs.length = N at *
  go_loopw [14] (fun i wr => ∃ (k : Nat) (ms : List Nat), k ≤ N ∧ i = .int .i64 k ∧ ms.length = k ∧ Hid (BlkF wr 38 G (ms ++ List.replicate (N - k) 0)) ∧ Hid (∀ x ∈ ms, W64 x) ∧ Hid (∀ j, j < k → R (xs.getD j 0) (ys.getD j 0) (ms.getD j 0)) ∧ Hid (Kx G w1 wr)) (fun i _ => N - (intOf i).toNat)
  case atStart => exact ⟨0, [], Nat.zero_le _, rfl, rfl, by simpa using B0, by simp [Hid], by unfold Hid; omega, Kx.refl _ _⟩
  case round =>
    obtain ⟨k, ms, hk, rfl, hm, BL, HM, HR, KX⟩ := hrel
    by_cases hlt : k < N
    · obtain ⟨b, off, rfl, hb, hc⟩ := unhide HV (by omega)
      obtain ⟨b', off', rfl, hb', hc'⟩ := unhide HV' (by omega)
      have hck : wr.cell? ⟨b, off + k, none⟩ = some (.float .f64 (xs.getD k 0)) := ((unhide KX).cell (p := ⟨b, off + k, none⟩) (Nat.lt_of_lt_of_le hb (unhide K0).size) (unhide HVB' b hb)).trans ((Below.cell (unhide K0) (p := ⟨b, off + k, none⟩) hb).trans (hc k (by omega)))
      have hck' : wr.cell? ⟨b', off' + k, none⟩ = some (.float .f64 (ys.getD k 0)) := ((unhide KX).cell (p := ⟨b', off' + k, none⟩) (Nat.lt_of_lt_of_le hb' (unhide K0).size) (unhide HVB' b' hb')).trans ((Below.cell (unhide K0) (p := ⟨b', off' + k, none⟩) hb').trans (hc' k (by omega)))
      have hlen : (ms ++ List.replicate (N - k) 0).length = N := by rw [List.length_append, List.length_replicate]; omega
      have hcell := (unhide BL).cell (i := k) (by omega)
      have hfro := (unhide BL).frozen k
      have W1 := hide (getD_w64 (unhide WX) k)
      have W2 := hide (getD_w64 (unhide WY) k)
      have CC := hide (fun w0 (kp : Kp wr w0) => (hf.out (xs.getD k 0) (ys.getD k 0) w0 (unhide W1) (unhide W2)).mono (R' := fun e w' => ∃ r, e = .returned (.float .f64 r) ∧ Hid (R (xs.getD k 0) (ys.getD k 0) r ∧ W64 r) ∧ Hid (Kp wr w') ∧ w'.cell? ⟨G, k, none⟩ = some (.float .f64 ((ms ++ List.replicate (N - k) 0).getD k 0)) ∧ w'.frozen? ⟨G, k, none⟩ = false) (by
        rintro e w' ⟨r, rfl, hr, k'⟩
        exact ⟨r, rfl, hr, kp.trans k', ((unhide BL).keep (kp.trans k')).cell (by omega), ((unhide BL).keep (kp.trans k')).frozen k⟩))
      have HR' : Hid (∀ r, R (xs.getD k 0) (ys.getD k 0) r → ∀ j, j < k + 1 → R (xs.getD j 0) (ys.getD j 0) ((ms ++ [r]).getD j 0)) := by
        intro r hr j hj
        by_cases e : j = k
        · subst e
          have : (ms ++ [r]).getD j 0 = r := by
            rw [List.getD_eq_getElem?_getD, List.getElem?_append_right (by omega), hm, Nat.sub_self]; rfl
          rw [this]
          exact hr
        · have : (ms ++ [r]).getD j 0 = ms.getD j 0 := by
            rw [List.getD_eq_getElem?_getD, List.getElem?_append_left (by omega), ← List.getD_eq_getElem?_getD]
          rw [this]
          exact unhide HR j (by omega)
      have HD : Hid (∀ r, (ms ++ List.replicate (N - k) 0).set k r = (ms ++ [r]) ++ List.replicate (N - (k + 1)) 0) := by
        intro r
        rw [List.set_append_right _ _ (by omega), hm, Nat.sub_self, show N - k = (N - (k + 1)) + 1 by omega, List.replicate_succ (n := N - (k + 1)), List.set_cons_zero]
        simp
      have HL2 : Hid (∀ r, (ms ++ [r]).length = k + 1) := by intro r; simp [hm]
      have hkn : (k : Int) < (N : Int) := by omega
      have hkn' : (k : Int) < (ys.length : Int) := by omega
      have hky : k < ys.length := by omega
      clear hc hc' hlen
      generalize (ms ++ List.replicate (N - k) 0).getD k 0 = old at *
      generalize xs.getD k 0 = x at *
      generalize ys.getD k 0 = y at *
      have NE1 := unhide HVB' b hb
      have NE2 := unhide HVB' b' hb'
      clear W1 W2
      go_wp2_with fail
      go_region_with
        (first | (refine ((unhide CC) _ ?_).mono ?_; (first | (exact unhide (by assumption)) | exact Kp.drew wr); rintro e w2 ⟨r, rfl, RR, K2, e1, e2⟩))
      all_goals (
        have OG' := hide (((unhide BL).keep (unhide K2)).set k r)
        rw [unhide HD r] at OG'
        have KR' := hide (((unhide KX).kp (unhide K2)).set k (.float .f64 r))
        have HM' : Hid (∀ x ∈ ms ++ [r], W64 x) := by
          intro y hy
          rcases List.mem_append.1 hy with h | h
          · exact unhide HM y h
          · rw [List.mem_singleton.1 h]
            exact (unhide RR).2
        have HR2 := hide (unhide HR' r (unhide RR).1)
        clear e1 e2 hck hck' hcell hfro
        generalize w2.setCell { block := G, off := k } (Value.float FloatKind.f64 r) = w3 at *)
      all_goals (
        go_wp2
        go_roundw
        case rel => exact ⟨k + 1, ms ++ [r], by omega, by go_num, unhide HL2 r, unhide OG', unhide HM', unhide HR2, unhide KR'⟩
        case measure => simp [intOf]; omega)
    · obtain rfl : k = N := by omega
      rw [Nat.sub_self, List.replicate_zero, List.append_nil] at BL
      have KF := hide (Kx.after (unhide K0) (unhide KX) (unhide HGS))
      go_wp2
      go_ret
      subst hm
      exact ⟨G, ms, rfl, unhide HGS, unhide BL, hN.symm, unhide HM, fun j hj => unhide HR j (by omega), unhide KF⟩

theorem oftwo_add (w : World) : Calls Try.prog 31 #[.int .i64 4] w fun e w' => e = .returned (.func (.func 45) #[] #[]) ∧ w' = w := by
  go_enter Try.func31, Try.ntmps31
  go_wp2
  go_ret
  exact ⟨rfl, rfl⟩

theorem fnil_eq2 (w : World) (fn : Fn) (caps first : Array Value) : (binOp .eql 54 (.func fn caps first) .nilFunc).run Try.prog w = .ok (.bool false) w := by
  kernel_rfl

/-- the box of a result is filled, and what it is handed back as -/
structure Fin (w w9 : World) (s : List Int) (a1 : Option Addr) (n1 c1 G : Nat) (c : Nat) (d : List Nat) : Prop where
  own : Own w9 3 w.heap.size (.slice a1 n1 c1) s
  gs : w.heap.size ≤ G
  og : OwnG w9 38 G d.length c d
  kp : Kp w w9

theorem Fin.mk' {w w1 w2 : World} {R : Nat} {s : List Int} {a1 : Option Addr} {n1 c1 G c : Nat} {d : List Nat} {x y : Value} (o : Own w2 3 w1.heap.size (.slice a1 n1 c1) s) (hG : w1.heap.size ≤ G) (og : OwnG w2 38 G d.length c d)
    (k1 : Kp w w1) (k2 : Kp w1 w2) (hb : Bx w1 R x y) (hR : w.heap.size ≤ R) : Fin w ((w2.setCell ⟨R, 0, none⟩ (.slice a1 n1 c1)).setCell ⟨R, 1, none⟩ (.slice (some ⟨G, 0, none⟩) d.length c)) s a1 n1 c1 G c d := by
  have hlt := hb.lt
  refine ⟨((o.setBelow hlt 0 _).setBelow hlt 1 _).weak k1.size, Nat.le_trans k1.size hG, ?_, ((k1.trans k2).set hR (i := 0) _).set hR (i := 1) _⟩
  have hne : ¬ R = G := by omega
  exact (og.setOther hne 0 _).setOther hne 1 _

set_option maxHeartbeats 1000000 in
theorem Kspread_no (sv dv u : Value) (f t : List Int) (d : List Nat) (w : World) (h : Ints w sv f) (hd : Flts w dv d) (h' : Ints w u t) (hm : (mayT f d && intoB f t) = false) :
    Calls Try.prog 8 #[.agg #[sv, dv], u] w fun e w' => e = .returned (.tuple #[.agg #[.slice none 0 0, .slice none 0 0], .int .i64 2]) ∧ Kp w w' := by
  have H := hide h
  have HD := hide hd
  have H' := hide h'
  clear h hd h'
  cases hm1 : mayT f d
  · have HM1 := hide hm1
    clear hm hm1
    go_enter Try.func8, Try.ntmps8
    go_wp2_with fail
    obtain ⟨W, hW, x1, x2, k0⟩ := boxes_in w sv dv (.slice none 0 0) (.slice none 0 0)
    rw [← hW]
    clear hW
    have X1 := hide x1
    have X2 := hide x2
    have K0 := hide k0
    clear x1 x2 k0
    have hRS : Hid (w.heap.size ≤ w.heap.size + 1) := Nat.le_succ _
    generalize w.heap.size + 1 = R at X2 hRS ⊢
    generalize w.heap.size = B at X1 ⊢
    obtain ⟨c0, c1, -, -, -⟩ := (unhide X1).o
    try go_wp2_with fail
    refine (mayT_any _ _ f d W ((unhide H).keep (unhide K0)) ((unhide HD).keep (unhide K0))).mono ?_
    rw [unhide HM1]
    rintro e w1 ⟨rfl, k1⟩
    clear c0 c1
    have x3 := (unhide X2).keep k1
    obtain ⟨d0, d1, d2, d3, -⟩ := x3.o
    obtain ⟨c0, c1, -, -, -⟩ := ((unhide X1).keep k1).o
    have K1 := hide ((unhide K0).trans k1)
    have z2 := x3.set (.slice none 0 0) (.slice none 0 0)
    clear k1 x3
    obtain ⟨z0, z1, -, -, -⟩ := z2.o
    clear z2
    go_wp2
    have KF := hide (((unhide K1).set (unhide hRS) (i := 0) (.slice none 0 0)).set (unhide hRS) (i := 1) (.slice none 0 0))
    generalize ((w1.setCell ⟨R, 0, none⟩ (.slice none 0 0)).setCell ⟨R, 1, none⟩ (.slice none 0 0)) = w9 at *
    refine bodyPost_ret (v := .tuple #[.agg #[.slice none 0 0, .slice none 0 0], .int .i64 2]) (by simp [results, Try.results8, go_sem, z0, z1]) rfl ⟨rfl, unhide KF⟩
  · have HM1 := hide hm1
    have HM2 : Hid (intoB f t = false) := by rw [hm1] at hm; exact hm
    clear hm hm1
    go_enter Try.func8, Try.ntmps8
    go_wp2_with fail
    obtain ⟨W, hW, x1, x2, k0⟩ := boxes_in w sv dv (.slice none 0 0) (.slice none 0 0)
    rw [← hW]
    clear hW
    have X1 := hide x1
    have X2 := hide x2
    have K0 := hide k0
    clear x1 x2 k0
    have hRS : Hid (w.heap.size ≤ w.heap.size + 1) := Nat.le_succ _
    generalize w.heap.size + 1 = R at X2 hRS ⊢
    generalize w.heap.size = B at X1 ⊢
    obtain ⟨c0, c1, -, -, -⟩ := (unhide X1).o
    try go_wp2_with fail
    refine (mayT_any _ _ f d W ((unhide H).keep (unhide K0)) ((unhide HD).keep (unhide K0))).mono ?_
    rw [unhide HM1]
    rintro e w1 ⟨rfl, k1⟩
    clear c0 c1
    have Y1 := hide ((unhide X1).keep k1)
    have Y2 := hide ((unhide X2).keep k1)
    have K1 := hide ((unhide K0).trans k1)
    obtain ⟨c0, c1, -, -, -⟩ := (unhide Y1).o
    clear k1 X1 X2 K0
    go_wp2_with fail
    refine (into_any _ _ f t w1 ((unhide H).keep (unhide K1)) ((unhide H').keep (unhide K1))).mono ?_
    rw [unhide HM2]
    rintro e w2 ⟨rfl, k2⟩
    clear c0 c1
    have x3 := (unhide Y2).keep k2
    obtain ⟨d0, d1, d2, d3, -⟩ := x3.o
    have K2 := hide ((unhide K1).trans k2)
    have z2 := x3.set (.slice none 0 0) (.slice none 0 0)
    clear k2 x3
    obtain ⟨z0, z1, -, -, -⟩ := z2.o
    clear z2
    go_wp2
    have KF := hide (((unhide K2).set (unhide hRS) (i := 0) (.slice none 0 0)).set (unhide hRS) (i := 1) (.slice none 0 0))
    generalize ((w2.setCell ⟨R, 0, none⟩ (.slice none 0 0)).setCell ⟨R, 1, none⟩ (.slice none 0 0)) = w9 at *
    refine bodyPost_ret (v := .tuple #[.agg #[.slice none 0 0, .slice none 0 0], .int .i64 2]) (by simp [results, Try.results8, go_sem, z0, z1]) rfl ⟨rfl, unhide KF⟩

theorem sprD_may {f t : List Int} {d : List Nat} (h : intoB f t = true) : mayT t (sprD f t d) = true := by
  obtain ⟨_, m2, _, _⟩ := into_spec h
  unfold mayT
  rw [m2, sprD_length, srcL_length]
  have := prodL_pos (may_good m2).2
  simp only [Bool.true_and, beq_iff_eq]
  omega

set_option maxHeartbeats 1000000 in
theorem Kspread_yes (sv dv u : Value) (f t : List Int) (d : List Nat) (w : World) (h : Ints w sv f) (hd : Flts w dv d) (h' : Ints w u t) (hm : mayT f d = true) (hi : intoB f t = true) :
    Calls Try.prog 8 #[.agg #[sv, dv], u] w fun e w' => ∃ a1 n1 c1 G c, e = .returned (.tuple #[.agg #[.slice a1 n1 c1, .slice (some ⟨G, 0, none⟩) (sprD f t d).length c], .int .i64 0]) ∧ Fin w w' t a1 n1 c1 G c (sprD f t d) := by
  have H := hide h
  have HD := hide hd
  have H' := hide h'
  have WD := hide (sprD_wf (f := f) (t := t) hd.wf)
  have HM1 := hide hm
  have HM2 := hide hi
  clear h hd h' hm hi
  go_enter Try.func8, Try.ntmps8
  go_wp2_with fail
  obtain ⟨W, hW, x1, x2, k0⟩ := boxes_in w sv dv (.slice none 0 0) (.slice none 0 0)
  rw [← hW]
  clear hW
  have X1 := hide x1
  have X2 := hide x2
  have K0 := hide k0
  clear x1 x2 k0
  have hRS : Hid (w.heap.size ≤ w.heap.size + 1) := Nat.le_succ _
  generalize w.heap.size + 1 = R at X2 hRS ⊢
  generalize w.heap.size = B at X1 ⊢
  obtain ⟨c0, c1, -, -, -⟩ := (unhide X1).o
  try go_wp2_with fail
  refine (mayT_any _ _ f d W ((unhide H).keep (unhide K0)) ((unhide HD).keep (unhide K0))).mono ?_
  rw [unhide HM1]
  rintro e w1 ⟨rfl, k1⟩
  clear c0 c1
  have Y1 := hide ((unhide X1).keep k1)
  have Y2 := hide ((unhide X2).keep k1)
  have K1 := hide ((unhide K0).trans k1)
  obtain ⟨c0, c1, -, -, -⟩ := (unhide Y1).o
  clear k1 X1 X2 K0
  go_wp2_with fail
  refine (into_any _ _ f t w1 ((unhide H).keep (unhide K1)) ((unhide H').keep (unhide K1))).mono ?_
  rw [unhide HM2]
  rintro e w2 ⟨rfl, k2⟩
  clear c0 c1
  have X1 := hide ((unhide Y1).keep k2)
  have X2 := hide ((unhide Y2).keep k2)
  have K2 := hide ((unhide K1).trans k2)
  obtain ⟨c0, c1, -, -, -⟩ := (unhide X1).o
  clear k2 Y1 Y2 K1
  go_wp2_with fail
  refine (kspread_any _ _ _ f t d w2 ((unhide H).keep (unhide K2)) ((unhide HD).keep (unhide K2)) ((unhide H').keep (unhide K2)) (unhide HM2) (mayT_len (unhide HM1))).mono ?_
  rintro e w3 ⟨G, rfl, hG, bg, k3⟩
  clear c0 c1
  have BG := hide (bg.flts (n := (sprD f t d).length) (cap := (sprD f t d).length) rfl (unhide WD) (by have := mayT_len (sprD_may (d := d) (unhide HM2)); have := may_prod (mayT_may (sprD_may (d := d) (unhide HM2))); omega))
  have Y2 := hide ((unhide X2).keep k3)
  have K3 := hide ((unhide K2).trans k3)
  clear k3 X2 K2 bg hG X1
  go_wp2_with fail
  refine (of_yes _ _ t (sprD f t d) w3 ((unhide H').keep (unhide K3)) (unhide BG) (sprD_may (unhide HM2))).mono ?_
  rintro e w4 ⟨a1, n1, c1, G1, c, rfl, o1, hG1, og, k4⟩
  have z := (unhide Y2).keep k4
  obtain ⟨d0, d1, d2, d3, -⟩ := z.o
  have z2 := z.set (.slice a1 n1 c1) (.slice (some ⟨G1, 0, none⟩) (sprD f t d).length c)
  obtain ⟨z0, z1, -, -, -⟩ := z2.o
  have FN := hide (Fin.mk' o1 hG1 og (unhide K3) k4 (unhide Y2) (unhide hRS))
  clear z z2 og o1 k4 hG1 BG
  go_wp2
  generalize ((w4.setCell ⟨R, 0, none⟩ (.slice a1 n1 c1)).setCell ⟨R, 1, none⟩ (.slice (some ⟨G1, 0, none⟩) (sprD f t d).length c)) = w9 at *
  refine bodyPost_ret (v := .tuple #[.agg #[.slice a1 n1 c1, .slice (some ⟨G1, 0, none⟩) (sprD f t d).length c], .int .i64 0]) (by simp [results, Try.results8, go_sem, z0, z1]) rfl ⟨a1, n1, c1, G1, c, rfl, unhide FN⟩

end Go.Proofs.Ytcegkaemcjlfgaa
