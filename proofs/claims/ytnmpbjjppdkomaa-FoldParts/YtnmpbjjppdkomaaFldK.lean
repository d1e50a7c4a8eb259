
/- The document's sum of a tensor with itself. -/
import Derived.Test.YtnmpbjjppdkomaaLawFA
import Derived.Test.YtnmpbjjppdkomaaKPureC
import Derived.Test.YtnmpbjjppdkomaaPlce
import Derived.Test.YtnmpbjjppdkomaaRSpr
namespace Go.Proofs.Ytnmpbjjppdkomaa
open Go.RowKit

theorem getD_at8 {xs : List Int} {k : Nat} (h : k < xs.length) : xs.getD k 0 = xs[k] := by simp [h]
theorem clip_wf8 {f a : List Int} (h : f.length ≤ a.length) (hw : ∀ x ∈ a, I64 x) : ∀ x ∈ clip f a, I64 x := by
  intro x hx
  obtain ⟨k, hk, rfl⟩ := List.mem_iff_getElem.1 hx
  have hk' : k < f.length := by rw [clip_length h] at hk; exact hk
  have e := clip_getD h hk'
  rw [getD_at8 hk] at e
  rw [e]
  split
  · rw [getD_at8 (by omega)]
    exact hw _ (List.getElem_mem _)
  · unfold I64; omega

set_option maxHeartbeats 1000000 in
theorem under8_any (v u : Value) (f a : List Int) (w : World) (h : Ints w v f) (h' : Ints w u a) (hl : f.length ≤ a.length) (ha : a.length ≤ 4) :
    Calls Try.prog 35 #[v, u] w fun e w' => e = .returned (.int .i64 (ixN f (clip f a))) ∧ Kp w w' := by
  have H := hide h
  have HG := hide (fun k hk => h.getD (k := k) hk)
  have HG' := hide (fun k hk => h'.getD (k := k) hk)
  have WA := hide (clip_wf8 hl h'.wf)
  obtain ⟨p, cp, rfl, hv⟩ := h.val
  obtain ⟨p', cp', rfl, hv'⟩ := h'.val
  have HV := hide hv
  have HV' := hide hv'
  have hmk := mk_ints f.length (by omega)
  clear h h' hv hv'
  go_enter Try.func35, Try.ntmps35
  go_wp2
  clear hmk
  have B0 := hide (Blk.made w 3 f.length)
  have K0 := hide (Kp.alloc w (.cells (madeCells #[.int .i64 0] f.length) 3))
  have HB : Hid (∀ b, b < w.heap.size → ¬ b = w.heap.size) := by intro b hb; omega
  generalize w.alloc (.cells (madeCells #[.int .i64 0] f.length) 3) = w0 at *
  generalize hBq : w.heap.size = B at B0 HB ⊢
  have HBS : Hid (w.heap.size ≤ B) := by unfold Hid; omega
  have HB' : Hid (∀ b, b < w.heap.size → ¬ b = B) := by intro b hb; omega
  clear hBq HB
  rw [← clipS_zero hl] at B0
  go_loopw [6] (fun i wr => ∃ k : Nat, k ≤ f.length ∧ i = .int .i64 ((k : Int) + 1) ∧ Hid (Blk wr 3 B (clipS f a k)) ∧ Hid (Kx B w0 wr)) (fun i _ => f.length + 1 - (intOf i).toNat)
  case atStart => exact ⟨0, Nat.zero_le _, rfl, unhide B0, Kx.refl _ _⟩
  case round =>
    obtain ⟨k, hk, rfl, BL, KX⟩ := hrel
    by_cases hlt : k < f.length
    · obtain ⟨b, off, rfl, hb, hc⟩ := unhide HV (by omega)
      obtain ⟨b', off', rfl, hb', hc'⟩ := unhide HV' (by omega)
      have hck : wr.cell? ⟨b, off + (f.length - 1 - k), none⟩ = some (.int .i64 (f.getD (f.length - 1 - k) 0)) := ((unhide KX).cell (p := ⟨b, off + (f.length - 1 - k), none⟩) (Nat.lt_of_lt_of_le hb (unhide K0).size) (unhide HB' b hb)).trans ((Below.cell (unhide K0) (p := ⟨b, off + (f.length - 1 - k), none⟩) hb).trans (hc (f.length - 1 - k) (by omega)))
      have hck' : wr.cell? ⟨b', off' + (a.length - 1 - k), none⟩ = some (.int .i64 (a.getD (a.length - 1 - k) 0)) := ((unhide KX).cell (p := ⟨b', off' + (a.length - 1 - k), none⟩) (Nat.lt_of_lt_of_le hb' (unhide K0).size) (unhide HB' b' hb')).trans ((Below.cell (unhide K0) (p := ⟨b', off' + (a.length - 1 - k), none⟩) hb').trans (hc' (a.length - 1 - k) (by omega)))
      have hx2 := unhide HG (f.length - 1 - k) (by omega)
      have hy2 := unhide HG' (a.length - 1 - k) (by omega)
      have CE := hide (clip_getD hl (k := f.length - 1 - k) (by omega))
      rw [show a.length - f.length + (f.length - 1 - k) = a.length - 1 - k by omega] at CE
      have hcell := (unhide BL).cell (i := f.length - 1 - k) (by rw [clipS_length hl hk]; omega)
      have hfro := (unhide BL).frozen (f.length - 1 - k)
      have ix1 : ((f.length : Int) - ((k : Int) + 1)).toNat = f.length - 1 - k := by omega
      have ix2 : ((a.length : Int) - ((k : Int) + 1)).toNat = a.length - 1 - k := by omega
      have ix3 : 0 ≤ (f.length : Int) - ((k : Int) + 1) := by omega
      have ix4 : 0 ≤ (a.length : Int) - ((k : Int) + 1) := by omega
      have ix5 : (f.length : Int) - ((k : Int) + 1) < (f.length : Int) := by omega
      have ix6 : (a.length : Int) - ((k : Int) + 1) < (a.length : Int) := by omega
      have ix7 : (k : Int) + 1 ≤ (f.length : Int) := by omega
      have ix8 : decide ((k : Int) + 1 ≤ (f.length : Int)) = true := decide_eq_true ix7
      clear hc hc'
      by_cases h1 : 1 < f.getD (f.length - 1 - k) 0
      · rw [if_pos h1] at CE
        have BW := hide ((unhide BL).set (f.length - 1 - k) (a.getD (a.length - 1 - k) 0))
        rw [← unhide CE, clipS_set hl hlt] at BW
        rw [unhide CE] at BW
        have KW := hide ((unhide KX).set (f.length - 1 - k) (.int .i64 (a.getD (a.length - 1 - k) 0)))
        clear BL CE
        generalize (clipS f a k).getD (f.length - 1 - k) 0 = old at *
        generalize f.getD (f.length - 1 - k) 0 = x at *
        generalize a.getD (a.length - 1 - k) 0 = y at *
        go_wp2
        go_roundw
        case rel => exact ⟨k + 1, by omega, by go_num, unhide BW, unhide KW⟩
        case measure => simp [intOf]; omega
      · rw [if_neg h1] at CE
        have BW := hide (unhide BL)
        rw [← clipS_same hl hlt (unhide CE)] at BW
        clear BL CE hcell hfro
        generalize f.getD (f.length - 1 - k) 0 = x at *
        go_wp2
        go_roundw
        case rel => exact ⟨k + 1, by omega, by go_num, unhide BW, unhide KX⟩
        case measure => simp [intOf]; omega
    · obtain rfl : k = f.length := by omega
      have ix7 : ¬ (f.length : Int) + 1 ≤ (f.length : Int) := by omega
      rw [clipS_all] at BL
      have R := hide ((unhide BL).ints (n := f.length) (cap := f.length) (clip_length hl) (unhide WA) (by omega))
      have K1 := hide (Kx.after (unhide K0) (unhide KX) (unhide HBS))
      have S1 := hide ((unhide H).keep (unhide K1))
      go_wp2_with fail
      refine (rindex_any _ _ f (clip f a) wr (unhide S1) (unhide R)).mono ?_
      rintro e w2 ⟨rfl, k2⟩
      have K2 := hide ((unhide K1).trans k2)
      clear k2
      go_wp2
      go_ret
      exact ⟨rfl, unhide K2⟩

/-- a place of a shape falls on itself -/
theorem clip_self {s a : List Int} (hl : a.length = s.length) (hi : Inside s a) : clip s a = a := by
  have hc := clip_length (f := s) (a := a) (by omega)
  apply List.ext_getElem (by omega)
  intro k h1 h2
  have e := clip_getD (f := s) (a := a) (by omega) (k := k) (by omega)
  rw [getD_at8 h1, show a.length - s.length + k = k by omega] at e
  rw [e, ← getD_at8 h2]
  have hk := hi k (by omega)
  split
  · rfl
  · omega
theorem ix_self {s : List Int} (h : mayB s = true) {j : Nat} (hj : (j : Int) < prodL s) : ixN s (clip s (plN s (j : Int))) = (j : Int) := by
  have e : plN s (j : Int) = plc s (j : Int) := if_pos ⟨h, by omega, hj⟩
  obtain ⟨h1, h2⟩ := idx_plc (may_good h).2 (show 0 ≤ (j : Int) by omega) hj
  rw [e, clip_self (plc_length _ _) h2]
  exact (if_pos ⟨h, plc_length _ _, (insB_iff _ _).2 h2⟩).trans h1
theorem pl_length8 {s : List Int} (h : mayB s = true) {j : Nat} (hj : (j : Int) < prodL s) : (plN s (j : Int)).length = s.length := by
  have e : plN s (j : Int) = plc s (j : Int) := if_pos ⟨h, by omega, hj⟩
  rw [e, plc_length]
theorem spr_self {s : List Int} (h : mayB s = true) : sprE s s = 0 ∧ sprL s s = s := by
  have ha : agAll s s = true := decide_eq_true (fun k _ => by unfold agB; simp)
  have hj : joinL s s = s := by
    unfold joinL
    rw [Nat.max_self, joinR_self _ (Nat.le_refl _), Nat.sub_self, List.drop_zero]
  constructor
  · exact (if_pos ⟨h, h, ha⟩).trans (by rw [hj]; exact szE_yes h)
  · exact (if_pos ⟨h, h, ha, by rw [hj]; exact h⟩).trans hj

set_option maxHeartbeats 400000 in
theorem radd_any (x y : Nat) (w : World) :
    Calls Try.prog 34 #[.int .i64 4, .float .f64 x, .float .f64 y] w fun e w' => ∃ r, e = .returned (.float .f64 r) ∧ (cn r = adC x y ∧ W64 r) ∧ Kp w w' := by
  have hop := fun t w x y => run_add_any (P := Try.prog) w t x y
  go_enter Try.func34, Try.ntmps34
  go_wp2
  go_ret
  exact ⟨_, rfl, flR_add _ _ _, flW_kp _ _ _ _⟩

set_option maxHeartbeats 4000000 in
theorem rtwo_self (sv dv : Value) (s : List Int) (d : List Nat) (w : World) (hs : Ints w sv s) (hd : Flts w dv d) (hm : mayT s d = true) :
    Calls Try.prog 18 #[.int .i64 4, .agg #[sv, dv], .agg #[sv, dv]] w fun e w' => ∃ ds, HandR e w' s ds 0 ∧ ds.map cn = (List.range d.length).map (fun j => adC (d.getD j 0) (d.getD j 0)) ∧ Kp w w' := by
  have HS := hide hs
  have HD := hide hd
  have HM := hide hm
  have HMB := hide (mayT_may hm)
  have HML := hide (mayT_len hm)
  have hpos := mayT_pos hm
  have hn1 : d.length ≤ 4096 := by have := mayT_len hm; have := may_prod (mayT_may hm); omega
  have hs4 : s.length ≤ 4 := (may_good (mayT_may hm)).1
  have SP := hide (spr_self (mayT_may hm))
  obtain ⟨p, c, rfl, -⟩ := hs.val
  obtain ⟨pd, c', rfl, hv⟩ := hd.val
  obtain ⟨b, off, rfl, hb, hc⟩ := hv hpos
  have HC := hide hc
  have SW := hide hs.wf
  clear hs hd hm hv hc
  generalize hn : d.length = n at *
  have HN := hide hn
  clear hn
  generalize hls : s.length = ls at *
  have HLS := hide hls
  clear hls
  go_enter Try.func18, Try.ntmps18
  go_upto_region 1 with fail
  obtain ⟨W, hW, x1, x2, x3, k0⟩ := boxes3_in w (.slice p ls c) (.slice (some ⟨b, off, none⟩) n c') (.slice p ls c) (.slice (some ⟨b, off, none⟩) n c') (.slice none 0 0) (.slice none 0 0)
  rw [← hW]
  clear hW
  have hRS : w.heap.size ≤ w.heap.size + 2 := by omega
  have HX1 := hide x1
  have HX2 := hide x2
  have HX3 := hide x3
  have K0 := hide k0
  obtain ⟨c0, c1, -, -, -⟩ := x1.o
  obtain ⟨b0, b1, -, -, -⟩ := x2.o
  clear x1 x2 x3 k0
  generalize w.heap.size + 2 = R at HX3 hRS ⊢
  generalize w.heap.size + 1 = X2 at HX2 b0 b1 ⊢
  generalize hX1 : w.heap.size = X1 at HX1 c0 c1 ⊢
  clear hX1
  go_wp2_with fail
  refine (rmayT_any _ _ s d W ((unhide HS).keep (unhide K0)) ((unhide HD).keep (unhide K0))).mono ?_
  rw [unhide HM]
  rintro e w1 ⟨rfl, k1⟩
  have K1 := hide ((unhide K0).trans k1)
  have Y1 := hide ((unhide HX1).keep k1)
  have Y2 := hide ((unhide HX2).keep k1)
  have Y3 := hide ((unhide HX3).keep k1)
  clear c0 c1 b0 b1 k1 HX1 HX2 HX3 K0
  obtain ⟨c0, c1, -, -, -⟩ := (unhide Y1).o
  obtain ⟨b0, b1, -, -, -⟩ := (unhide Y2).o
  go_wp2_with fail
  refine (rmayT_any _ _ s d w1 ((unhide HS).keep (unhide K1)) ((unhide HD).keep (unhide K1))).mono ?_
  rw [unhide HM]
  rintro e w2 ⟨rfl, k2⟩
  have K2 := hide ((unhide K1).trans k2)
  have Z1 := hide ((unhide Y1).keep k2)
  have Z2 := hide ((unhide Y2).keep k2)
  have Z3 := hide ((unhide Y3).keep k2)
  clear c0 c1 b0 b1 k2 Y1 Y2 Y3 K1
  obtain ⟨c0, c1, -, -, -⟩ := (unhide Z1).o
  obtain ⟨b0, b1, -, -, -⟩ := (unhide Z2).o
  go_wp2_with fail
  refine (rspread_any _ _ s s w2 ((unhide HS).keep (unhide K2)) ((unhide HS).keep (unhide K2))).mono ?_
  rw [(unhide SP).1, (unhide SP).2]
  rintro e w3 ⟨r, rfl, hr, -, k3⟩
  obtain ⟨pr, cr, rfl, -⟩ := hr.val
  rw [unhide HLS] at hr ⊢
  have HR := hide hr
  have K3 := hide ((unhide K2).trans k3)
  have U1 := hide ((unhide Z1).keep k3)
  have U2 := hide ((unhide Z2).keep k3)
  have U3 := hide ((unhide Z3).keep k3)
  clear c0 c1 b0 b1 k3 Z1 Z2 Z3 K2 hr
  go_wp2_with fail
  refine (rnew_yes _ s 0 w3 (unhide HR) (unhide HMB)).mono ?_
  rintro e w4 ⟨a1, m1, e1, G, n', rfl, hn', o1, hG, og, k4⟩
  obtain rfl : n' = n := by have := unhide HML; omega
  have L := hide (laid_new8 o1 (Nat.le_refl _) og hG k4)
  have kk := k4.trans (Kp.alloc w4 (.cells #[.slice a1 m1 e1, .slice (some ⟨G, 0, none⟩) n' n'] 28))
  have V1 := hide ((unhide U1).keep kk)
  have V2 := hide ((unhide U2).keep kk)
  have V3 := hide ((unhide U3).keep kk)
  have K4 := hide ((unhide K3).trans kk)
  have HR4 := hide ((unhide HR).keep kk)
  clear hn' o1 hG og k4 kk U1 U2 U3
  go_upto_region 9 with fail
  generalize (w4.alloc (.cells #[.slice a1 m1 e1, .slice (some ⟨G, 0, none⟩) n' n'] 28)) = w5 at *
  generalize w4.heap.size = TB at *
  have hTG : ¬ TB = G := (unhide L).bx.neG (unhide L).og (by decide)
  have hRG : ¬ R = G := (unhide V3).neG (unhide L).og (by decide)
  have h1G : ¬ X1 = G := (unhide V1).neG (unhide L).og (by decide)
  have h2G : ¬ X2 = G := (unhide V2).neG (unhide L).og (by decide)
  have GW : Hid (w.heap.size ≤ G) := Nat.le_trans (unhide K3).size (unhide L).gG
  have hbG : ¬ b = G := by have := unhide GW; omega
  have hst : ∀ (a : Addr) (x : Nat) (w : World), (store a (.float .f64 x)).run Try.prog w = stored Try.prog w a (.float .f64 x) .plain := fun a x w => run_store _ w a _ _ rfl
  obtain ⟨t0, t1, -, -, -⟩ := (unhide L).bx.o
  go_wp2
  clear t0 t1
  go_loopw [12] (fun i wr => ∃ (j : Nat) (ms : List Nat), j ≤ n' ∧ i = .int .i64 j ∧ Hid (ms.length = j) ∧ Hid (OwnG wr 44 G n' n' (ms ++ List.replicate (n' - j) 0)) ∧ Hid (∀ x ∈ ms, W64 x) ∧ Hid (∀ q, q < j → cn (ms.getD q 0) = adC (d.getD q 0) (d.getD q 0)) ∧ Hid (Kx G w5 wr)) (fun i _ => n' - (intOf i).toNat)
  case atStart => exact ⟨0, [], Nat.zero_le _, rfl, rfl, (unhide L).og, by simp [Hid], by unfold Hid; omega, Kx.refl _ _⟩
  case round =>
    obtain ⟨j, ms, hj, rfl, HL, OG, HW, HF, KX⟩ := hrel
    generalize wr = w8 at *
    have tb := (unhide L).bx.keepx (unhide KX) hTG
    by_cases hlj : j < n'
    · have hljI : (j : Int) < (n' : Int) := by omega
      have hjp : (j : Int) < prodL s := by have := unhide HML; omega
      obtain ⟨t0, t1, -, -, -⟩ := tb.o
      have K08 : Hid (Kp w w8) := Kx.after (unhide K4) (unhide KX) (unhide GW)
      have HR8 := hide ((unhide HR).keep (Kx.after (unhide L).kp (unhide KX) (unhide L).gG))
      have HI8 := hide ((unhide HS).keep (unhide K08))
      clear tb
      go_wp2_with fail
      refine (rplace_any _ s j w8 (unhide HR8) (by unfold I64; omega)).mono ?_
      rintro e w9 ⟨u, rfl, hu, -, k9⟩
      have PL := hide (pl_length8 (unhide HMB) hjp)
      have IX := hide (ix_self (unhide HMB) hjp)
      obtain ⟨pu, cu, rfl, -⟩ := hu.val
      rw [unhide PL, unhide HLS] at hu ⊢
      have HU := hide hu
      have T9 := hide (((unhide L).bx.keepx (unhide KX) hTG).keep k9)
      have A9 := hide (((unhide V1).keepx (unhide KX) h1G).keep k9)
      have B9 := hide (((unhide V2).keepx (unhide KX) h2G).keep k9)
      have O9 := hide ((unhide OG).keep k9)
      have K09 := hide ((unhide K08).trans k9)
      have KX9 := hide ((unhide KX).kp k9)
      have HI9 := hide ((unhide HI8).keep k9)
      have hdc := (Below.cell (unhide K09) (p := ⟨b, off + j, none⟩) hb).trans (unhide HC j hlj)
      have hb9 : b < w9.heap.size := Nat.lt_of_lt_of_le hb (unhide K09).size
      have hgc := (unhide O9).cell (i := j) hlj
      have hgf := (unhide O9).frozen j
      clear hu k9 t0 t1
      have HD9 : Hid (∀ r, (ms ++ List.replicate (n' - j) 0).set j r = (ms ++ [r]) ++ List.replicate (n' - (j + 1)) 0) := by
        intro r
        have e1 := unhide HL
        rw [List.set_append_right _ _ (by omega), e1, Nat.sub_self, show n' - j = (n' - (j + 1)) + 1 by omega, List.replicate_succ, List.set_cons_zero, List.append_assoc]
        rfl
      have HF1 : Hid (∀ r, cn r = adC (d.getD j 0) (d.getD j 0) → ∀ q, q < j + 1 → cn ((ms ++ [r]).getD q 0) = adC (d.getD q 0) (d.getD q 0)) := by
        intro r hr q hq
        have e1 := unhide HL
        by_cases e : q = j
        · subst e
          have : (ms ++ [r]).getD q 0 = r := by rw [← e1]; simp
          rw [this]
          exact hr
        · rw [List.getD_eq_getElem?_getD, List.getElem?_append_left (by omega), ← List.getD_eq_getElem?_getD]
          exact unhide HF q (by omega)
      generalize (ms ++ List.replicate (n' - j) 0).getD j 0 = old at *
      generalize d.getD j 0 = x at *
      have KEEP : Hid (∀ w', Kp w9 w' → w'.cell? ⟨TB, 1, none⟩ = some (.slice (some ⟨G, 0, none⟩) n' n') ∧ w'.cell? ⟨X1, 0, none⟩ = some (.slice p ls c) ∧ w'.cell? ⟨X1, 1, none⟩ = some (.slice (some ⟨b, off, none⟩) n' c') ∧ w'.cell? ⟨X2, 0, none⟩ = some (.slice p ls c) ∧ w'.cell? ⟨X2, 1, none⟩ = some (.slice (some ⟨b, off, none⟩) n' c') ∧ w'.cell? ⟨b, off + j, none⟩ = some (.float .f64 x) ∧ w'.cell? ⟨G, j, none⟩ = some (.float .f64 old) ∧ w'.frozen? ⟨G, j, none⟩ = false) := fun w' k' =>
        ⟨((unhide T9).keep k').c1, ((unhide A9).keep k').c0, ((unhide A9).keep k').c1, ((unhide B9).keep k').c0, ((unhide B9).keep k').c1, (Below.cell k' (p := ⟨b, off + j, none⟩) hb9).trans hdc, (Below.cell k' (p := ⟨G, j, none⟩) (unhide O9).lt).trans hgc, by rw [← hgf]; unfold World.frozen?; rw [k'.block G (unhide O9).lt]⟩
      have CU := hide (fun w0 (kp : Kp w9 w0) => (under8_any (.slice p ls c) (.slice pu ls cu) s (plN s j) w0 ((unhide HI9).keep kp) ((unhide HU).keep kp) (by rw [unhide PL]; exact Nat.le_refl _) (by rw [unhide PL, unhide HLS]; exact hs4)).mono (R' := fun e w' => e = .returned (.int .i64 (j : Int)) ∧ Hid (Kp w9 w') ∧ w'.cell? ⟨TB, 1, none⟩ = some (.slice (some ⟨G, 0, none⟩) n' n') ∧ w'.cell? ⟨X1, 0, none⟩ = some (.slice p ls c) ∧ w'.cell? ⟨X1, 1, none⟩ = some (.slice (some ⟨b, off, none⟩) n' c') ∧ w'.cell? ⟨X2, 0, none⟩ = some (.slice p ls c) ∧ w'.cell? ⟨X2, 1, none⟩ = some (.slice (some ⟨b, off, none⟩) n' c') ∧ w'.cell? ⟨b, off + j, none⟩ = some (.float .f64 x) ∧ w'.cell? ⟨G, j, none⟩ = some (.float .f64 old) ∧ w'.frozen? ⟨G, j, none⟩ = false) (by
        rintro e w' ⟨rfl, k'⟩
        exact ⟨by rw [unhide IX], kp.trans k', unhide KEEP _ (kp.trans k')⟩))
      have CA := hide (fun w0 (kp : Kp w9 w0) => (radd_any x x w0).mono (R' := fun e w' => ∃ r, e = .returned (.float .f64 r) ∧ Hid (cn r = adC x x ∧ W64 r) ∧ Hid (Kp w9 w') ∧ w'.cell? ⟨TB, 1, none⟩ = some (.slice (some ⟨G, 0, none⟩) n' n') ∧ w'.cell? ⟨X1, 0, none⟩ = some (.slice p ls c) ∧ w'.cell? ⟨X1, 1, none⟩ = some (.slice (some ⟨b, off, none⟩) n' c') ∧ w'.cell? ⟨X2, 0, none⟩ = some (.slice p ls c) ∧ w'.cell? ⟨X2, 1, none⟩ = some (.slice (some ⟨b, off, none⟩) n' c') ∧ w'.cell? ⟨b, off + j, none⟩ = some (.float .f64 x) ∧ w'.cell? ⟨G, j, none⟩ = some (.float .f64 old) ∧ w'.frozen? ⟨G, j, none⟩ = false) (by
        rintro e w' ⟨r, rfl, hr, k'⟩
        exact ⟨r, rfl, hr, kp.trans k', unhide KEEP _ (kp.trans k')⟩))
      obtain ⟨t0, t1, -, -, -⟩ := (unhide T9).o
      obtain ⟨c0, c1, -, -, -⟩ := (unhide A9).o
      obtain ⟨b0, b1, -, -, -⟩ := (unhide B9).o
      have hs1 : ∀ (w : World) (v : Value) (o : Nat), (w.setCell ⟨G, j, none⟩ v).cell? ⟨TB, o, none⟩ = w.cell? ⟨TB, o, none⟩ := fun w v o => cell_other hTG w v
      have hs2 : ∀ (w : World) (v : Value) (o : Nat), (w.setCell ⟨G, j, none⟩ v).cell? ⟨X1, o, none⟩ = w.cell? ⟨X1, o, none⟩ := fun w v o => cell_other h1G w v
      have hs3 : ∀ (w : World) (v : Value) (o : Nat), (w.setCell ⟨G, j, none⟩ v).cell? ⟨X2, o, none⟩ = w.cell? ⟨X2, o, none⟩ := fun w v o => cell_other h2G w v
      have hs5 : ∀ (w : World) (v : Value) (o : Nat), (w.setCell ⟨G, j, none⟩ v).cell? ⟨b, o, none⟩ = w.cell? ⟨b, o, none⟩ := fun w v o => cell_other hbG w v
      go_wp2_with fail
      go_region_held3 (fun w' => w'.cell? ⟨TB, 1, none⟩ = some (.slice (some ⟨G, 0, none⟩) n' n') ∧ w'.cell? ⟨X1, 0, none⟩ = some (.slice p ls c) ∧ w'.cell? ⟨X1, 1, none⟩ = some (.slice (some ⟨b, off, none⟩) n' c') ∧ w'.cell? ⟨X2, 0, none⟩ = some (.slice p ls c) ∧ w'.cell? ⟨X2, 1, none⟩ = some (.slice (some ⟨b, off, none⟩) n' c') ∧ w'.cell? ⟨b, off + j, none⟩ = some (.float .f64 x)) (go_keep)
        (first
          | (go_at_call 35; refine ((unhide CU) _ ?_).mono ?_; (first | (exact unhide (by assumption)) | exact Kp.drew w9); rintro e w10 ⟨rfl, K10, e1, e2, e3, e4, e5, e6, e7, e8⟩)
          | (go_at_call 34; refine ((unhide CA) _ ?_).mono ?_; (first | (exact unhide (by assumption)) | exact Kp.drew w9); rintro e w11 ⟨r, rfl, HR1, K11, e1, e2, e3, e4, e5, e6, e7, e8⟩))
      all_goals (
        have OG' := hide (((unhide O9).keep (unhide K11)).set j r)
        rw [unhide HD9 r] at OG'
        have KX' := hide (((unhide KX9).kp (unhide K11)).set j (.float .f64 r))
        have HL2 : Hid ((ms ++ [r]).length = j + 1) := by unfold Hid; simp [unhide HL]
        have HW2 : Hid (∀ x ∈ ms ++ [r], W64 x) := by
          intro y hy
          rcases List.mem_append.1 hy with h | h
          · exact unhide HW y h
          · rw [List.mem_singleton.1 h]
            exact (unhide HR1).2
        have HF2 := hide (unhide HF1 r (unhide HR1).1)
        clear e1 e2 e3 e4 e5 e6 e7 e8 hgc hgf t0 t1 c0 c1 b0 b1 hs1 hs2 hs3 hs5 hdc
        generalize w11.setCell ⟨G, j, none⟩ (.float .f64 r) = w12 at *)
      all_goals (
        go_wp2
        go_roundw
        case rel => exact ⟨j + 1, ms ++ [r], by omega, by go_num, unhide HL2, unhide OG', unhide HW2, unhide HF2, unhide KX'⟩
        case measure => simp [intOf]; omega)
    · obtain rfl : j = n' := by omega
      rw [Nat.sub_self, List.replicate_zero, List.append_nil] at OG
      have y2 := (unhide V3).keepx (unhide KX) hRG
      obtain ⟨d0, d1, d2, d3, -⟩ := y2.o
      have z := y2.set (.slice a1 m1 e1) (.slice (some ⟨G, 0, none⟩) j j)
      obtain ⟨z0, z1, -, -, -⟩ := z.o
      obtain ⟨t0, t1, -, -, -⟩ := tb.o
      have O3 := ((((unhide L).ow.keepx (unhide L).og (by decide) (unhide KX)).setBx y2 (by decide) (.slice a1 m1 e1) (.slice (some ⟨G, 0, none⟩) j j)).weak (unhide K3).size)
      have G3 := ((unhide OG).setBx y2 (by decide) (.slice a1 m1 e1) (.slice (some ⟨G, 0, none⟩) j j))
      have K33 := (((Kx.after (unhide K4) (unhide KX) (unhide GW)).set hRS (i := 0) (.slice a1 m1 e1)).set hRS (i := 1) (.slice (some ⟨G, 0, none⟩) j j))
      have FI : Hid (Fin w _ s a1 m1 e1 G j ms) := ⟨O3, unhide GW, by rw [unhide HL]; exact G3, K33⟩
      have MT : Hid (mayT s ms = true) := by
        have := unhide HM
        unfold mayT at this ⊢
        rw [unhide HN] at this
        unfold Hid
        rw [unhide HL]
        exact this
      have DC := hide (cn_list (n := j) (unhide HL) (fun q hq => unhide HF q (by rw [← unhide HL]; exact hq)))
      clear z y2 O3 G3 K33 tb
      go_wp2
      generalize ((w8.setCell ⟨R, 0, none⟩ (.slice a1 m1 e1)).setCell ⟨R, 1, none⟩ (.slice (some ⟨G, 0, none⟩) j j)) = w9 at *
      refine bodyPost_ret (v := .tuple #[.agg #[.slice a1 m1 e1, .slice (some ⟨G, 0, none⟩) j j], .int .i64 0]) (by simp [results, Try.results18, go_sem, z0, z1]) rfl ⟨ms, ?_, unhide DC, (unhide FI).kp⟩
      have := HandR.fin (unhide FI) (unhide MT) (unhide SW) (unhide HW)
      rw [unhide HL] at this
      exact this

end Go.Proofs.Ytnmpbjjppdkomaa
