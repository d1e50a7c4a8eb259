
/- The law FoldParts, walked. -/
import Derived.Test.YtnmpbjjppdkomaaFldK
import Derived.Test.YtnmpbjjppdkomaaFldL
namespace Go.Proofs.Ytnmpbjjppdkomaa
open Go.RowKit

theorem getT_l {ts us : List Tn} {k : Nat} (h : k < ts.length) : (ts ++ us).getD k tnil = ts.getD k tnil := by
  rw [List.getD_eq_getElem?_getD, List.getElem?_append_left h, ← List.getD_eq_getElem?_getD]
theorem getT_r {ts us : List Tn} {k : Nat} (h : ts.length ≤ k) : (ts ++ us).getD k tnil = us.getD (k - ts.length) tnil := by
  rw [List.getD_eq_getElem?_getD, List.getElem?_append_right h, ← List.getD_eq_getElem?_getD]
theorem rangeD {n j : Nat} {f : Nat → Nat} (h : j < n) : ((List.range n).map f).getD j 0 = f j := by simp [h]
theorem col_twice (ts : List Tn) (j : Nat) : colL (ts ++ ts) j = colL ts j ++ colL ts j := by unfold colL; rw [List.map_append]
/-- a tree of twice as many -/
theorem tr_twice {ts : List Tn} (h : trE ts = 0) : trE (ts ++ ts) = 0 ∧ trS (ts ++ ts) = trS ts ∧ mayB (trS ts) = true ∧ ((trD ts).length : Int) = prodL (trS ts) ∧ trD (ts ++ ts) = (List.range (trD ts).length).map (fun j => adC ((trD ts).getD j 0) ((trD ts).getD j 0)) := by
  have h0 : 0 < ts.length := by
    apply Nat.pos_of_ne_zero
    intro e
    rw [(tr_none e).2.2] at h
    omega
  have hall : ts.all (ofB (ts.getD 0 tnil).s) = true := by
    by_cases e : ts.all (ofB (ts.getD 0 tnil).s) = true
    · exact e
    · have : trE ts = 2 := (if_neg (by omega)).trans (if_neg e)
      omega
  have hix : ∀ k, k < ts.length → ofB (ts.getD 0 tnil).s (ts.getD k tnil) = true := by
    intro k hk
    have e : ts.getD k tnil = ts[k] := by simp [hk]
    rw [e]
    exact List.all_eq_true.1 hall _ (List.getElem_mem hk)
  obtain ⟨s1, s2, _⟩ := tr_yes h0 hix
  have g0 : (ts ++ ts).getD 0 tnil = ts.getD 0 tnil := getT_l h0
  have hix2 : ∀ k, k < (ts ++ ts).length → ofB ((ts ++ ts).getD 0 tnil).s ((ts ++ ts).getD k tnil) = true := by
    intro k hk
    rw [List.length_append] at hk
    rw [g0]
    by_cases hlt : k < ts.length
    · rw [getT_l hlt]
      exact hix k hlt
    · rw [getT_r (by omega)]
      exact hix _ (by omega)
  obtain ⟨t1, t2, t3⟩ := tr_yes (ts := ts ++ ts) (by rw [List.length_append]; omega) hix2
  have hm := ofB_may (hix 0 h0)
  have hl : (trD ts).length = (ts.getD 0 tnil).d.length := by rw [s2]; simp
  refine ⟨t3, by rw [t1, s1, g0], by rw [s1]; exact mayT_may hm.1, by rw [hl, s1]; exact mayT_len hm.1, ?_⟩
  rw [t2, g0, hl]
  apply List.map_congr_left
  intro j hj
  have hjl : j < (ts.getD 0 tnil).d.length := List.mem_range.1 hj
  have e : (trD ts).getD j 0 = foldC (colL ts j) := by rw [s2]; exact rangeD hjl
  rw [e, col_twice, foldC_twice (by rw [colL_length]; omega)]

/-- both sides of FoldParts -/
theorem parts_eq {ts : List Tn} {ds ds2 ds3 : List Nat} (h : trE ts = 0) (h1 : ds.map cn = trD ts) (h2 : ds2.map cn = trD (ts ++ ts)) (h3 : ds3.map cn = (List.range ds.length).map (fun j => adC (ds.getD j 0) (ds.getD j 0))) : ds2.map cn = ds3.map cn := by
  have hl : ds.length = (trD ts).length := by have := congrArg List.length h1; simpa using this
  rw [h2, h3, (tr_twice h).2.2.2.2, hl]
  apply List.map_congr_left
  intro j hj
  have hjl : j < (trD ts).length := List.mem_range.1 hj
  have e : (trD ts).getD j 0 = cn (ds.getD j 0) := by rw [← h1]; simp [show j < ds.length by omega]
  rw [e, adC_cn]

set_option maxHeartbeats 8000000 in
theorem parts_walk (a : Option Addr) (len cap : Nat) (w : World) (h : InTens w a len cap) :
    Calls Try.prog 7 #[.slice a len cap] w fun e w' => e = .returned (.bool true) ∧ Kp w w' := by
  have H := hide h
  have hmax := h.max
  clear h
  go_enter Try.func7, Try.ntmps7
  go_wp2_with fail
  refine (awake8_any w).mono ?_
  rintro e w1 ⟨rfl, k1⟩
  have K1 := hide k1
  have H1 := hide ((unhide H).keep k1)
  clear k1
  go_wp2_with fail
  refine (few_any a len cap w1 (unhide H1)).mono ?_
  rintro e w2 ⟨r, rfl, hr, k2⟩
  have HR := hide hr
  have K2 := hide ((unhide K1).trans k2)
  have KK := hide k2
  clear hr k2
  cases r
  · clear HR
    go_wp2
    go_ret
    exact ⟨rfl, unhide K2⟩
  · obtain ⟨hl, ts, hts, ht⟩ := unhide HR rfl
    have HT := hide (ht.keep (unhide KK))
    have HTS := hide hts
    clear HR ht hts
    by_cases g0 : len = 0
    · have g0' : ((len : Int) == 0) = true := by rw [g0]; rfl
      go_wp2
      go_ret
      exact ⟨rfl, unhide K2⟩
    have g0' : ((len : Int) == 0) = false := beq_eq_false_iff_ne.2 (by omega)
    by_cases g1 : 20 < len
    · have g1' : decide ((20 : Int) < (len : Int)) = true := decide_eq_true (by omega)
      go_wp2
      go_ret
      exact ⟨rfl, unhide K2⟩
    have g1' : decide ((20 : Int) < (len : Int)) = false := decide_eq_false (by omega)
    go_wp2_with fail
    refine (tree_all _ ts w2 (unhide HT)).mono ?_
    generalize hS : trS ts = S at *
    generalize hE : trE ts = E at *
    generalize hD : trD ts = D at *
    have HQ := hide (And.intro hS (And.intro hE hD))
    clear hS hE hD
    rintro e w3 ⟨ds, ⟨a1, c1, a2, c2, rfl, i1, f1, -, -⟩, hc, k3⟩
    have ka3 := Kp.alloc w3 (.cells #[.slice a1 S.length c1, .slice a2 ds.length c2] 28)
    have I3 := hide (i1.keep ka3)
    have F3 := hide (f1.keep ka3)
    have HT3 := hide ((unhide HT).keep (k3.trans ka3))
    have K3 := hide ((unhide K2).trans (k3.trans ka3))
    have X3 := hide (Bx.made w3 (.slice a1 S.length c1) (.slice a2 ds.length c2))
    have HC := hide hc
    clear hc i1 f1 k3 ka3
    go_upto_region 6 with fail
    generalize w3.alloc (.cells #[.slice a1 S.length c1, .slice a2 ds.length c2] 28) = w4 at *
    generalize w3.heap.size = X at *
    by_cases hE0 : E = 0
    · subst hE0
      have TW := hide (tr_twice (ts := ts) (unhide HQ).2.1)
      obtain ⟨b, off, rfl, hb, -⟩ := (unhide HT3).one (Kp.refl w4) (i := 0) (by rw [unhide HTS]; omega)
      obtain ⟨cs, hrd, hcl⟩ := (unhide HT3).cells
      have HRD := hide hrd
      have HCL := hide hcl
      have CL : Hid (cs.length = len * 2) := by unfold Hid; rw [hrd.len, unhide HTS]
      clear hrd hcl
      have KA := hide (Kp.alloc w4 (.cells #[] 28))
      have OW := hide (OwnT.empty w4)
      have DA : Hid (∀ (j : Nat) (u : Value), cs[j]? = some u → (w4.alloc (.cells #[] 28)).cell? ((⟨b, off, none⟩ : Addr).add j) = some u) := fun j u hj => (unhide KA).cellS (unhide HCL j u hj)
      have BS : Hid (w4.heap.size ≤ (w4.alloc (.cells #[] 28)).heap.size) := (unhide KA).size
      go_wp2_with (first
        | (at_builtin
           refine wpList_append_tens _ rfl (.tmp 32) (.tmp 33) rfl w4.heap.size _ 0 [] ⟨b, off, none⟩ len cap cs rfl rfl (unhide OW) (unhide CL) (unhide DA) (unhide HRD).one (by omega) (unhide BS) ?_
           intro v2 w5 o2 g2
           have q2 : Kp w4 w5 := Kp.of_grown (unhide KA) g2 (by intro k hk; cases hk; exact Nat.le_refl _)
           rw [List.nil_append] at o2
           clear KA OW DA BS g2
           have OW := hide o2
           have DA : Hid (∀ (j : Nat) (u : Value), cs[j]? = some u → w5.cell? ((⟨b, off, none⟩ : Addr).add j) = some u) := fun j u hj => q2.cellS (unhide HCL j u hj)
           have QA := hide q2
           have BS : Hid (w4.heap.size ≤ w5.heap.size) := q2.size
           clear o2 q2)
        | (at_builtin
           go_must (refine wpList_append_tens _ rfl (.tmp 34) (.tmp 35) rfl w4.heap.size _ (0 + len) cs ⟨b, off, none⟩ len cap cs rfl rfl (unhide OW) (unhide CL) (unhide DA) (unhide HRD).one (by omega) (unhide BS) ?_)
           intro v3 w6 o3 g3))
      have q3 : Kp w4 w6 := Kp.of_grown (unhide QA) g3 (fun k hk => (unhide OW).block k hk)
      have TT := hide (o3.tens (((unhide HRD).app (unhide HRD)).keep q3) (by rw [List.length_append, unhide HTS]; omega) (by omega))
      have K6 := hide ((unhide K3).trans q3)
      have I6 := hide ((unhide I3).keep q3)
      have F6 := hide ((unhide F3).keep q3)
      have X6 := hide ((unhide X3).keep q3)
      clear OW DA QA BS o3 g3 q3 HRD HCL I3 F3 X3
      go_wp2_with fail
      refine (tree_all _ (ts ++ ts) w6 (unhide TT)).mono ?_
      rw [(unhide TW).1, (unhide TW).2.1, (unhide HQ).1]
      rintro e w7 ⟨ds2, ⟨b1, e1, b2, e2, rfl, i1, f1, -, -⟩, hc, k7⟩
      have ka := Kp.alloc w7 (.cells #[.slice b1 S.length e1, .slice b2 ds2.length e2] 28)
      have I7 := hide (i1.keep ka)
      have F7 := hide (f1.keep ka)
      have Y7 := hide (Bx.made w7 (.slice b1 S.length e1) (.slice b2 ds2.length e2))
      have K7 := hide ((unhide K6).trans (k7.trans ka))
      have I6' := hide ((unhide I6).keep (k7.trans ka))
      have F6' := hide ((unhide F6).keep (k7.trans ka))
      have X7 := hide ((unhide X6).keep (k7.trans ka))
      have HC2 := hide hc
      clear hc i1 f1 k7 ka I6 F6 X6 K6
      go_upto_region 9 with fail
      generalize w7.alloc (.cells #[.slice b1 S.length e1, .slice b2 ds2.length e2] 28) = w8 at *
      generalize w7.heap.size = Y at *
      have MT : Hid (mayT S ds = true) := by
        have hl : ds.length = D.length := by have := congrArg List.length (unhide HC); simpa using this
        have t3 := (unhide TW).2.2.1
        have t4 := (unhide TW).2.2.2.1
        rw [(unhide HQ).1] at t3 t4
        rw [(unhide HQ).2.2] at t4
        unfold Hid
        rw [mayT_yes t3, hl, t4]
        exact beq_self_eq_true _
      obtain ⟨x0, x1, -, -, -⟩ := (unhide X7).o
      go_wp2_with fail
      refine (rtwo_self _ _ S ds w8 (unhide I6') (unhide F6') (unhide MT)).mono ?_
      rintro e w9 ⟨ds3, ⟨d1, e3, d2, e4, rfl, i1, f1, -, -⟩, hc, k9⟩
      have ka := Kp.alloc w9 (.cells #[.slice d1 S.length e3, .slice d2 ds3.length e4] 28)
      have I9 := hide (i1.keep ka)
      have F9 := hide (f1.keep ka)
      have Z9 := hide (Bx.made w9 (.slice d1 S.length e3) (.slice d2 ds3.length e4))
      have K9 := hide ((unhide K7).trans (k9.trans ka))
      have I8 := hide ((unhide I7).keep (k9.trans ka))
      have F8 := hide ((unhide F7).keep (k9.trans ka))
      have Y9 := hide ((unhide Y7).keep (k9.trans ka))
      have HQ2 := unhide HQ
      have HSM : Hid (sameT S ds2 S ds3 = true) := sameT_cn8 (parts_eq HQ2.2.1 ((unhide HC).trans HQ2.2.2.symm) (unhide HC2) hc)
      clear hc i1 f1 k9 ka I7 F7 Y7 K7 x0 x1 HQ2
      go_upto_region 10 with fail
      generalize w9.alloc (.cells #[.slice d1 S.length e3, .slice d2 ds3.length e4] 28) = w10 at *
      generalize w9.heap.size = Z at *
      obtain ⟨y0, y1, -, -, -⟩ := (unhide Y9).o
      obtain ⟨z0, z1, -, -, -⟩ := (unhide Z9).o
      go_wp2_with fail
      refine (rsameT_any _ _ _ _ S ds2 S ds3 w10 (unhide I8) (unhide F8) (unhide I9) (unhide F9)).mono ?_
      rw [unhide HSM]
      rintro e w11 ⟨rfl, k11⟩
      have K11 := hide ((unhide K9).trans k11)
      clear y0 y1 z0 z1 k11
      go_wp2
      go_ret
      exact ⟨rfl, unhide K11⟩
    · have hE1 : (E != 0) = true := by simpa using hE0
      go_wp2
      go_ret
      exact ⟨rfl, unhide K3⟩

end Go.Proofs.Ytnmpbjjppdkomaa
