
/- Contracts of Gather. -/
import Derived.Test.YtcegkaemcjlfgaaKerH
namespace Go.Proofs.Ytcegkaemcjlfgaa
open Go.RowKit

set_option maxHeartbeats 1000000 in
theorem Kgather_no (sv dv u : Value) (f t : List Int) (d : List Nat) (w : World) (h : Ints w sv f) (hd : Flts w dv d) (h' : Ints w u t) (hm : (mayT f d && intoB t f) = false) :
    Calls Try.prog 10 #[.agg #[sv, dv], u] w fun e w' => e = .returned (.tuple #[.agg #[.slice none 0 0, .slice none 0 0], .int .i64 2]) ∧ Kp w w' := by
  have H := hide h
  have HD := hide hd
  have H' := hide h'
  clear h hd h'
  cases hm1 : mayT f d
  · have HM1 := hide hm1
    clear hm hm1
    go_enter Try.func10, Try.ntmps10
    go_wp2_with fail
    obtain ⟨W, hW, x1, x2, k0⟩ := boxes_in w sv dv (.slice none 0 0) (.slice none 0 0)
    rw [← hW]
    clear hW
    have X1 := hide x1
    have X2 := hide x2
    have K0 := hide k0
    clear x1 x2 k0
    have hRS : Hid (w.heap.size ≤ w.heap.size + 1) := Nat.le_succ _
    generalize w.heap.size + 1 = R at X2 hRS ⊢
    generalize w.heap.size = B at X1 ⊢
    obtain ⟨c0, c1, -, -, -⟩ := (unhide X1).o
    try go_wp2_with fail
    refine (mayT_any _ _ f d W ((unhide H).keep (unhide K0)) ((unhide HD).keep (unhide K0))).mono ?_
    rw [unhide HM1]
    rintro e w1 ⟨rfl, k1⟩
    clear c0 c1
    have x3 := (unhide X2).keep k1
    obtain ⟨d0, d1, d2, d3, -⟩ := x3.o
    obtain ⟨c0, c1, -, -, -⟩ := ((unhide X1).keep k1).o
    have K1 := hide ((unhide K0).trans k1)
    have z2 := x3.set (.slice none 0 0) (.slice none 0 0)
    clear k1 x3
    obtain ⟨z0, z1, -, -, -⟩ := z2.o
    clear z2
    go_wp2
    have KF := hide (((unhide K1).set (unhide hRS) (i := 0) (.slice none 0 0)).set (unhide hRS) (i := 1) (.slice none 0 0))
    generalize ((w1.setCell ⟨R, 0, none⟩ (.slice none 0 0)).setCell ⟨R, 1, none⟩ (.slice none 0 0)) = w9 at *
    refine bodyPost_ret (v := .tuple #[.agg #[.slice none 0 0, .slice none 0 0], .int .i64 2]) (by simp [results, Try.results10, go_sem, z0, z1]) rfl ⟨rfl, unhide KF⟩
  · have HM1 := hide hm1
    have HM2 : Hid (intoB t f = false) := by rw [hm1] at hm; exact hm
    clear hm hm1
    go_enter Try.func10, Try.ntmps10
    go_wp2_with fail
    obtain ⟨W, hW, x1, x2, k0⟩ := boxes_in w sv dv (.slice none 0 0) (.slice none 0 0)
    rw [← hW]
    clear hW
    have X1 := hide x1
    have X2 := hide x2
    have K0 := hide k0
    clear x1 x2 k0
    have hRS : Hid (w.heap.size ≤ w.heap.size + 1) := Nat.le_succ _
    generalize w.heap.size + 1 = R at X2 hRS ⊢
    generalize w.heap.size = B at X1 ⊢
    obtain ⟨c0, c1, -, -, -⟩ := (unhide X1).o
    try go_wp2_with fail
    refine (mayT_any _ _ f d W ((unhide H).keep (unhide K0)) ((unhide HD).keep (unhide K0))).mono ?_
    rw [unhide HM1]
    rintro e w1 ⟨rfl, k1⟩
    clear c0 c1
    have Y1 := hide ((unhide X1).keep k1)
    have Y2 := hide ((unhide X2).keep k1)
    have K1 := hide ((unhide K0).trans k1)
    obtain ⟨c0, c1, -, -, -⟩ := (unhide Y1).o
    clear k1 X1 X2 K0
    go_wp2_with fail
    refine (into_any _ _ t f w1 ((unhide H').keep (unhide K1)) ((unhide H).keep (unhide K1))).mono ?_
    rw [unhide HM2]
    rintro e w2 ⟨rfl, k2⟩
    clear c0 c1
    have x3 := (unhide Y2).keep k2
    obtain ⟨d0, d1, d2, d3, -⟩ := x3.o
    have K2 := hide ((unhide K1).trans k2)
    have z2 := x3.set (.slice none 0 0) (.slice none 0 0)
    clear k2 x3
    obtain ⟨z0, z1, -, -, -⟩ := z2.o
    clear z2
    go_wp2
    have KF := hide (((unhide K2).set (unhide hRS) (i := 0) (.slice none 0 0)).set (unhide hRS) (i := 1) (.slice none 0 0))
    generalize ((w2.setCell ⟨R, 0, none⟩ (.slice none 0 0)).setCell ⟨R, 1, none⟩ (.slice none 0 0)) = w9 at *
    refine bodyPost_ret (v := .tuple #[.agg #[.slice none 0 0, .slice none 0 0], .int .i64 2]) (by simp [results, Try.results10, go_sem, z0, z1]) rfl ⟨rfl, unhide KF⟩

set_option maxHeartbeats 1000000 in
theorem Kgather_yes (sv dv u : Value) (f t : List Int) (d : List Nat) (w : World) (h : Ints w sv f) (hd : Flts w dv d) (h' : Ints w u t) (hm : mayT f d = true) (hi : intoB t f = true) :
    Calls Try.prog 10 #[.agg #[sv, dv], u] w fun e w' => ∃ a1 n1 c1 G c ds, e = .returned (.tuple #[.agg #[.slice a1 n1 c1, .slice (some ⟨G, 0, none⟩) ds.length c], .int .i64 0]) ∧ Fin w w' t a1 n1 c1 G c ds ∧ mayT t ds = true ∧ (∀ x ∈ ds, W64 x) ∧ ∀ j, j < ds.length → cn (ds.getD j 0) = foldC (pick (srcL t f) d (j : Int)) := by
  have H := hide h
  have HD := hide hd
  have H' := hide h'
  have HM1 := hide hm
  have HM2 := hide hi
  clear h hd h' hm hi
  go_enter Try.func10, Try.ntmps10
  go_wp2_with fail
  obtain ⟨W, hW, x1, x2, k0⟩ := boxes_in w sv dv (.slice none 0 0) (.slice none 0 0)
  rw [← hW]
  clear hW
  have X1 := hide x1
  have X2 := hide x2
  have K0 := hide k0
  clear x1 x2 k0
  have hRS : Hid (w.heap.size ≤ w.heap.size + 1) := Nat.le_succ _
  generalize w.heap.size + 1 = R at X2 hRS ⊢
  generalize w.heap.size = B at X1 ⊢
  obtain ⟨c0, c1, -, -, -⟩ := (unhide X1).o
  try go_wp2_with fail
  refine (mayT_any _ _ f d W ((unhide H).keep (unhide K0)) ((unhide HD).keep (unhide K0))).mono ?_
  rw [unhide HM1]
  rintro e w1 ⟨rfl, k1⟩
  clear c0 c1
  have Y1 := hide ((unhide X1).keep k1)
  have Y2 := hide ((unhide X2).keep k1)
  have K1 := hide ((unhide K0).trans k1)
  obtain ⟨c0, c1, -, -, -⟩ := (unhide Y1).o
  clear k1 X1 X2 K0
  go_wp2_with fail
  refine (into_any _ _ t f w1 ((unhide H').keep (unhide K1)) ((unhide H).keep (unhide K1))).mono ?_
  rw [unhide HM2]
  rintro e w2 ⟨rfl, k2⟩
  clear c0 c1
  have X1 := hide ((unhide Y1).keep k2)
  have X2 := hide ((unhide Y2).keep k2)
  have K2 := hide ((unhide K1).trans k2)
  obtain ⟨c0, c1, -, -, -⟩ := (unhide X1).o
  clear k2 Y1 Y2 K1
  go_wp2_with fail
  refine (gathered_any _ _ _ f t d w2 ((unhide H).keep (unhide K2)) ((unhide HD).keep (unhide K2)) ((unhide H').keep (unhide K2)) (unhide HM2) (mayT_len (unhide HM1))).mono ?_
  rintro e w3 ⟨G, ds, rfl, hG, bg, hlen, hw, hr, k3⟩
  clear c0 c1
  have MT : Hid (mayT t ds = true) := by
    unfold Hid mayT
    rw [(into_spec (unhide HM2)).1, hlen]
    simp
  have HW := hide hw
  have HR := hide hr
  have BG := hide (bg.flts (n := ds.length) (cap := ds.length) rfl hw (by have := may_prod (mayT_may (unhide MT)); omega))
  clear hlen hw hr
  have Y2 := hide ((unhide X2).keep k3)
  have K3 := hide ((unhide K2).trans k3)
  clear k3 X2 K2 bg hG X1
  go_wp2_with fail
  refine (of_yes _ _ t ds w3 ((unhide H').keep (unhide K3)) (unhide BG) (unhide MT)).mono ?_
  rintro e w4 ⟨a1, n1, c1, G1, c, rfl, o1, hG1, og, k4⟩
  have z := (unhide Y2).keep k4
  obtain ⟨d0, d1, d2, d3, -⟩ := z.o
  have z2 := z.set (.slice a1 n1 c1) (.slice (some ⟨G1, 0, none⟩) ds.length c)
  obtain ⟨z0, z1, -, -, -⟩ := z2.o
  have FN := hide (Fin.mk' o1 hG1 og (unhide K3) k4 (unhide Y2) (unhide hRS))
  clear z z2 og o1 k4 hG1 BG
  go_wp2
  generalize ((w4.setCell ⟨R, 0, none⟩ (.slice a1 n1 c1)).setCell ⟨R, 1, none⟩ (.slice (some ⟨G1, 0, none⟩) ds.length c)) = w9 at *
  refine bodyPost_ret (v := .tuple #[.agg #[.slice a1 n1 c1, .slice (some ⟨G1, 0, none⟩) ds.length c], .int .i64 0]) (by simp [results, Try.results10, go_sem, z0, z1]) rfl ⟨a1, n1, c1, G1, c, ds, rfl, unhide FN, unhide MT, unhide HW, unhide HR⟩


/-- what Gather makes -/
def gatS (t : List Int) (d : List Nat) (f : List Int) : List Int := if (mayT t d && intoB f t) = true then f else []
def gatE (t : List Int) (d : List Nat) (f : List Int) : Int := if (mayT t d && intoB f t) = true then 0 else 2
def gatL (t : List Int) (d : List Nat) (f : List Int) : List Nat := if (mayT t d && intoB f t) = true then (List.range (prodL f).toNat).map (fun j : Nat => foldC (pick (srcL f t) d (j : Int))) else []
theorem gat_yes {f : List Int} {d : List Nat} {t : List Int} (h : (mayT t d && intoB f t) = true) : gatS t d f = f ∧ gatL t d f = (List.range (prodL f).toNat).map (fun j : Nat => foldC (pick (srcL f t) d (j : Int))) ∧ gatE t d f = 0 := ⟨if_pos h, if_pos h, if_pos h⟩
theorem gat_no {f : List Int} {d : List Nat} {t : List Int} (h : (mayT t d && intoB f t) = false) : gatS t d f = [] ∧ gatL t d f = [] ∧ gatE t d f = 2 := ⟨if_neg (by rw [h]; simp), if_neg (by rw [h]; simp), if_neg (by rw [h]; simp)⟩
theorem cn_list {ds : List Nat} {n : Nat} {g : Nat → Nat} (hl : ds.length = n) (h : ∀ j, j < ds.length → cn (ds.getD j 0) = g j) : ds.map cn = (List.range n).map g := by
  subst hl
  apply List.ext_getElem
  · simp
  · intro i h1 h2
    have hi : i < ds.length := by simpa using h1
    have := h i hi
    simp only [List.getElem_map, List.getElem_range]
    rw [← this]
    simp [hi]

theorem Kgather_all (sv dv u : Value) (t f : List Int) (d : List Nat) (w : World) (h : Ints w sv t) (hd : Flts w dv d) (h' : Ints w u f) :
    Calls Try.prog 10 #[.agg #[sv, dv], u] w fun e w' => ∃ ds, Hands e w' (gatS t d f) ds (gatE t d f) ∧ ds.map cn = gatL t d f ∧ Kp w w' := by
  cases hm : (mayT t d && intoB f t)
  · obtain ⟨e1, e2, e3⟩ := gat_no hm
    rw [e1, e2, e3]
    refine (Kgather_no sv dv u t f d w h hd h' hm).mono ?_
    rintro e w' ⟨rfl, k⟩
    exact ⟨[], Hands.nil _ _, rfl, k⟩
  · obtain ⟨e1, e2, e3⟩ := gat_yes hm
    rw [e1, e2, e3]
    simp only [Bool.and_eq_true] at hm
    refine (Kgather_yes sv dv u t f d w h hd h' hm.1 hm.2).mono ?_
    rintro e w' ⟨a1, n1, c1, G, c, ds, rfl, fn, hmt, hw, hr⟩
    exact ⟨ds, Hands.fin fn hmt h'.wf hw, cn_list (by have := mayT_len hmt; omega) hr, fn.kp⟩

end Go.Proofs.Ytcegkaemcjlfgaa
