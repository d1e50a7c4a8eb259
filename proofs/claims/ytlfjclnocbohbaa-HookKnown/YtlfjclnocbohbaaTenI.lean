
/- Contracts of New and Of. -/
import Derived.Test.YtlfjclnocbohbaaTenG
import Derived.Test.YtlfjclnocbohbaaTenH
namespace Go.Proofs.Ytlfjclnocbohbaa
open Go.RowKit

/-- a pair and a number handed back -/
theorem lit_one (w : World) (x : Nat) (hx : W64 x) : Flts (w.alloc (.cells #[.float .f64 x] 23)) (.slice (some ⟨w.heap.size, 0, none⟩) 1 1) [x] :=
  lit_flts w 23 [x] #[.float .f64 x] w.heap.size 1 rfl rfl rfl (by intro y hy; rw [List.mem_singleton.1 hy]; exact hx) (by decide)

theorem BlkF.g {w : World} {e : TypeId} {G n : Nat} {ys : List Nat} (h : BlkF w e G ys) (hn : ys.length = n) (hm : n ≤ 1000000) : OwnG w e G n n ys :=
  ⟨hn, ⟨Nat.le_refl _, by unfold maxLen; omega⟩, _, h, by simpa using hn, by simp [← hn, List.take_of_length_le]⟩

set_option maxHeartbeats 400000 in
theorem new_no (sv : Value) (s : List Int) (x : Nat) (w : World) (hs : Ints w sv s) (hm : mayB s = false) :
    Calls Try.prog 43 #[sv, .float .f64 x] w fun e w' => e = .returned (.tuple #[.agg #[.slice none 0 0, .slice none 0 0], .int .i64 (szE s)]) ∧ Kp w w' := by
  have HS := hide hs
  have z := szE_ne hm
  clear hs hm
  go_enter Try.func43, Try.ntmps43
  go_wp2_with fail
  obtain ⟨W, hW, x2, k0⟩ := box_in w (.slice none 0 0) (.slice none 0 0)
  rw [← hW]
  clear hW
  have X2 := hide x2
  have K0 := hide k0
  clear x2 k0
  have hRS : w.heap.size ≤ w.heap.size := Nat.le_refl _
  generalize hR : w.heap.size = R at X2 hRS ⊢
  have hRS' : w.heap.size ≤ R := by omega
  clear hR hRS
  refine (size_any _ s W ((unhide HS).keep (unhide K0))).mono ?_
  rintro e w1 ⟨rfl, k1⟩
  have x3 := (unhide X2).keep k1
  obtain ⟨d0, d1, d2, d3, -⟩ := x3.o
  have K1 := hide ((unhide K0).trans k1)
  have z2 := x3.set (.slice none 0 0) (.slice none 0 0)
  clear k1 x3
  obtain ⟨z0, z1, -, -, -⟩ := z2.o
  clear z2
  generalize hq : szE s = q at z ⊢
  have HQ := hide hq
  clear hq
  generalize szN s = q' at *
  go_wp2
  have KF := hide (((unhide K1).set hRS' (i := 0) (.slice none 0 0)).set hRS' (i := 1) (.slice none 0 0))
  generalize ((w1.setCell ⟨R, 0, none⟩ (.slice none 0 0)).setCell ⟨R, 1, none⟩ (.slice none 0 0)) = w9 at *
  refine bodyPost_ret (v := .tuple #[.agg #[.slice none 0 0, .slice none 0 0], .int .i64 q]) (by simp [results, Try.results43, go_sem, z0, z1]) rfl ⟨by rw [unhide HQ], unhide KF⟩

set_option maxHeartbeats 1000000 in
theorem new_yes (sv : Value) (s : List Int) (x : Nat) (w : World) (hs : Ints w sv s) (hx : W64 x) (hm : mayB s = true) :
    Calls Try.prog 43 #[sv, .float .f64 x] w fun e w' => ∃ a1 n1 c1 G n, e = .returned (.tuple #[.agg #[.slice a1 n1 c1, .slice (some ⟨G, 0, none⟩) n n], .int .i64 0]) ∧ (n : Int) = prodL s ∧
      Own w' 3 w.heap.size (.slice a1 n1 c1) s ∧ w.heap.size ≤ G ∧ OwnG w' 23 G n n (List.replicate n x) ∧ Kp w w' := by
  have HS := hide hs
  have b1 : s.length ≤ 1000000 := by have := (may_good hm).1; omega
  have hz : szE s = 0 := szE_yes hm
  have hp := prodL_pos (may_good hm).2
  have hp' := may_prod hm
  obtain ⟨n, hn⟩ := Int.eq_ofNat_of_zero_le (show 0 ≤ prodL s by omega)
  have hz' : szN s = (n : Int) := (szN_yes hm).trans hn
  have n1 : 1 ≤ n := by omega
  have n2 : n ≤ 4096 := by omega
  have HN := hide hn.symm
  clear hs hm hp hp' hn
  go_enter Try.func43, Try.ntmps43
  go_wp2_with fail
  obtain ⟨W, hW, x2, k0⟩ := box_in w (.slice none 0 0) (.slice none 0 0)
  rw [← hW]
  clear hW
  have X2 := hide x2
  have K0 := hide k0
  clear x2 k0
  generalize hR : w.heap.size = R at X2 ⊢
  have hRS' : w.heap.size ≤ R := by omega
  clear hR
  refine (size_any _ s W ((unhide HS).keep (unhide K0))).mono ?_
  rw [hz, hz']
  clear hz hz'
  rintro e w1 ⟨rfl, k1⟩
  have K1 := hide ((unhide K0).trans k1)
  have Y2 := hide ((unhide X2).keep k1)
  clear k1 X2 K0
  go_wp2_with fail
  refine (clone_ints _ s w1 ((unhide HS).keep (unhide K1)) b1).mono ?_
  rintro e w2 ⟨u1, rfl, o1, k2⟩
  obtain ⟨a1, m1, c1, rfl⟩ := o1.sl
  have O1 := hide o1
  have K2 := hide ((unhide K1).trans k2)
  have Z2 := hide ((unhide Y2).keep k2)
  have HR1 : Hid (R < w1.heap.size) := (unhide Y2).lt
  clear o1 k2 Y2
  go_wp2_with fail
  have L1 := hide (lit_one w2 x hx)
  have KA := hide (Kp.alloc w2 (.cells #[.float .f64 x] 23))
  generalize (w2.alloc (.cells #[.float .f64 x] 23)) = w3 at *
  have HR3 : Hid (R < w3.heap.size) := Nat.lt_of_lt_of_le (unhide Z2).lt (unhide KA).size
  generalize w2.heap.size = L at L1 ⊢
  refine (repeat_one _ x n w3 (unhide L1) n1 n2).mono ?_
  rintro e w4 ⟨G, rfl, hG, bg, k4⟩
  have hGR : ¬ R = G := by have := unhide HR3; omega
  have og := bg.g (n := n) (by simp) (by omega)
  have kk := (unhide KA).trans k4
  have z := (unhide Z2).keep kk
  obtain ⟨d0, d1, d2, d3, -⟩ := z.o
  have z2 := z.set (.slice a1 m1 c1) (.slice (some ⟨G, 0, none⟩) n n)
  obtain ⟨z0, z1, -, -, -⟩ := z2.o
  have O3 := hide (((((unhide O1).keep kk).setBelow (unhide HR1) 0 (.slice a1 m1 c1)).setBelow (unhide HR1) 1 (.slice (some ⟨G, 0, none⟩) n n)).weak (unhide K1).size)
  have G3 := hide ((og.setOther hGR 0 (.slice a1 m1 c1)).setOther hGR 1 (.slice (some ⟨G, 0, none⟩) n n))
  have K3 := hide ((((unhide K2).trans kk).set hRS' (i := 0) (.slice a1 m1 c1)).set hRS' (i := 1) (.slice (some ⟨G, 0, none⟩) n n))
  have GS := hide (Nat.le_trans ((unhide K2).trans (unhide KA)).size hG)
  clear z z2 og kk bg k4 hG hGR O1 L1
  go_wp2
  generalize ((w4.setCell ⟨R, 0, none⟩ (.slice a1 m1 c1)).setCell ⟨R, 1, none⟩ (.slice (some ⟨G, 0, none⟩) n n)) = w9 at *
  refine bodyPost_ret (v := .tuple #[.agg #[.slice a1 m1 c1, .slice (some ⟨G, 0, none⟩) n n], .int .i64 0]) (by simp [results, Try.results43, go_sem, z0, z1]) rfl ⟨a1, m1, c1, G, n, rfl, unhide HN, unhide O3, unhide GS, unhide G3, unhide K3⟩

set_option maxHeartbeats 400000 in
theorem of_no (sv dv : Value) (s : List Int) (w : World) (hs : Ints w sv s) (hm : mayB s = false) :
    Calls Try.prog 28 #[sv, dv] w fun e w' => e = .returned (.tuple #[.agg #[.slice none 0 0, .slice none 0 0], .int .i64 (szE s)]) ∧ Kp w w' := by
  have HS := hide hs
  have z := szE_ne hm
  clear hs hm
  go_enter Try.func28, Try.ntmps28
  go_wp2_with fail
  obtain ⟨W, hW, x2, k0⟩ := box_in w (.slice none 0 0) (.slice none 0 0)
  rw [← hW]
  clear hW
  have X2 := hide x2
  have K0 := hide k0
  clear x2 k0
  generalize hR : w.heap.size = R at X2 ⊢
  have hRS' : w.heap.size ≤ R := by omega
  clear hR
  refine (size_any _ s W ((unhide HS).keep (unhide K0))).mono ?_
  rintro e w1 ⟨rfl, k1⟩
  have x3 := (unhide X2).keep k1
  obtain ⟨d0, d1, d2, d3, -⟩ := x3.o
  have K1 := hide ((unhide K0).trans k1)
  have z2 := x3.set (.slice none 0 0) (.slice none 0 0)
  clear k1 x3
  obtain ⟨z0, z1, -, -, -⟩ := z2.o
  clear z2
  generalize hq : szE s = q at z ⊢
  have HQ := hide hq
  clear hq
  generalize szN s = q' at *
  go_wp2
  have KF := hide (((unhide K1).set hRS' (i := 0) (.slice none 0 0)).set hRS' (i := 1) (.slice none 0 0))
  generalize ((w1.setCell ⟨R, 0, none⟩ (.slice none 0 0)).setCell ⟨R, 1, none⟩ (.slice none 0 0)) = w9 at *
  refine bodyPost_ret (v := .tuple #[.agg #[.slice none 0 0, .slice none 0 0], .int .i64 q]) (by simp [results, Try.results28, go_sem, z0, z1]) rfl ⟨by rw [unhide HQ], unhide KF⟩

set_option maxHeartbeats 400000 in
theorem of_len (sv dv : Value) (s : List Int) (d : List Nat) (w : World) (hs : Ints w sv s) (hd : Flts w dv d) (hm : mayB s = true) (hl : (d.length : Int) ≠ prodL s) :
    Calls Try.prog 28 #[sv, dv] w fun e w' => e = .returned (.tuple #[.agg #[.slice none 0 0, .slice none 0 0], .int .i64 1]) ∧ Kp w w' := by
  have HS := hide hs
  have hr := hd.room
  obtain ⟨p, cap, rfl, -⟩ := hd.val
  have hz := szE_yes hm
  have hz' := szN_yes hm
  have hne : ((d.length : Int) != prodL s) = true := by simpa using hl
  clear hs hd hm hl
  generalize prodL s = q at *
  go_enter Try.func28, Try.ntmps28
  go_wp2_with fail
  obtain ⟨W, hW, x2, k0⟩ := box_in w (.slice none 0 0) (.slice none 0 0)
  rw [← hW]
  clear hW
  have X2 := hide x2
  have K0 := hide k0
  clear x2 k0
  generalize hR : w.heap.size = R at X2 ⊢
  have hRS' : w.heap.size ≤ R := by omega
  clear hR
  refine (size_any _ s W ((unhide HS).keep (unhide K0))).mono ?_
  rw [hz, hz']
  clear hz hz'
  rintro e w1 ⟨rfl, k1⟩
  have x3 := (unhide X2).keep k1
  obtain ⟨d0, d1, d2, d3, -⟩ := x3.o
  have K1 := hide ((unhide K0).trans k1)
  have z2 := x3.set (.slice none 0 0) (.slice none 0 0)
  clear k1 x3
  obtain ⟨z0, z1, -, -, -⟩ := z2.o
  clear z2
  go_wp2
  have KF := hide (((unhide K1).set hRS' (i := 0) (.slice none 0 0)).set hRS' (i := 1) (.slice none 0 0))
  generalize ((w1.setCell ⟨R, 0, none⟩ (.slice none 0 0)).setCell ⟨R, 1, none⟩ (.slice none 0 0)) = w9 at *
  refine bodyPost_ret (v := .tuple #[.agg #[.slice none 0 0, .slice none 0 0], .int .i64 1]) (by simp [results, Try.results28, go_sem, z0, z1]) rfl ⟨rfl, unhide KF⟩

set_option maxHeartbeats 400000 in
theorem of_yes (sv dv : Value) (s : List Int) (d : List Nat) (w : World) (hs : Ints w sv s) (hd : Flts w dv d) (hm : mayT s d = true) :
    Calls Try.prog 28 #[sv, dv] w fun e w' => ∃ a1 n1 c1 G c, e = .returned (.tuple #[.agg #[.slice a1 n1 c1, .slice (some ⟨G, 0, none⟩) d.length c], .int .i64 0]) ∧
      Own w' 3 w.heap.size (.slice a1 n1 c1) s ∧ w.heap.size ≤ G ∧ OwnG w' 23 G d.length c d ∧ Kp w w' := by
  have HS := hide hs
  have HD := hide hd
  have hr := hd.room
  have HP := hide (mayT_pos hm)
  have b1 : s.length ≤ 1000000 := by have := (may_good (mayT_may hm)).1; omega
  have b2 : d.length ≤ 1000000 := by have := mayT_len hm; have := may_prod (mayT_may hm); omega
  obtain ⟨p, cap, rfl, -⟩ := hd.val
  obtain ⟨p1, cap1, rfl, -⟩ := hs.val
  have hz := szE_yes (mayT_may hm)
  have hz' := (szN_yes (mayT_may hm)).trans (mayT_len hm).symm
  clear hs hd hm
  go_enter Try.func28, Try.ntmps28
  go_wp2_with fail
  obtain ⟨W, hW, x2, k0⟩ := box_in w (.slice none 0 0) (.slice none 0 0)
  rw [← hW]
  clear hW
  have X2 := hide x2
  have K0 := hide k0
  clear x2 k0
  generalize hR : w.heap.size = R at X2 ⊢
  have hRS' : w.heap.size ≤ R := by omega
  clear hR
  refine (size_any _ s W ((unhide HS).keep (unhide K0))).mono ?_
  rw [hz, hz']
  clear hz hz'
  rintro e w1 ⟨rfl, k1⟩
  have K1 := hide ((unhide K0).trans k1)
  have Y2 := hide ((unhide X2).keep k1)
  clear k1 X2 K0
  go_wp2_with fail
  refine (copied_any _ _ s d w1 ((unhide HS).keep (unhide K1)) ((unhide HD).keep (unhide K1)) b1 b2).mono ?_
  rintro e w2 ⟨u1, u2, rfl, o1, o2, k2⟩
  obtain ⟨a1, n1, c1, rfl⟩ := o1.sl
  obtain ⟨G, c, hG, rfl, og⟩ := o2.g (unhide HP)
  have HR1 : Hid (R < w1.heap.size) := (unhide Y2).lt
  have hGR : ¬ R = G := by have := unhide HR1; omega
  have z := (unhide Y2).keep k2
  obtain ⟨d0, d1, d2, d3, -⟩ := z.o
  have z2 := z.set (.slice a1 n1 c1) (.slice (some ⟨G, 0, none⟩) d.length c)
  obtain ⟨z0, z1, -, -, -⟩ := z2.o
  have O3 := hide (((o1.setBelow (unhide HR1) 0 (.slice a1 n1 c1)).setBelow (unhide HR1) 1 (.slice (some ⟨G, 0, none⟩) d.length c)).weak (unhide K1).size)
  have G3 := hide ((og.setOther hGR 0 (.slice a1 n1 c1)).setOther hGR 1 (.slice (some ⟨G, 0, none⟩) d.length c))
  have K3 := hide ((((unhide K1).trans k2).set hRS' (i := 0) (.slice a1 n1 c1)).set hRS' (i := 1) (.slice (some ⟨G, 0, none⟩) d.length c))
  have GS := hide (Nat.le_trans (unhide K1).size hG)
  clear z z2 og o1 o2 k2 hG hGR
  go_wp2
  generalize ((w2.setCell ⟨R, 0, none⟩ (.slice a1 n1 c1)).setCell ⟨R, 1, none⟩ (.slice (some ⟨G, 0, none⟩) d.length c)) = w9 at *
  refine bodyPost_ret (v := .tuple #[.agg #[.slice a1 n1 c1, .slice (some ⟨G, 0, none⟩) d.length c], .int .i64 0]) (by simp [results, Try.results28, go_sem, z0, z1]) rfl ⟨a1, n1, c1, G, c, rfl, unhide O3, unhide GS, unhide G3, unhide K3⟩

end Go.Proofs.Ytlfjclnocbohbaa
