
/- Contracts of Map: of a tensor, of what is none, by no function. -/
import Derived.Test.YtlfjclnocbohbaaTenF
namespace Go.Proofs.Ytlfjclnocbohbaa
open Go.RowKit

theorem Own.keepx {w w' : World} {e e' : TypeId} {base G n c : Nat} {v : Value} {xs : List Int} {ys : List Nat} (h : Own w e base v xs) (hG : OwnG w e' G n c ys) (hne : e ≠ e') (k : Kx G w w') : Own w' e base v xs := by
  obtain ⟨h0, h | ⟨g, cap, cur, rfl, hg, hh, r⟩⟩ := h
  · exact ⟨h0, .inl h⟩
  · obtain ⟨_, _, cur', hh', _⟩ := hG
    refine ⟨h0, .inr ⟨g, cap, cur, rfl, hg, ?_, r⟩⟩
    rw [k.block g (Array.getElem?_eq_some_iff.1 hh).1 (fun e1 => by cases e1; rw [hh] at hh'; injection hh' with e2; injection e2 with _ e3; exact hne e3)]
    exact hh

theorem fnil_eq (w : World) (fn : Fn) (caps first : Array Value) : (binOp .eql 100 (.func fn caps first) .nilFunc).run Try.prog w = .ok (.bool false) w := by
  kernel_rfl
theorem nilfnil_eq (w : World) : (binOp .eql 100 .nilFunc .nilFunc).run Try.prog w = .ok (.bool true) w := by
  kernel_rfl

/-- two pairs laid into blocks of their own -/
theorem boxes_in (w : World) (x y u v : Value) : ∃ W, W = (w.alloc (.cells #[x, y] 31)).alloc (.cells #[u, v] 31) ∧ Bx W w.heap.size x y ∧ Bx W (w.heap.size + 1) u v ∧ Kp w W := by
  refine ⟨_, rfl, (Bx.made w x y).keep (Kp.alloc _ _), ?_, (Kp.alloc w _).trans (Kp.alloc _ _)⟩
  have := Bx.made (w.alloc (.cells #[x, y] 31)) u v
  have e1 : (w.alloc (Obj.cells #[x, y] 31)).heap.size = w.heap.size + 1 := by simp
  rw [e1] at this
  exact this

set_option maxHeartbeats 400000 in
theorem map_nil (sv dv : Value) (w : World) :
    Calls Try.prog 62 #[.agg #[sv, dv], .nilFunc] w fun e w' => e = .returned (.agg #[.slice none 0 0, .slice none 0 0]) ∧ Kp w w' := by
  have q := nilfnil_eq
  go_enter Try.func62, Try.ntmps62
  go_wp2
  obtain ⟨W, hW, _, x2, k0⟩ := boxes_in w sv dv (.slice none 0 0) (.slice none 0 0)
  rw [← hW]
  obtain ⟨z0, z1, -, -, -⟩ := x2.o
  refine bodyPost_ret (v := .agg #[.slice none 0 0, .slice none 0 0]) (by simp [results, Try.results62, go_sem, z0, z1]) rfl ⟨rfl, k0⟩

set_option maxHeartbeats 400000 in
theorem map_no (fn : Fn) (caps : Array Value) (sv dv : Value) (s : List Int) (d : List Nat) (w : World) (hs : Ints w sv s) (hd : Flts w dv d) (hm : mayT s d = false) :
    Calls Try.prog 62 #[.agg #[sv, dv], .func fn caps #[]] w fun e w' => e = .returned (.agg #[.slice none 0 0, .slice none 0 0]) ∧ Kp w w' := by
  have q := fun w => fnil_eq w fn caps #[]
  have HS := hide hs
  have HD := hide hd
  have HM := hide hm
  clear hs hd hm
  obtain ⟨W, hW, x1, x2, k0⟩ := boxes_in w sv dv (.slice none 0 0) (.slice none 0 0)
  obtain ⟨c0, c1, -, -, -⟩ := x1.o
  rw [hW] at c0 c1
  go_enter Try.func62, Try.ntmps62
  go_wp2_with fail
  rw [← hW] at c0 c1 ⊢
  clear hW
  have X2 := hide x2
  have K0 := hide k0
  clear x1 x2 k0
  have hRS : w.heap.size ≤ w.heap.size + 1 := Nat.le_succ _
  generalize w.heap.size + 1 = R at X2 hRS ⊢
  generalize w.heap.size = B at c0 c1 ⊢
  refine (mayT_any _ _ s d W ((unhide HS).keep (unhide K0)) ((unhide HD).keep (unhide K0))).mono ?_
  rw [unhide HM]
  rintro e w1 ⟨rfl, k1⟩
  clear c0 c1
  have x3 := (unhide X2).keep k1
  obtain ⟨d0, d1, d2, d3, -⟩ := x3.o
  have K1 := hide ((unhide K0).trans k1)
  have z := x3.set (.slice none 0 0) (.slice none 0 0)
  clear k1 x3
  obtain ⟨z0, z1, -, -, -⟩ := z.o
  clear z
  go_wp2
  have KF := hide (((unhide K1).set hRS (i := 0) (.slice none 0 0)).set hRS (i := 1) (.slice none 0 0))
  generalize ((w1.setCell ⟨R, 0, none⟩ (.slice none 0 0)).setCell ⟨R, 1, none⟩ (.slice none 0 0)) = w9 at *
  refine bodyPost_ret (v := .agg #[.slice none 0 0, .slice none 0 0]) (by simp [results, Try.results62, go_sem, z0, z1]) rfl ⟨rfl, unhide KF⟩

set_option maxHeartbeats 1000000 in
theorem map_yes (g : Nat) (caps : Array Value) (Q : Nat → Nat → Prop) (sv dv : Value) (s : List Int) (d : List Nat) (w : World) (hs : Ints w sv s) (hd : Flts w dv d) (hm : mayT s d = true)
    (hcall : ∀ args w, Sem.run Try.prog (callFunc g args) w = .ok (.enter g args) w)
    (hf : Hid (∀ x w1, W64 x → Calls Try.prog g (caps ++ #[.float .f64 x]) w1 fun e w2 => ∃ r, e = .returned (.float .f64 r) ∧ (Q x r ∧ W64 r) ∧ Kp w1 w2)) :
    Calls Try.prog 62 #[.agg #[sv, dv], .func (.func g) caps #[]] w fun e w' => ∃ a1 n1 c1 G c ds, e = .returned (.agg #[.slice a1 n1 c1, .slice (some ⟨G, 0, none⟩) d.length c]) ∧
      Own w' 3 w.heap.size (.slice a1 n1 c1) s ∧ w.heap.size ≤ G ∧ OwnG w' 23 G d.length c ds ∧ (∀ x ∈ ds, W64 x) ∧ (∀ j, j < d.length → Q (d.getD j 0) (ds.getD j 0)) ∧ Kp w w' := by
  have q := fun w => fnil_eq w (.func g) caps #[]
  have HS := hide hs
  have HD := hide hd
  have HM := hide hm
  have HP := hide (mayT_pos hm)
  have b1 : s.length ≤ 1000000 := by have := (may_good (mayT_may hm)).1; omega
  have b2 : d.length ≤ 1000000 := by have := mayT_len hm; have := may_prod (mayT_may hm); omega
  have HW := hide hd.wf
  clear hs hd hm
  obtain ⟨W, hW, x1, x2, k0⟩ := boxes_in w sv dv (.slice none 0 0) (.slice none 0 0)
  obtain ⟨c0, c1, -, -, -⟩ := x1.o
  rw [hW] at c0 c1
  go_enter Try.func62, Try.ntmps62
  go_wp2_with fail
  rw [← hW] at c0 c1 ⊢
  clear hW
  have X1 := hide x1
  have X2 := hide x2
  have K0 := hide k0
  clear x1 x2 k0
  have hRS : w.heap.size ≤ w.heap.size + 1 := Nat.le_succ _
  generalize w.heap.size + 1 = R at X2 hRS ⊢
  generalize w.heap.size = B at X1 c0 c1 ⊢
  refine (mayT_any _ _ s d W ((unhide HS).keep (unhide K0)) ((unhide HD).keep (unhide K0))).mono ?_
  rw [unhide HM]
  rintro e w1 ⟨rfl, k1⟩
  clear c0 c1
  have K1 := hide ((unhide K0).trans k1)
  have Y1 := hide ((unhide X1).keep k1)
  have Y2 := hide ((unhide X2).keep k1)
  clear k1 X1 X2 K0
  obtain ⟨c0, c1, -, -, -⟩ := (unhide Y1).o
  go_wp2_with fail
  refine (copied_any _ _ s d w1 ((unhide HS).keep (unhide K1)) ((unhide HD).keep (unhide K1)) b1 b2).mono ?_
  rintro e w2 ⟨u1, u2, rfl, o1, o2, k2⟩
  clear c0 c1
  obtain ⟨a1, n1, c1, rfl⟩ := o1.sl
  obtain ⟨G, c, hG, rfl, og⟩ := o2.g (unhide HP)
  have O1 := hide o1
  have OG := hide og
  have HGS := hide hG
  have K2 := hide ((unhide K1).trans k2)
  have Z2 := hide ((unhide Y2).keep k2)
  have HRG : Hid (R < w1.heap.size) := (unhide Y2).lt
  clear o1 o2 og hG k2 Y1 Y2
  go_wp2_with fail
  refine (mapped_any g caps Q a1 n1 c1 G d.length c d w2 (unhide OG) b2 (unhide HW) hcall hf).mono ?_
  rintro e w3 ⟨ds, rfl, og3, hw3, hq3, kx3⟩
  have hGR : ¬ R = G := by have := unhide HRG; have := unhide HGS; omega
  have z := (unhide Z2).keepx kx3 hGR
  obtain ⟨d0, d1, d2, d3, -⟩ := z.o
  have z2 := z.set (.slice a1 n1 c1) (.slice (some ⟨G, 0, none⟩) d.length c)
  obtain ⟨z0, z1, -, -, -⟩ := z2.o
  have O3 := hide (((((unhide O1).keepx (unhide OG) (by decide) kx3).setBelow (unhide HRG) 0 (.slice a1 n1 c1)).setBelow (unhide HRG) 1 (.slice (some ⟨G, 0, none⟩) d.length c)).weak (unhide K1).size)
  have G3 := hide ((og3.setOther hGR 0 (.slice a1 n1 c1)).setOther hGR 1 (.slice (some ⟨G, 0, none⟩) d.length c))
  have K3 := hide (((Kx.after (unhide K2) kx3 (Nat.le_trans (unhide K1).size (unhide HGS))).set hRS (i := 0) (.slice a1 n1 c1)).set hRS (i := 1) (.slice (some ⟨G, 0, none⟩) d.length c))
  have W3 := hide hw3
  have Q3 := hide hq3
  clear z z2 og3 hw3 hq3 kx3 hGR O1 OG
  go_wp2
  generalize ((w3.setCell ⟨R, 0, none⟩ (.slice a1 n1 c1)).setCell ⟨R, 1, none⟩ (.slice (some ⟨G, 0, none⟩) d.length c)) = w9 at *
  refine bodyPost_ret (v := .agg #[.slice a1 n1 c1, .slice (some ⟨G, 0, none⟩) d.length c]) (by simp [results, Try.results62, go_sem, z0, z1]) rfl ⟨a1, n1, c1, G, c, ds, rfl, unhide O3, Nat.le_trans (unhide K1).size (unhide HGS), unhide G3, unhide W3, unhide Q3, unhide K3⟩

end Go.Proofs.Ytlfjclnocbohbaa
