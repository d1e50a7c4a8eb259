
/- The contract of the document's New. -/
import Derived.Test.YtnmpbjjppdkomaaTenI
import Derived.Test.YtnmpbjjppdkomaaStep
import Derived.Deep.DeepCutAuto
namespace Go.Proofs.Ytnmpbjjppdkomaa
open Go.RowKit

theorem Own.setBx {w : World} {e : TypeId} {base B : Nat} {v x y : Value} {xs : List Int} (h : Own w e base v xs) (hb : Bx w B x y) (he : e ≠ 28) (u u' : Value) : Own ((w.setCell ⟨B, 0, none⟩ u).setCell ⟨B, 1, none⟩ u') e base v xs := by
  obtain ⟨h0, h | ⟨g, cap, cur, rfl, hg, hh, r⟩⟩ := h
  · exact ⟨h0, .inl h⟩
  · have hne : g ≠ B := by
      intro e1
      subst e1
      unfold Bx at hb
      rw [hh] at hb
      injection hb with e2
      injection e2 with _ e3
      exact he e3
    exact ⟨h0, .inr ⟨g, cap, cur, rfl, hg, ((Below.heap_setCell _ ⟨B, 1, none⟩ u' g hne).trans (Below.heap_setCell w ⟨B, 0, none⟩ u g hne)).trans hh, r⟩⟩
theorem OwnG.setBx {w : World} {e : TypeId} {G n c B : Nat} {x y : Value} {xs : List Nat} (h : OwnG w e G n c xs) (hb : Bx w B x y) (he : e ≠ 28) (u u' : Value) : OwnG ((w.setCell ⟨B, 0, none⟩ u).setCell ⟨B, 1, none⟩ u') e G n c xs := by
  have hne : ¬ B = G := by
    intro e1
    subst e1
    obtain ⟨_, _, cur, hh, _⟩ := h
    unfold Bx at hb
    rw [hh] at hb
    injection hb with e2
    injection e2 with _ e3
    exact he e3
  exact (h.setOther hne 0 u).setOther hne 1 u'

theorem Bx.neG {w : World} {e : TypeId} {B G n c : Nat} {x y : Value} {xs : List Nat} (hb : Bx w B x y) (h : OwnG w e G n c xs) (he : e ≠ 28) : ¬ B = G := by
  intro e1
  subst e1
  obtain ⟨_, _, cur, hh, _⟩ := h
  unfold Bx at hb
  rw [hh] at hb
  injection hb with e2
  injection e2 with _ e3
  exact he e3

theorem fillN_set {n k : Nat} (x : Nat) (h : k < n) : (fillN n k x).set k x = fillN n (k + 1) x := by
  unfold fillN
  rw [List.set_append_right _ _ (by simp), List.length_replicate, Nat.sub_self, show n - k = (n - (k + 1)) + 1 by omega, List.replicate_succ (n := n - (k + 1)), List.set_cons_zero, List.replicate_succ' (n := k), List.append_assoc]
  rfl

/-- a pair of rows has been laid: the shape's copy, and a new row of noughts -/
structure Laid (w0 wx : World) (s : List Int) (n B : Nat) (a1 : Option Addr) (m1 c1 G : Nat) : Prop where
  bx : Bx wx B (.slice a1 m1 c1) (.slice (some ⟨G, 0, none⟩) n n)
  og : OwnG wx 44 G n n (List.replicate n 0)
  ow : Own wx 3 w0.heap.size (.slice a1 m1 c1) s
  kp : Kp w0 wx
  gG : w0.heap.size ≤ G
  gB : w0.heap.size ≤ B

section
variable {w0 w2 : World} {s : List Int} {n m1 c1 : Nat} {a1 : Option Addr}

theorem made_g (w : World) (h : n ≤ 4096) : OwnG (w.alloc (.cells (madeCells #[.float .f64 0] n) 44)) 44 w.heap.size n n (List.replicate n 0) :=
  (BlkF.made w 44 n).g (by simp) (by omega)

theorem laid1 (hn : n ≤ 4096) (O : Own w2 3 w0.heap.size (.slice a1 m1 c1) s) (K : Kp w0 w2) :
    Laid w0 ((w2.alloc (.cells (madeCells #[.float .f64 0] n) 44)).alloc (.cells #[.slice a1 m1 c1, .slice (some ⟨w2.heap.size, 0, none⟩) n n] 28)) s n (w2.heap.size + 1) a1 m1 c1 w2.heap.size := by
  refine ⟨?_, (made_g w2 hn).keep (Kp.alloc _ _), O.keep ((Kp.alloc _ _).trans (Kp.alloc _ _)), K.trans ((Kp.alloc _ _).trans (Kp.alloc _ _)), K.size, Nat.le_succ_of_le K.size⟩
  have := Bx.made (w2.alloc (.cells (madeCells #[.float .f64 0] n) 44)) (.slice a1 m1 c1) (.slice (some ⟨w2.heap.size, 0, none⟩) n n)
  rw [World.size_alloc] at this
  exact this
theorem laid2 (hn : n ≤ 4096) (O : Own w2 3 w0.heap.size (.slice a1 m1 c1) s) (K : Kp w0 w2) :
    Laid w0 ((w2.alloc (.cells #[.slice a1 m1 c1, .slice (some ⟨w2.heap.size + 1, 0, none⟩) n n] 28)).alloc (.cells (madeCells #[.float .f64 0] n) 44)) s n w2.heap.size a1 m1 c1 (w2.heap.size + 1) := by
  refine ⟨(Bx.made w2 _ _).keep (Kp.alloc _ _), ?_, O.keep ((Kp.alloc _ _).trans (Kp.alloc _ _)), K.trans ((Kp.alloc _ _).trans (Kp.alloc _ _)), Nat.le_succ_of_le K.size, K.size⟩
  have := made_g (w2.alloc (.cells #[.slice a1 m1 c1, .slice (some ⟨w2.heap.size + 1, 0, none⟩) n n] 28)) hn
  rw [World.size_alloc] at this
  exact this
theorem laid3 (hn : n ≤ 4096) (O : Own w2 3 w0.heap.size (.slice a1 m1 c1) s) (K : Kp w0 w2) (J : Kp (w0.alloc (.cells (madeCells #[.float .f64 0] n) 44)).drew w2) :
    Laid w0 (w2.alloc (.cells #[.slice a1 m1 c1, .slice (some ⟨w0.heap.size, 0, none⟩) n n] 28)) s n w2.heap.size a1 m1 c1 w0.heap.size :=
  ⟨Bx.made w2 _ _, (made_g w0 hn).keep ((Kp.drew _).trans (J.trans (Kp.alloc _ _))), O.keep (Kp.alloc _ _), K.trans (Kp.alloc _ _), Nat.le_refl _, K.size⟩
theorem laid4 (hn : n ≤ 4096) (O : Own w2 3 w0.heap.size (.slice a1 m1 c1) s) (K : Kp w0 w2) (J : Kp (w0.alloc (.cells #[.slice none 0 0, .slice none 0 0] 28)).drew w2) :
    Laid w0 (((w2.setCell ⟨w0.heap.size, 0, none⟩ (.slice a1 m1 c1)).setCell ⟨w0.heap.size, 1, none⟩ (.slice (some ⟨w2.heap.size, 0, none⟩) n n)).alloc (.cells (madeCells #[.float .f64 0] n) 44)) s n w0.heap.size a1 m1 c1 w2.heap.size := by
  have hb := (Bx.made w0 (.slice none 0 0) (.slice none 0 0)).keep ((Kp.drew _).trans J)
  refine ⟨(hb.set _ _).keep (Kp.alloc _ _), ?_, (O.setBx hb (by decide) _ _).keep (Kp.alloc _ _), ((K.set (Nat.le_refl _) (i := 0) _).set (Nat.le_refl _) (i := 1) _).trans (Kp.alloc _ _), K.size, Nat.le_refl _⟩
  have := made_g ((w2.setCell ⟨w0.heap.size, 0, none⟩ (.slice a1 m1 c1)).setCell ⟨w0.heap.size, 1, none⟩ (.slice (some ⟨w2.heap.size, 0, none⟩) n n)) hn
  rw [World.size_setCell, World.size_setCell] at this
  exact this
theorem laid5 (hn : n ≤ 4096) (O : Own w2 3 w0.heap.size (.slice a1 m1 c1) s) (K : Kp w0 w2) (J : Kp ((w0.alloc (.cells (madeCells #[.float .f64 0] n) 44)).alloc (.cells #[.slice none 0 0, .slice none 0 0] 28)).drew w2) :
    Laid w0 ((w2.setCell ⟨w0.heap.size + 1, 0, none⟩ (.slice a1 m1 c1)).setCell ⟨w0.heap.size + 1, 1, none⟩ (.slice (some ⟨w0.heap.size, 0, none⟩) n n)) s n (w0.heap.size + 1) a1 m1 c1 w0.heap.size := by
  have hb := (Bx.made (w0.alloc (.cells (madeCells #[.float .f64 0] n) 44)) (.slice none 0 0) (.slice none 0 0)).keep ((Kp.drew _).trans J)
  rw [World.size_alloc] at hb
  exact ⟨hb.set _ _, ((made_g w0 hn).keep ((Kp.alloc _ _).trans ((Kp.drew _).trans J))).setBx hb (by decide) _ _, O.setBx hb (by decide) _ _, (K.set (Nat.le_succ _) (i := 0) _).set (Nat.le_succ _) (i := 1) _, Nat.le_refl _, Nat.le_succ _⟩
theorem laid6 (hn : n ≤ 4096) (O : Own w2 3 w0.heap.size (.slice a1 m1 c1) s) (K : Kp w0 w2) (J : Kp ((w0.alloc (.cells #[.slice none 0 0, .slice none 0 0] 28)).alloc (.cells (madeCells #[.float .f64 0] n) 44)).drew w2) :
    Laid w0 ((w2.setCell ⟨w0.heap.size, 0, none⟩ (.slice a1 m1 c1)).setCell ⟨w0.heap.size, 1, none⟩ (.slice (some ⟨w0.heap.size + 1, 0, none⟩) n n)) s n w0.heap.size a1 m1 c1 (w0.heap.size + 1) := by
  have hb := (Bx.made w0 (.slice none 0 0) (.slice none 0 0)).keep ((Kp.alloc _ (.cells (madeCells #[.float .f64 0] n) 44)).trans ((Kp.drew _).trans J))
  have hg := (made_g (w0.alloc (.cells #[.slice none 0 0, .slice none 0 0] 28)) hn).keep ((Kp.drew _).trans J)
  rw [World.size_alloc] at hg
  exact ⟨hb.set _ _, hg.setBx hb (by decide) _ _, O.setBx hb (by decide) _ _, (K.set (Nat.le_refl _) (i := 0) _).set (Nat.le_refl _) (i := 1) _, Nat.le_succ _, Nat.le_refl _⟩
end

set_option maxHeartbeats 1000000 in
theorem rnew_yes (sv : Value) (s : List Int) (x : Nat) (w : World) (hs : Ints w sv s) (hm : mayB s = true) :
    Calls Try.prog 25 #[sv, .float .f64 x] w fun e w' => ∃ a1 n1 c1 G n, e = .returned (.tuple #[.agg #[.slice a1 n1 c1, .slice (some ⟨G, 0, none⟩) n n], .int .i64 0]) ∧ (n : Int) = prodL s ∧
      Own w' 3 w.heap.size (.slice a1 n1 c1) s ∧ w.heap.size ≤ G ∧ OwnG w' 44 G n n (List.replicate n x) ∧ Kp w w' := by
  have HS := hide hs
  have b1 : s.length ≤ 1000000 := by have := (may_good hm).1; omega
  have hz : szE s = 0 := szE_yes hm
  have hp := prodL_pos (may_good hm).2
  have hp' := may_prod hm
  obtain ⟨n, hn⟩ := Int.eq_ofNat_of_zero_le (show 0 ≤ prodL s by omega)
  have hz' : szN s = (n : Int) := (szN_yes hm).trans hn
  have n1 : 1 ≤ n := by omega
  have n2 : n ≤ 4096 := by omega
  have HN := hide hn.symm
  clear hs hm hp hp' hn
  have hmk := mk_flts n (by omega)
  go_enter Try.func25, Try.ntmps25
  go_wp2_with fail
  obtain ⟨W, hW, x2, k0⟩ := box_in w (.slice none 0 0) (.slice none 0 0)
  rw [← hW]
  clear hW
  have X2 := hide x2
  have K0 := hide k0
  clear x2 k0
  generalize hR : w.heap.size = R at X2 ⊢
  have hRS' : w.heap.size ≤ R := by omega
  clear hR
  refine (rsize_any _ s W ((unhide HS).keep (unhide K0))).mono ?_
  rw [hz, hz']
  clear hz hz'
  rintro e w1 ⟨rfl, k1⟩
  have K1 := hide ((unhide K0).trans k1)
  have Y2 := hide ((unhide X2).keep k1)
  clear k1 X2 K0
  have HS1 := hide ((unhide HS).keep (unhide K1))
  go_upto_region 4 with fail
  go_cut [8] (fun p wx => ∃ B a1 m1 c1 G, p = .pointer (some ⟨B, 0, none⟩) ∧ Hid (Laid w1 wx s n B a1 m1 c1 G))
  case first =>
    go_region_law (refine step_append_nil rfl (.const (.slice none 0 0)) (.tmp 19) 25 rfl 3 Try.infoInt Try.underlying25 sv s rfl (by simp [Act.eval, Act.put]) w1 (by first | exact Kp.drew w1 | exact (Kp.drew w1).trans (Kp.alloc _ _) | exact ((Kp.drew w1).trans (Kp.alloc _ _)).trans (Kp.alloc _ _)) (unhide HS1) b1 ?_; intro a1 m1 c1 w2 O1 J2 K2 f2 f3 f0 f1)
    all_goals (go_wp2_with fail; go_meet)
    all_goals exact ⟨_, _, _, _, _, rfl, by first
      | exact laid1 n2 (unhide O1) (unhide K2)
      | exact laid2 n2 (unhide O1) (unhide K2)
      | exact laid3 n2 (unhide O1) (unhide K2) (unhide J2)
      | exact laid4 n2 (unhide O1) (unhide K2) (unhide J2)
      | exact laid5 n2 (unhide O1) (unhide K2) (unhide J2)
      | exact laid6 n2 (unhide O1) (unhide K2) (unhide J2)⟩
  case rest =>
    obtain ⟨B, a1, m1, c1, G, rfl, L⟩ := hcut
    clear hmk HS HS1
    have hGB : ¬ B = G := (unhide L).bx.neG (unhide L).og (by decide)
    have hR1 := (unhide Y2).lt
    have hGR : ¬ R = G := by have := (unhide L).gG; omega
    have Z2 := hide ((unhide Y2).keep (unhide L).kp)
    have hst : ∀ (a : Addr) (x : Nat) (w : World), (store a (.float .f64 x)).run Try.prog w = stored Try.prog w a (.float .f64 x) .plain := fun a x w => run_store _ w a _ _ rfl
    go_wp2
    go_loopw [9] (fun i wr => ∃ k : Nat, k ≤ n ∧ i = .int .i64 k ∧ Hid (OwnG wr 44 G n n (fillN n k x)) ∧ Hid (Kx G wc wr)) (fun i _ => n - (intOf i).toNat)
    case atStart => exact ⟨0, Nat.zero_le _, rfl, by rw [fillN_zero]; exact (unhide L).og, Kx.refl _ _⟩
    case round wr =>
      obtain ⟨k, hk, rfl, OG, KR⟩ := hrel
      have yb := (unhide L).bx.keepx (unhide KR) hGB
      obtain ⟨p0, p1, -, -, -⟩ := yb.o
      clear yb
      by_cases hlt : k < n
      · have hck := (unhide OG).cell hlt
        have hz := (unhide OG).frozen k
        have OG' := hide ((unhide OG).set k x)
        rw [fillN_set x hlt] at OG'
        have KR' := hide ((unhide KR).set k (.float .f64 x))
        generalize (fillN n k x).getD k 0 = y at *
        go_wp2
        go_roundw
        case rel => exact ⟨k + 1, by omega, by go_num, unhide OG', unhide KR'⟩
        case measure => simp [intOf]; omega
      · obtain rfl : k = n := by omega
        rw [fillN_all] at OG
        have y2 := (unhide Z2).keepx (unhide KR) hGR
        obtain ⟨d0, d1, d2, d3, -⟩ := y2.o
        have z := y2.set (.slice a1 m1 c1) (.slice (some ⟨G, 0, none⟩) k k)
        obtain ⟨z0, z1, -, -, -⟩ := z.o
        have O3 := hide ((((unhide L).ow.keepx (unhide L).og (by decide) (unhide KR)).setBx y2 (by decide) (.slice a1 m1 c1) (.slice (some ⟨G, 0, none⟩) k k)).weak (unhide K1).size)
        have G3 := hide ((unhide OG).setBx y2 (by decide) (.slice a1 m1 c1) (.slice (some ⟨G, 0, none⟩) k k))
        have K3 := hide (((Kx.after ((unhide K1).trans (unhide L).kp) (unhide KR) (Nat.le_trans (unhide K1).size (unhide L).gG)).set hRS' (i := 0) (.slice a1 m1 c1)).set hRS' (i := 1) (.slice (some ⟨G, 0, none⟩) k k))
        have GS := hide (Nat.le_trans (unhide K1).size (unhide L).gG)
        clear z y2
        go_wp2
        generalize ((wr.setCell ⟨R, 0, none⟩ (.slice a1 m1 c1)).setCell ⟨R, 1, none⟩ (.slice (some ⟨G, 0, none⟩) k k)) = w9 at *
        refine bodyPost_ret (v := .tuple #[.agg #[.slice a1 m1 c1, .slice (some ⟨G, 0, none⟩) k k], .int .i64 0]) (by simp [results, Try.results25, go_sem, z0, z1]) rfl ⟨a1, m1, c1, G, k, rfl, unhide HN, unhide O3, unhide GS, unhide G3, unhide K3⟩

set_option maxHeartbeats 400000 in
theorem rnew_no (sv : Value) (s : List Int) (x : Nat) (w : World) (hs : Ints w sv s) (hm : mayB s = false) :
    Calls Try.prog 25 #[sv, .float .f64 x] w fun e w' => e = .returned (.tuple #[.agg #[.slice none 0 0, .slice none 0 0], .int .i64 (szE s)]) ∧ Kp w w' := by
  have HS := hide hs
  have z := szE_ne hm
  clear hs hm
  go_enter Try.func25, Try.ntmps25
  go_wp2_with fail
  obtain ⟨W, hW, x2, k0⟩ := box_in w (.slice none 0 0) (.slice none 0 0)
  rw [← hW]
  clear hW
  have X2 := hide x2
  have K0 := hide k0
  clear x2 k0
  generalize hR : w.heap.size = R at X2 ⊢
  have hRS' : w.heap.size ≤ R := by omega
  clear hR
  refine (rsize_any _ s W ((unhide HS).keep (unhide K0))).mono ?_
  rintro e w1 ⟨rfl, k1⟩
  have x3 := (unhide X2).keep k1
  obtain ⟨d0, d1, d2, d3, -⟩ := x3.o
  have K1 := hide ((unhide K0).trans k1)
  have z2 := x3.set (.slice none 0 0) (.slice none 0 0)
  clear k1 x3
  obtain ⟨z0, z1, -, -, -⟩ := z2.o
  clear z2
  generalize hq : szE s = q at z ⊢
  have HQ := hide hq
  clear hq
  generalize szN s = q' at *
  go_wp2
  have KF := hide (((unhide K1).set hRS' (i := 0) (.slice none 0 0)).set hRS' (i := 1) (.slice none 0 0))
  generalize ((w1.setCell ⟨R, 0, none⟩ (.slice none 0 0)).setCell ⟨R, 1, none⟩ (.slice none 0 0)) = w9 at *
  refine bodyPost_ret (v := .tuple #[.agg #[.slice none 0 0, .slice none 0 0], .int .i64 q]) (by simp [results, Try.results25, go_sem, z0, z1]) rfl ⟨by rw [unhide HQ], unhide KF⟩

end Go.Proofs.Ytnmpbjjppdkomaa
