
/- Contracts of the document's own Turn and Sum. -/
import Derived.Test.YtgdmhmnmhfpkkaaMatF
import Derived.Test.YtgdmhmnmhfpkkaaRealD
import Derived.Deep.DeepCutAuto
namespace Go.Proofs.Ytgdmhmnmhfpkkaa
open Go.RowKit

/-- so many numbers have been laid, row by row -/
def tfill (p m : Nat) (d : List Nat) (t : Nat) : List Nat := (List.range (m * p)).map (fun q => if (q % p) * m + q / p < t then turnAt p m d q else 0)
theorem tfill_length (p m : Nat) (d : List Nat) (t : Nat) : (tfill p m d t).length = m * p := by simp [tfill]
theorem tfill_zero (p m : Nat) (d : List Nat) : tfill p m d 0 = List.replicate (m * p) 0 := by
  apply List.ext_getElem
  · simp [tfill]
  · intro q h1 h2
    simp [tfill]
theorem quo_lt {p m q : Nat} (h : q < m * p) : q % p < p ∧ q / p < m := by
  have hp : 0 < p := Nat.pos_of_ne_zero (by rintro rfl; simp at h)
  exact ⟨Nat.mod_lt _ hp, Nat.div_lt_of_lt_mul (by rw [Nat.mul_comm]; exact h)⟩
theorem tfill_all (p m : Nat) (d : List Nat) : tfill p m d (p * m) = turnD p m d := by
  unfold tfill turnD
  apply List.map_congr_left
  intro q hq
  rw [List.mem_range] at hq
  rw [if_pos (inrow (quo_lt hq).1 (quo_lt hq).2)]
theorem lex_inj {i k i' k' m : Nat} (hk : k < m) (hk' : k' < m) (h : i * m + k = i' * m + k') : i = i' ∧ k = k' := by
  have h1 := divs (k := i) hk
  have h2 := divs (k := i') hk'
  rw [h] at h1
  exact ⟨h1.1.symm.trans h2.1, h1.2.symm.trans h2.2⟩
theorem tfill_set {p m i k : Nat} {d : List Nat} (hi : i < p) (hk : k < m) : (tfill p m d (i * m + k)).set (k * p + i) (d.getD (i * m + k) 0) = tfill p m d (i * m + k + 1) := by
  apply getD_ext (by simp [tfill])
  intro q hq
  rw [List.length_set, tfill_length] at hq
  obtain ⟨q1, q2⟩ := quo_lt hq
  have eR : (tfill p m d (i * m + k + 1)).getD q 0 = if (q % p) * m + q / p < i * m + k + 1 then turnAt p m d q else 0 := range_getD hq
  have eL : (tfill p m d (i * m + k)).getD q 0 = if (q % p) * m + q / p < i * m + k then turnAt p m d q else 0 := range_getD hq
  rw [eR]
  by_cases e : q = k * p + i
  · subst e
    rw [List.getD_eq_getElem?_getD, List.getElem?_set_self (by rw [tfill_length]; exact hq), (divs hi).1, (divs hi).2, if_pos (by omega), turnAt_at hi]
    rfl
  · rw [List.getD_eq_getElem?_getD, List.getElem?_set_ne (fun h => e h.symm), ← List.getD_eq_getElem?_getD, eL]
    have hne : ¬ (q % p) * m + q / p = i * m + k := by
      intro h
      obtain ⟨a, b⟩ := lex_inj q2 hk h
      apply e
      have := Nat.div_add_mod q p
      rw [← a, ← b, Nat.mul_comm (q / p) p]
      omega
    by_cases h : (q % p) * m + q / p < i * m + k
    · rw [if_pos h, if_pos (by omega)]
    · rw [if_neg h, if_neg (by omega)]

theorem wrap_64 {n : Int} (h0 : 0 ≤ n) (h1 : n < 9223372036854775808) : IntKind.i64.wrap n = n := by
  simp [IntKind.wrap, IntKind.bits, IntKind.signed]
  omega
theorem laid_new {w0 w2 : World} {s : List Int} {n m1 c1 G b : Nat} {a1 : Option Addr} (O : Own w2 3 b (.slice a1 m1 c1) s) (hb : w0.heap.size ≤ b) (OG : OwnG w2 42 G n n (List.replicate n 0)) (hG : b ≤ G) (K : Kp w0 w2) :
    Laid w0 (w2.alloc (.cells #[.slice a1 m1 c1, .slice (some ⟨G, 0, none⟩) n n] 25)) s n w2.heap.size a1 m1 c1 G :=
  ⟨Bx.made w2 _ _, OG.keep (Kp.alloc _ _), (O.weak hb).keep (Kp.alloc _ _), K.trans (Kp.alloc _ _), Nat.le_trans hb hG, K.size⟩
theorem laid_set {w0 w2 : World} {s : List Int} {n m1 c1 G b T : Nat} {a1 : Option Addr} {x y : Value} (hx : Bx w2 T x y) (hT : w0.heap.size ≤ T) (O : Own w2 3 b (.slice a1 m1 c1) s) (hb : w0.heap.size ≤ b) (OG : OwnG w2 42 G n n (List.replicate n 0)) (hG : b ≤ G) (K : Kp w0 w2) :
    Laid w0 ((w2.setCell ⟨T, 0, none⟩ (.slice a1 m1 c1)).setCell ⟨T, 1, none⟩ (.slice (some ⟨G, 0, none⟩) n n)) s n T a1 m1 c1 G :=
  ⟨hx.set _ _, OG.setBx hx (by decide) _ _, (O.weak hb).setBx hx (by decide) _ _, (K.set hT (i := 0) _).set hT (i := 1) _, Nat.le_trans hb hG, hT⟩

set_option maxHeartbeats 1000000 in
theorem rturn_no (sv dv : Value) (f : List Int) (d : List Nat) (w : World) (h1 : Ints w sv f) (hd : Flts w dv d) (hm : matB f d = false) :
    Calls Try.prog 14 #[.agg #[sv, dv]] w fun ee w' => ee = .returned (.tuple #[.agg #[.slice none 0 0, .slice none 0 0], .int .i64 2]) ∧ Kp w w' := by
  have H1 := hide h1
  have D1 := hide hd
  have hfr := h1.room
  obtain ⟨aS, cS, rfl, -⟩ := h1.val
  clear h1 hd
  go_enter Try.func14, Try.ntmps14
  go_wp2_with fail
  obtain ⟨W, hW, x1, x2, k0⟩ := boxes_in w (.slice aS f.length cS) dv (.slice none 0 0) (.slice none 0 0)
  rw [← hW]
  clear hW
  have X1 := hide x1
  have X2 := hide x2
  have K0 := hide k0
  clear x1 x2 k0
  have hRS : Hid (w.heap.size ≤ w.heap.size + 1) := Nat.le_succ _
  generalize w.heap.size + 1 = R at X2 hRS ⊢
  generalize w.heap.size = B at X1 ⊢
  obtain ⟨c0, c1, -, -, -⟩ := (unhide X1).o
  try go_wp2_with fail
  refine (rmayT_any _ _ f d W ((unhide H1).keep (unhide K0)) ((unhide D1).keep (unhide K0))).mono ?_
  rintro ee w1 ⟨rfl, k1⟩
  clear c0 c1
  obtain ⟨c0, c1, -, -, -⟩ := ((unhide X1).keep k1).o
  have x3 := (unhide X2).keep k1
  obtain ⟨d0, d1, d2, d3, -⟩ := x3.o
  have K1 := hide ((unhide K0).trans k1)
  have z2 := x3.set (.slice none 0 0) (.slice none 0 0)
  clear k1 x3
  obtain ⟨z0, z1, -, -, -⟩ := z2.o
  clear z2
  have KF := hide (((unhide K1).set (unhide hRS) (i := 0) (.slice none 0 0)).set (unhide hRS) (i := 1) (.slice none 0 0))
  cases hmt : mayT f d
  · clear hm hmt
    go_wp2
    generalize ((w1.setCell ⟨R, 0, none⟩ (.slice none 0 0)).setCell ⟨R, 1, none⟩ (.slice none 0 0)) = w9 at *
    refine bodyPost_ret (v := .tuple #[.agg #[.slice none 0 0, .slice none 0 0], .int .i64 2]) (by simp [results, Try.results14, go_sem, z0, z1]) rfl ⟨rfl, unhide KF⟩
  · have hl : ((f.length : Int) != 2) = true := by
      unfold matB at hm
      rw [hmt, Bool.true_and] at hm
      rw [bne, hm]
      rfl
    clear hm hmt
    go_wp2
    generalize ((w1.setCell ⟨R, 0, none⟩ (.slice none 0 0)).setCell ⟨R, 1, none⟩ (.slice none 0 0)) = w9 at *
    refine bodyPost_ret (v := .tuple #[.agg #[.slice none 0 0, .slice none 0 0], .int .i64 2]) (by simp [results, Try.results14, go_sem, z0, z1]) rfl ⟨rfl, unhide KF⟩

set_option maxHeartbeats 4000000 in
theorem rturn_yes (sv dv : Value) (p m : Nat) (d : List Nat) (w : World) (h1 : Ints w sv [(p : Int), (m : Int)]) (hd : Flts w dv d) (p1 : 1 ≤ p) (m1 : 1 ≤ m) (dl : d.length = p * m) (dm : p * m ≤ 4096) :
    Calls Try.prog 14 #[.agg #[sv, dv]] w fun ee w' => ∃ a1 n1 c1 G c, ee = .returned (.tuple #[.agg #[.slice a1 n1 c1, .slice (some ⟨G, 0, none⟩) (turnD p m d).length c], .int .i64 0]) ∧ Fin w w' [(m : Int), (p : Int)] a1 n1 c1 G c (turnD p m d) := by
  have H1 := hide h1
  have D1 := hide hd
  have HM : Hid (mayT [(p : Int), (m : Int)] d = true) := mayT_two p1 m1 dl dm
  have pm : p ≤ 4096 := le_mul_l m1 dm
  have mm : m ≤ 4096 := le_mul_r p1 dm
  have MB : Hid (mayB [(m : Int), (p : Int)] = true) := by unfold Hid; rw [may_two m1 p1]; exact decide_eq_true (by rw [Nat.mul_comm]; exact dm)
  obtain ⟨bs, os, cS, rfl, hbs, hs0, hs1⟩ := h1.two
  obtain ⟨aD, cD, rfl, hv⟩ := hd.val
  obtain ⟨b, off, rfl, hb, hc⟩ := hv (by rw [dl]; have := Nat.mul_le_mul p1 m1; omega)
  have HC := hide hc
  have DL := hide dl
  have DM := hide dm
  have hdl : d.length ≤ 4096 := by omega
  generalize hnD : d.length = nD at *
  clear h1 hd dl dm hnD hv hc
  go_enter Try.func14, Try.ntmps14
  go_wp2_with fail
  obtain ⟨W, hW, x1, x2, k0⟩ := boxes_in w (.slice (some ⟨bs, os, none⟩) 2 cS) (.slice (some ⟨b, off, none⟩) nD cD) (.slice none 0 0) (.slice none 0 0)
  rw [← hW]
  clear hW
  have X1 := hide x1
  have X2 := hide x2
  have K0 := hide k0
  clear x1 x2 k0
  have hRS : Hid (w.heap.size ≤ w.heap.size + 1) := Nat.le_succ _
  generalize w.heap.size + 1 = R at X2 hRS ⊢
  generalize w.heap.size = B at X1 ⊢
  obtain ⟨c0, c1, -, -, -⟩ := (unhide X1).o
  try go_wp2_with fail
  refine (rmayT_any _ _ [(p : Int), (m : Int)] d W ((unhide H1).keep (unhide K0)) ((unhide D1).keep (unhide K0))).mono ?_
  rw [unhide HM]
  rintro ee w1 ⟨rfl, k1⟩
  clear c0 c1
  have Y1 := hide ((unhide X1).keep k1)
  have Y2 := hide ((unhide X2).keep k1)
  have K1 := hide ((unhide K0).trans k1)
  obtain ⟨c0, c1, -, -, c4⟩ := (unhide Y1).o
  have s0 := (Below.cell (unhide K1) (p := ⟨bs, os, none⟩) hbs).trans hs0
  have s1 := (Below.cell (unhide K1) (p := ⟨bs, os + 1, none⟩) hbs).trans hs1
  have s4 : bs < w1.heap.size := Nat.lt_of_lt_of_le hbs (unhide K1).size
  clear k1 X1 X2 K0 H1 D1 HM
  have CL : Hid (∀ w0, Kp w1 w0 → BxO w0 B (.slice (some ⟨bs, os, none⟩) 2 cS) (.slice (some ⟨b, off, none⟩) nD cD) ∧ w0.cell? ⟨bs, os, none⟩ = some (.int .i64 (p : Int)) ∧ w0.cell? ⟨bs, os + 1, none⟩ = some (.int .i64 (m : Int)) ∧ bs < w0.heap.size) := by
    intro w0 k
    exact ⟨((unhide Y1).keep k).o, (Below.cell k (p := ⟨bs, os, none⟩) s4).trans s0, (Below.cell k (p := ⟨bs, os + 1, none⟩) s4).trans s1, Nat.lt_of_lt_of_le s4 k.size⟩
  have C1 := hide (fun w0 (k : Kp w1 w0) L (hi : Ints w0 (.slice (some ⟨L, 0, none⟩) 2 2) [(m : Int), (p : Int)]) => (rnew_yes (.slice (some ⟨L, 0, none⟩) 2 2) [(m : Int), (p : Int)] 0 w0 hi (unhide MB)).mono (R' := fun ee w' => ∃ a1 n1 c1 G, ee = .returned (.tuple #[.agg #[.slice a1 n1 c1, .slice (some ⟨G, 0, none⟩) (m * p) (m * p)], .int .i64 0]) ∧ Hid (Own w' 3 w0.heap.size (.slice a1 n1 c1) [(m : Int), (p : Int)]) ∧ Hid (w0.heap.size ≤ G ∧ OwnG w' 42 G (m * p) (m * p) (List.replicate (m * p) 0)) ∧ Hid (Kp w0 w') ∧ Hid (Kp w1 w0) ∧ BxO w' B (.slice (some ⟨bs, os, none⟩) 2 cS) (.slice (some ⟨b, off, none⟩) nD cD) ∧ w'.cell? ⟨bs, os, none⟩ = some (.int .i64 (p : Int)) ∧ w'.cell? ⟨bs, os + 1, none⟩ = some (.int .i64 (m : Int)) ∧ bs < w'.heap.size) (by
    rintro ee w' ⟨a1, n1, c1, G, n, rfl, hn, o1, hG, og, k'⟩
    rw [prodL_two] at hn
    obtain rfl : n = m * p := by omega
    exact ⟨a1, n1, c1, G, rfl, o1, ⟨hG, og⟩, k', k, unhide CL w' (k.trans k')⟩))
  have LI : Hid (∀ w0 : World, Ints (w0.alloc (.cells #[.int .i64 (m : Int), .int .i64 (p : Int)] 3)) (.slice (some ⟨w0.heap.size, 0, none⟩) 2 2) [(m : Int), (p : Int)]) := fun w0 => lit_ints w0 3 [(m : Int), (p : Int)] #[.int .i64 (m : Int), .int .i64 (p : Int)] w0.heap.size 2 rfl rfl rfl (i64_two mm pm) (by decide)
  have LI2 : Hid (Ints ((w1.alloc (.cells #[.slice none 0 0, .slice none 0 0] 25)).alloc (.cells #[.int .i64 (m : Int), .int .i64 (p : Int)] 3)) (.slice (some ⟨w1.heap.size + 1, 0, none⟩) 2 2) [(m : Int), (p : Int)]) := by
    have := unhide LI (w1.alloc (.cells #[.slice none 0 0, .slice none 0 0] 25))
    rw [World.size_alloc] at this
    exact this
  have nB0 : ¬ B = w1.heap.size := by omega
  have nB1 : ¬ B = w1.heap.size + 1 := by omega
  have nb0 : ¬ bs = w1.heap.size := by omega
  have nb1 : ¬ bs = w1.heap.size + 1 := by omega
  have hB0 : ∀ (w : World) (v : Value) (o j : Nat), (w.setCell ⟨w1.heap.size, j, none⟩ v).cell? ⟨B, o, none⟩ = w.cell? ⟨B, o, none⟩ := fun w v o j => cell_other nB0 w v
  have hB1 : ∀ (w : World) (v : Value) (o j : Nat), (w.setCell ⟨w1.heap.size + 1, j, none⟩ v).cell? ⟨B, o, none⟩ = w.cell? ⟨B, o, none⟩ := fun w v o j => cell_other nB1 w v
  have hb0 : ∀ (w : World) (v : Value) (o j : Nat), (w.setCell ⟨w1.heap.size, j, none⟩ v).cell? ⟨bs, o, none⟩ = w.cell? ⟨bs, o, none⟩ := fun w v o j => cell_other nb0 w v
  have hb1 : ∀ (w : World) (v : Value) (o j : Nat), (w.setCell ⟨w1.heap.size + 1, j, none⟩ v).cell? ⟨bs, o, none⟩ = w.cell? ⟨bs, o, none⟩ := fun w v o j => cell_other nb1 w v
  clear nB0 nB1 nb0 nb1
  go_upto_region 3 with fail
  go_cut [4] (fun t wx => ∃ T a1 m1' c1 G, t = .pointer (some ⟨T, 0, none⟩) ∧ Hid (Laid w1 wx [(m : Int), (p : Int)] (m * p) T a1 m1' c1 G))
  case first =>
    go_region_held3 (fun w' => w'.cell? ⟨B, 0, none⟩ = some (.slice (some ⟨bs, os, none⟩) 2 cS) ∧ w'.cell? ⟨bs, os, none⟩ = some (.int .i64 (p : Int)) ∧ w'.cell? ⟨bs, os + 1, none⟩ = some (.int .i64 (m : Int))) (go_keep)
      (first
        | (go_at_call 21; refine ((unhide C1) _ ?_ _ ?_).mono ?_; (first | exact (Kp.alloc w1 (.cells #[.int .i64 (m : Int), .int .i64 (p : Int)] 3)).trans (Kp.drew _) | exact ((Kp.alloc w1 (.cells #[.int .i64 (m : Int), .int .i64 (p : Int)] 3)).trans (Kp.alloc _ (.cells #[.slice none 0 0, .slice none 0 0] 25))).trans (Kp.drew _) | exact ((Kp.alloc w1 (.cells #[.slice none 0 0, .slice none 0 0] 25)).trans (Kp.alloc _ (.cells #[.int .i64 (m : Int), .int .i64 (p : Int)] 3))).trans (Kp.drew _)); (first | exact (unhide LI _).keep (Kp.drew _) | exact (unhide LI2).keep (Kp.drew _) | exact ((unhide LI w1).keep (Kp.alloc _ (.cells #[.slice none 0 0, .slice none 0 0] 25))).keep (Kp.drew _)); rintro ee w2 ⟨a1, n1, c1', G, rfl, O2, G2, J2, K2, ⟨c0, c1, -, -, c4⟩, s0, s1, s4⟩; (first
            | (have tb := (Bx.madeAt (w1.alloc (.cells #[.int .i64 (m : Int), .int .i64 (p : Int)] 3)) (.slice none 0 0) (.slice none 0 0) (w1.heap.size + 1) (by simp)).keep ((Kp.drew ((w1.alloc (.cells #[.int .i64 (m : Int), .int .i64 (p : Int)] 3)).alloc (.cells #[.slice none 0 0, .slice none 0 0] 25))).trans (unhide J2)); have TB := hide tb; obtain ⟨t0, t1, t2, t3, t4⟩ := tb.o; clear tb)
            | (have tb := (Bx.madeAt w1 (.slice none 0 0) (.slice none 0 0) w1.heap.size rfl).keep ((Kp.alloc (w1.alloc (.cells #[.slice none 0 0, .slice none 0 0] 25)) (.cells #[.int .i64 (m : Int), .int .i64 (p : Int)] 3)).trans ((Kp.drew _).trans (unhide J2))); have TB := hide tb; obtain ⟨t0, t1, t2, t3, t4⟩ := tb.o; clear tb)
            | skip)))
    all_goals (go_wp2_with fail; go_meet)
    all_goals exact ⟨_, _, _, _, _, rfl, by first
      | exact laid_new (unhide O2) (unhide K2).size (unhide G2).2 (unhide G2).1 ((unhide K2).trans (unhide J2))
      | exact laid_set (unhide TB) (by omega) (unhide O2) (unhide K2).size (unhide G2).2 (unhide G2).1 ((unhide K2).trans (unhide J2))⟩
  case rest =>
    obtain ⟨T, a1, m1', c1', G, rfl, LD⟩ := hcut
    clear C1 LI LI2 hB0 hB1 hb0 hb1 CL
    have hTG : ¬ T = G := (unhide LD).bx.neG (unhide LD).og (by decide)
    have hGw : Hid (w1.heap.size ≤ G) := (unhide LD).gG
    have hBG : ¬ B = G := by have := unhide hGw; omega
    have hsG : ¬ bs = G := by have := unhide hGw; omega
    have hRG : ¬ R = G := by have := unhide hGw; have := (unhide Y2).lt; omega
    have hbw : b < w1.heap.size := Nat.lt_of_lt_of_le hb (unhide K1).size
    have hbG : ¬ b = G := by have := unhide hGw; omega
    have KC := hide (unhide LD).kp
    have bB : B < wc.heap.size := Nat.lt_of_lt_of_le c4 (unhide KC).size
    have bS : bs < wc.heap.size := Nat.lt_of_lt_of_le s4 (unhide KC).size
    have bb : b < wc.heap.size := Nat.lt_of_lt_of_le hbw (unhide KC).size
    have cc0 := (Below.cell (unhide KC) (p := ⟨B, 0, none⟩) c4).trans c0
    have cc1 := (Below.cell (unhide KC) (p := ⟨B, 1, none⟩) c4).trans c1
    have ss0 := (Below.cell (unhide KC) (p := ⟨bs, os, none⟩) s4).trans s0
    have ss1 := (Below.cell (unhide KC) (p := ⟨bs, os + 1, none⟩) s4).trans s1
    have CELLS : Hid (∀ wr, Kx G wc wr → wr.cell? ⟨B, 0, none⟩ = some (.slice (some ⟨bs, os, none⟩) 2 cS) ∧ wr.cell? ⟨B, 1, none⟩ = some (.slice (some ⟨b, off, none⟩) nD cD) ∧ wr.cell? ⟨bs, os, none⟩ = some (.int .i64 (p : Int)) ∧ wr.cell? ⟨bs, os + 1, none⟩ = some (.int .i64 (m : Int)) ∧ ∀ i, i < nD → wr.cell? ⟨b, off + i, none⟩ = some (.float .f64 (d.getD i 0))) := by
      intro wr k
      exact ⟨(k.cell (p := ⟨B, 0, none⟩) bB hBG).trans cc0, (k.cell (p := ⟨B, 1, none⟩) bB hBG).trans cc1, (k.cell (p := ⟨bs, os, none⟩) bS hsG).trans ss0, (k.cell (p := ⟨bs, os + 1, none⟩) bS hsG).trans ss1, fun i hi => (k.cell (p := ⟨b, off + i, none⟩) bb hbG).trans ((Below.cell (unhide KC) (p := ⟨b, off + i, none⟩) hbw).trans ((Below.cell (unhide K1) (p := ⟨b, off + i, none⟩) hb).trans (unhide HC i hi)))⟩
    have hst : ∀ (a : Addr) (x : Nat) (w : World), (store a (.float .f64 x)).run Try.prog w = stored Try.prog w a (.float .f64 x) .plain := fun a x w => run_store _ w a _ _ rfl
    clear cc0 cc1 ss0 ss1 c0 c1 s0 s1
    go_wp2
    go_loopw [6] (fun i wr => ∃ k : Nat, k ≤ p ∧ i = .int .i64 k ∧ Hid (OwnG wr 42 G (m * p) (m * p) (tfill p m d (k * m))) ∧ Hid (Kx G wc wr)) (fun i _ => p - (intOf i).toNat)
    case atStart => exact ⟨0, Nat.zero_le _, rfl, by rw [Nat.zero_mul, tfill_zero]; exact (unhide LD).og, Kx.refl _ _⟩
    case round =>
      obtain ⟨k, hk, rfl, OG, KR⟩ := hrel
      generalize wr = w3 at *
      obtain ⟨c0, c1, s0, s1, -⟩ := unhide CELLS w3 (unhide KR)
      by_cases hlt : k < p
      · have hltI : (k : Int) < (p : Int) := by omega
        go_wp2
        clear c0 c1 s0 s1
        go_loopw [7] (fun i wr => ∃ j : Nat, j ≤ m ∧ i = .int .i64 j ∧ Hid (OwnG wr 42 G (m * p) (m * p) (tfill p m d (k * m + j))) ∧ Hid (Kx G wc wr)) (fun i _ => m - (intOf i).toNat)
        case atStart => exact ⟨0, Nat.zero_le _, rfl, unhide OG, unhide KR⟩
        case round =>
          clear OG KR
          obtain ⟨j, hj, rfl, OG, KR⟩ := hrel
          generalize wr = w4 at *
          obtain ⟨c0, c1, s0, s1, sd⟩ := unhide CELLS w4 (unhide KR)
          by_cases hlj : j < m
          · have hltJ : (j : Int) < (m : Int) := by omega
            have q1 : k * m + j < nD := by rw [unhide DL]; exact inrow hlt hlj
            have q2 : j * p + k < m * p := inrow hlj hlt
            have hck := sd (k * m + j) q1
            have i0 : (k : Int) * (m : Int) = ((k * m : Nat) : Int) := by simp
            have j0 : (j : Int) * (p : Int) = ((j * p : Nat) : Int) := by simp
            have mp : m * p ≤ 4096 := by rw [Nat.mul_comm]; exact unhide DM
            have i1 : 0 ≤ (k : Int) * (m : Int) := by rw [i0]; omega
            have i2 : (k : Int) * (m : Int) ≤ 4096 := by rw [i0]; omega
            have j1 : 0 ≤ (j : Int) * (p : Int) := by rw [j0]; omega
            have j2 : (j : Int) * (p : Int) ≤ 4096 := by rw [j0]; omega
            have hi1 : 0 ≤ (k : Int) * (m : Int) + (j : Int) := by omega
            have hi2 : (k : Int) * (m : Int) + (j : Int) < (nD : Int) := by rw [i0]; omega
            have hi3 : ((k : Int) * (m : Int) + (j : Int)).toNat = k * m + j := by rw [i0]; omega
            have hj1 : 0 ≤ (j : Int) * (p : Int) + (k : Int) := by omega
            have hj2 : (j : Int) * (p : Int) + (k : Int) < ((m * p : Nat) : Int) := by rw [j0]; omega
            have k0 : (m : Int) * (p : Int) = ((m * p : Nat) : Int) := by simp
            have hj2' : (j : Int) * (p : Int) + (k : Int) < (m : Int) * (p : Int) := by rw [j0, k0]; omega
            have hj3 : ((j : Int) * (p : Int) + (k : Int)).toNat = j * p + k := by rw [j0]; omega
            have tb := (unhide LD).bx.keepx (unhide KR) hTG
            obtain ⟨t0, t1, -, -, -⟩ := tb.o
            have hgc := (unhide OG).cell q2
            have hgf := (unhide OG).frozen (j * p + k)
            have OS := hide ((unhide OG).set (j * p + k) (d.getD (k * m + j) 0))
            rw [tfill_set hlt hlj] at OS
            have OS' : Hid (OwnG (w4.setCell ⟨G, j * p + k, none⟩ (.float .f64 (d.getD (k * m + j) 0))).drew 42 G (m * p) (m * p) (tfill p m d (k * m + j + 1))) := (unhide OS).keep (Kp.drew _)
            have KS : Hid (Kx G wc (w4.setCell ⟨G, j * p + k, none⟩ (.float .f64 (d.getD (k * m + j) 0))).drew) := ((unhide KR).set (j * p + k) (.float .f64 (d.getD (k * m + j) 0))).kp (Kp.drew _)
            have hs1' : ∀ (w : World) (v : Value) (o j : Nat), (w.setCell ⟨G, j, none⟩ v).cell? ⟨B, o, none⟩ = w.cell? ⟨B, o, none⟩ := fun w v o j => cell_other hBG w v
            have hs2' : ∀ (w : World) (v : Value) (o j : Nat), (w.setCell ⟨G, j, none⟩ v).cell? ⟨bs, o, none⟩ = w.cell? ⟨bs, o, none⟩ := fun w v o j => cell_other hsG w v
            have hs3' : ∀ (w : World) (v : Value) (o j : Nat), (w.setCell ⟨G, j, none⟩ v).cell? ⟨T, o, none⟩ = w.cell? ⟨T, o, none⟩ := fun w v o j => cell_other hTG w v
            have hs4' : ∀ (w : World) (v : Value) (o j : Nat), (w.setCell ⟨G, j, none⟩ v).cell? ⟨b, o, none⟩ = w.cell? ⟨b, o, none⟩ := fun w v o j => cell_other hbG w v
            have hw1 : IntKind.i64.wrap ((k : Int) * (m : Int)) = (k : Int) * (m : Int) := wrap_64 i1 (by omega)
            have hw2 : IntKind.i64.wrap ((k : Int) * (m : Int) + (j : Int)) = (k : Int) * (m : Int) + (j : Int) := wrap_64 hi1 (by omega)
            have hw3 : IntKind.i64.wrap ((j : Int) * (p : Int)) = (j : Int) * (p : Int) := wrap_64 j1 (by omega)
            have hw4 : IntKind.i64.wrap ((j : Int) * (p : Int) + (k : Int)) = (j : Int) * (p : Int) + (k : Int) := wrap_64 hj1 (by omega)
            clear i0 j0 k0 OS tb sd
            generalize (tfill p m d (k * m + j)).getD (j * p + k) 0 = old at *
            generalize d.getD (k * m + j) 0 = x at *
            go_upto_region 10 with fail
            go_region_held3 (fun w' => w'.cell? ⟨B, 0, none⟩ = some (.slice (some ⟨bs, os, none⟩) 2 cS) ∧ w'.cell? ⟨B, 1, none⟩ = some (.slice (some ⟨b, off, none⟩) nD cD) ∧ w'.cell? ⟨bs, os, none⟩ = some (.int .i64 (p : Int)) ∧ w'.cell? ⟨bs, os + 1, none⟩ = some (.int .i64 (m : Int)) ∧ w'.cell? ⟨T, 1, none⟩ = some (.slice (some ⟨G, 0, none⟩) (m * p) (m * p)) ∧ w'.cell? ⟨b, off + (k * m + j), none⟩ = some (.float .f64 x)) (go_keep) (fail)
            all_goals (
              clear c0 c1 s0 s1 t0 t1 hgc hgf hck hs1' hs2' hs3' hs4'
              generalize (w4.setCell { block := G, off := j * p + k } (Value.float FloatKind.f64 x)).drew = w5 at *)
            all_goals (
              go_wp2
              go_roundw
              case rel => exact ⟨j + 1, by omega, by go_num, unhide OS', unhide KS⟩
              case measure => simp [intOf]; omega)
          · obtain rfl : j = m := by omega
            have hltJ : ¬ (j : Int) < (j : Int) := by omega
            have ER : Hid (k * j + j = (k + 1) * j) := by unfold Hid; rw [Nat.add_mul, Nat.one_mul]
            rw [unhide ER] at OG
            clear sd
            go_wp2
            go_roundw
            case rel => exact ⟨k + 1, by omega, by go_num, unhide OG, unhide KR⟩
            case measure => simp [intOf]; omega
      · obtain rfl : k = p := by omega
        rw [tfill_all] at OG
        have y2 := ((unhide Y2).keep (unhide KC)).keepx (unhide KR) hRG
        obtain ⟨d0, d1, d2, d3, -⟩ := y2.o
        have tb := (unhide LD).bx.keepx (unhide KR) hTG
        obtain ⟨t0, t1, -, -, -⟩ := tb.o
        have z := y2.set (.slice a1 m1' c1') (.slice (some ⟨G, 0, none⟩) (m * k) (m * k))
        obtain ⟨z0, z1, -, -, -⟩ := z.o
        have FN : Hid (Fin w ((w3.setCell ⟨R, 0, none⟩ (.slice a1 m1' c1')).setCell ⟨R, 1, none⟩ (.slice (some ⟨G, 0, none⟩) (m * k) (m * k))) [(m : Int), (k : Int)] a1 m1' c1' G (m * k) (turnD k m d)) := by
          refine ⟨(((unhide LD).ow.weak (unhide K1).size).keepx (unhide LD).og (by decide) (unhide KR)).setBx y2 (by decide) _ _, Nat.le_trans (unhide K1).size (unhide hGw), ?_, ((Kx.after ((unhide K1).trans (unhide KC)) (unhide KR) (Nat.le_trans (unhide K1).size (unhide hGw))).set (unhide hRS) (i := 0) _).set (unhide hRS) (i := 1) _⟩
          have := (unhide OG).setBx y2 (by decide) (.slice a1 m1' c1') (.slice (some ⟨G, 0, none⟩) (m * k) (m * k))
          rw [turnD_length]
          exact this
        clear z y2 tb
        go_wp2
        generalize ((w3.setCell ⟨R, 0, none⟩ (.slice a1 m1' c1')).setCell ⟨R, 1, none⟩ (.slice (some ⟨G, 0, none⟩) (m * k) (m * k))) = w9 at *
        refine bodyPost_ret (v := .tuple #[.agg #[.slice a1 m1' c1', .slice (some ⟨G, 0, none⟩) (m * k) (m * k)], .int .i64 0]) (by simp [results, Try.results14, go_sem, z0, z1]) rfl ⟨a1, m1', c1', G, m * k, by rw [turnD_length], unhide FN⟩

end Go.Proofs.Ytgdmhmnmhfpkkaa
