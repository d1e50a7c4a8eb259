
/- Contracts of the document's own Matmul where matrices fit. -/
import Derived.Test.YtgdmhmnmhfpkkaaMatG
import Derived.BigQuiet
namespace Go.Proofs.Ytgdmhmnmhfpkkaa
open Go.RowKit

/-- a row of N numbers, the first t of them as they shall be, but for the NaNs' bits -/
structure MF (N : Nat) (f : Nat → Nat) (t : Nat) (ds : List Nat) : Prop where
  len : ds.length = N
  at_ : ∀ q, q < t → cn (ds.getD q 0) = f q
  wf : ∀ x ∈ ds, W64 x
theorem MF.start (N : Nat) (f : Nat → Nat) : MF N f 0 (List.replicate N 0) := ⟨by simp, by intro q h; omega, by intro x hx; rw [(List.mem_replicate.1 hx).2]; exact w64_0⟩
theorem MF.set {N : Nat} {f : Nat → Nat} {t : Nat} {ds : List Nat} (h : MF N f t ds) (ht : t < N) {r : Nat} (hr : cn r = f t) (hw : W64 r) : MF N f (t + 1) (ds.set t r) := by
  refine ⟨by rw [List.length_set]; exact h.len, ?_, ?_⟩
  · intro q hq
    by_cases e : q = t
    · subst e
      rw [List.getD_eq_getElem?_getD, List.getElem?_set_self (by rw [h.len]; exact ht)]
      exact hr
    · rw [List.getD_eq_getElem?_getD, List.getElem?_set_ne (fun h => e h.symm), ← List.getD_eq_getElem?_getD]
      exact h.at_ q (by omega)
  · intro x hx
    rcases List.mem_or_eq_of_mem_set hx with h1 | rfl
    · exact h.wf x h1
    · exact hw
theorem MF.all {N : Nat} {f : Nat → Nat} {ds : List Nat} (h : MF N f N ds) : ds.map cn = (List.range N).map f := cn_list h.len (fun j hj => h.at_ j (by rw [← h.len]; exact hj))
theorem fill_upF {k : Nat} {x : Nat} {l r : List Nat} (hl : l.length = k) : (l ++ 0 :: r).set k x = (l ++ [x]) ++ r := by
  subst hl
  rw [List.set_append_right _ _ (by simp)]
  simp

set_option maxRecDepth 10000 in
set_option maxHeartbeats 8000000 in
theorem rmul_fit (sv dv sv2 dv2 : Value) (p m n : Nat) (d e : List Nat) (w : World) (h1 : Ints w sv [(p : Int), (m : Int)]) (hd : Flts w dv d) (h2 : Ints w sv2 [(m : Int), (n : Int)]) (hd2 : Flts w dv2 e) (p1 : 1 ≤ p) (m1 : 1 ≤ m) (n1 : 1 ≤ n) (dl : d.length = p * m) (dm : p * m ≤ 4096) (el : e.length = m * n) (em : m * n ≤ 4096) (hs : p * n ≤ 4096) :
    Calls Try.prog 12 #[.agg #[sv, dv], .agg #[sv2, dv2]] w fun ee w' => ∃ a1 n1 c1 G c ds, ee = .returned (.tuple #[.agg #[.slice a1 n1 c1, .slice (some ⟨G, 0, none⟩) ds.length c], .int .i64 0]) ∧ Fin w w' [(p : Int), (n : Int)] a1 n1 c1 G c ds ∧ ds.map cn = mulL p m n d e ∧ (∀ x ∈ ds, W64 x) := by
  have H1 := hide h1
  have H2 := hide h2
  have D1 := hide hd
  have D2 := hide hd2
  have E1 : Hid (mayT [(p : Int), (m : Int)] d = true) := mayT_two p1 m1 dl dm
  have E2 : Hid (mayT [(m : Int), (n : Int)] e = true) := mayT_two m1 n1 el em
  have pm : p ≤ 4096 := le_mul_l m1 dm
  have mm : m ≤ 4096 := le_mul_r p1 dm
  have nm : n ≤ 4096 := le_mul_r m1 em
  obtain ⟨bs, os, cS, rfl, hbs, hs0, hs1⟩ := h1.two
  obtain ⟨bt, ot, cT, rfl, hbt, ht0, ht1⟩ := h2.two
  obtain ⟨aD, cD, rfl, hv⟩ := hd.val
  obtain ⟨b, off, rfl, hb, hc⟩ := hv (by rw [dl]; have := Nat.mul_le_mul p1 m1; omega)
  obtain ⟨aE, cE, rfl, hv2⟩ := hd2.val
  obtain ⟨b2, off2, rfl, hb2, hc2⟩ := hv2 (by rw [el]; have := Nat.mul_le_mul m1 n1; omega)
  have HC := hide hc
  have HC2 := hide hc2
  have hne : ((m : Int) != (m : Int)) = false := by simp
  have DL := hide dl
  have DM := hide dm
  have EL := hide el
  have EM := hide em
  have hdl : d.length ≤ 4096 := by omega
  have hel : e.length ≤ 4096 := by omega
  generalize hnD : d.length = nD at *
  generalize hnE : e.length = nE at *
  clear h1 hd h2 hd2 hnD hnE dl dm el em hv hv2 hc hc2
  go_enter Try.func12, Try.ntmps12
  go_wp2_with fail
  obtain ⟨W, hW, x1, x2, x3, k0⟩ := boxes3_in w (.slice (some ⟨bs, os, none⟩) 2 cS) (.slice (some ⟨b, off, none⟩) nD cD) (.slice (some ⟨bt, ot, none⟩) 2 cT) (.slice (some ⟨b2, off2, none⟩) nE cE) (.slice none 0 0) (.slice none 0 0)
  rw [← hW]
  clear hW
  have hRS : Hid (w.heap.size ≤ w.heap.size + 2) := by unfold Hid; omega
  have K0 := hide k0
  have X1 := hide x1
  have X2 := hide x2
  have X3 := hide x3
  clear x1 x2 x3 k0
  generalize w.heap.size + 2 = R at X3 hRS ⊢
  generalize w.heap.size + 1 = B2 at X2 ⊢
  generalize w.heap.size = B at X1 ⊢
  have C1 := hide (fun w0 (k : Kp W w0) => (rmayT_any (.slice (some ⟨bs, os, none⟩) 2 cS) (.slice (some ⟨b, off, none⟩) nD cD) [(p : Int), (m : Int)] d w0 ((unhide H1).keep ((unhide K0).trans k)) ((unhide D1).keep ((unhide K0).trans k))).mono (R' := fun ee w' => ee = .returned (.bool true) ∧ Hid (Kp W w') ∧ BxO w' B (.slice (some ⟨bs, os, none⟩) 2 cS) (.slice (some ⟨b, off, none⟩) nD cD) ∧ BxO w' B2 (.slice (some ⟨bt, ot, none⟩) 2 cT) (.slice (some ⟨b2, off2, none⟩) nE cE) ∧ BxO w' R (.slice none 0 0) (.slice none 0 0) ∧ w'.cell? ⟨bs, os, none⟩ = some (.int .i64 (p : Int)) ∧ w'.cell? ⟨bs, os + 1, none⟩ = some (.int .i64 (m : Int)) ∧ w'.cell? ⟨bt, ot, none⟩ = some (.int .i64 (m : Int)) ∧ w'.cell? ⟨bt, ot + 1, none⟩ = some (.int .i64 (n : Int))) (by
    rintro ee w' ⟨rfl, k'⟩
    exact ⟨by rw [unhide E1], k.trans k', ((unhide X1).keep (k.trans k')).o, ((unhide X2).keep (k.trans k')).o, ((unhide X3).keep (k.trans k')).o, (Below.cell ((unhide K0).trans (k.trans k')) (p := ⟨bs, os, none⟩) hbs).trans hs0, (Below.cell ((unhide K0).trans (k.trans k')) (p := ⟨bs, os + 1, none⟩) hbs).trans hs1, (Below.cell ((unhide K0).trans (k.trans k')) (p := ⟨bt, ot, none⟩) hbt).trans ht0, (Below.cell ((unhide K0).trans (k.trans k')) (p := ⟨bt, ot + 1, none⟩) hbt).trans ht1⟩))
  have C2 := hide (fun w0 (k : Kp W w0) => (rmayT_any (.slice (some ⟨bt, ot, none⟩) 2 cT) (.slice (some ⟨b2, off2, none⟩) nE cE) [(m : Int), (n : Int)] e w0 ((unhide H2).keep ((unhide K0).trans k)) ((unhide D2).keep ((unhide K0).trans k))).mono (R' := fun ee w' => ee = .returned (.bool true) ∧ Hid (Kp W w') ∧ BxO w' B (.slice (some ⟨bs, os, none⟩) 2 cS) (.slice (some ⟨b, off, none⟩) nD cD) ∧ BxO w' B2 (.slice (some ⟨bt, ot, none⟩) 2 cT) (.slice (some ⟨b2, off2, none⟩) nE cE) ∧ BxO w' R (.slice none 0 0) (.slice none 0 0) ∧ w'.cell? ⟨bs, os, none⟩ = some (.int .i64 (p : Int)) ∧ w'.cell? ⟨bs, os + 1, none⟩ = some (.int .i64 (m : Int)) ∧ w'.cell? ⟨bt, ot, none⟩ = some (.int .i64 (m : Int)) ∧ w'.cell? ⟨bt, ot + 1, none⟩ = some (.int .i64 (n : Int))) (by
    rintro ee w' ⟨rfl, k'⟩
    exact ⟨by rw [unhide E2], k.trans k', ((unhide X1).keep (k.trans k')).o, ((unhide X2).keep (k.trans k')).o, ((unhide X3).keep (k.trans k')).o, (Below.cell ((unhide K0).trans (k.trans k')) (p := ⟨bs, os, none⟩) hbs).trans hs0, (Below.cell ((unhide K0).trans (k.trans k')) (p := ⟨bs, os + 1, none⟩) hbs).trans hs1, (Below.cell ((unhide K0).trans (k.trans k')) (p := ⟨bt, ot, none⟩) hbt).trans ht0, (Below.cell ((unhide K0).trans (k.trans k')) (p := ⟨bt, ot + 1, none⟩) hbt).trans ht1⟩))
  obtain ⟨c0, c1, -, -, -⟩ := (unhide X1).o
  obtain ⟨b0, b1, -, -, -⟩ := (unhide X2).o
  obtain ⟨r0, r1, r2, r3, -⟩ := (unhide X3).o
  have s0 := (Below.cell (unhide K0) (p := ⟨bs, os, none⟩) hbs).trans hs0
  have s1 := (Below.cell (unhide K0) (p := ⟨bs, os + 1, none⟩) hbs).trans hs1
  have s2 := (Below.cell (unhide K0) (p := ⟨bt, ot, none⟩) hbt).trans ht0
  have s3 := (Below.cell (unhide K0) (p := ⟨bt, ot + 1, none⟩) hbt).trans ht1
  have HS0 := hide hs0
  clear hs0 hs1 ht0 ht1
  try go_wp2_with fail
  go_region_held3 (fun w' => w'.cell? ⟨B, 0, none⟩ = some (.slice (some ⟨bs, os, none⟩) 2 cS) ∧ w'.cell? ⟨B, 1, none⟩ = some (.slice (some ⟨b, off, none⟩) nD cD) ∧ w'.cell? ⟨B2, 0, none⟩ = some (.slice (some ⟨bt, ot, none⟩) 2 cT) ∧ w'.cell? ⟨B2, 1, none⟩ = some (.slice (some ⟨b2, off2, none⟩) nE cE) ∧ w'.cell? ⟨bs, os, none⟩ = some (.int .i64 (p : Int)) ∧ w'.cell? ⟨bs, os + 1, none⟩ = some (.int .i64 (m : Int)) ∧ w'.cell? ⟨bt, ot, none⟩ = some (.int .i64 (m : Int)) ∧ w'.cell? ⟨bt, ot + 1, none⟩ = some (.int .i64 (n : Int))) (go_keep)
    (first
      | (go_at_call_of 23 (Value.agg #[Value.slice (some (Addr.mk bs os none)) 2 cS, Value.slice (some (Addr.mk b off none)) nD cD]); refine ((unhide C1) _ ?_).mono ?_; (first | (exact unhide (by assumption)) | exact Kp.drew W); rintro ee z1 ⟨rfl, KX, ⟨c0, c1, -, -, -⟩, ⟨b0, b1, -, -, -⟩, ⟨r0, r1, r2, r3, -⟩, s0, s1, s2, s3⟩)
      | (go_at_call 23; refine ((unhide C2) _ ?_).mono ?_; (first | (exact unhide (by assumption)) | exact Kp.drew W); rintro ee z2 ⟨rfl, KX, ⟨c0, c1, -, -, -⟩, ⟨b0, b1, -, -, -⟩, ⟨r0, r1, r2, r3, -⟩, s0, s1, s2, s3⟩))
  clear C1 C2 H1 H2 D1 D2 E1 E2 hne
  have K1 := hide ((unhide K0).trans (unhide KX))
  have Y1 := hide ((unhide X1).keep (unhide KX))
  have Y2 := hide ((unhide X2).keep (unhide KX))
  have Y3 := hide ((unhide X3).keep (unhide KX))
  clear X1 X2 X3 K0 KX r0 r1 r2 r3
  generalize z2 = w1 at *
  have c4 : B < w1.heap.size := (unhide Y1).lt
  have b4 : B2 < w1.heap.size := (unhide Y2).lt
  have s4 : bs < w1.heap.size := Nat.lt_of_lt_of_le hbs (unhide K1).size
  have s5 : bt < w1.heap.size := Nat.lt_of_lt_of_le hbt (unhide K1).size
  have CL : Hid (∀ w', Kp w1 w' → BxO w' B (.slice (some ⟨bs, os, none⟩) 2 cS) (.slice (some ⟨b, off, none⟩) nD cD) ∧ BxO w' B2 (.slice (some ⟨bt, ot, none⟩) 2 cT) (.slice (some ⟨b2, off2, none⟩) nE cE) ∧ w'.cell? ⟨bs, os, none⟩ = some (.int .i64 (p : Int)) ∧ w'.cell? ⟨bs, os + 1, none⟩ = some (.int .i64 (m : Int)) ∧ w'.cell? ⟨bt, ot, none⟩ = some (.int .i64 (m : Int)) ∧ w'.cell? ⟨bt, ot + 1, none⟩ = some (.int .i64 (n : Int)) ∧ bs < w'.heap.size ∧ bt < w'.heap.size) := by
    intro w' k
    exact ⟨((unhide Y1).keep k).o, ((unhide Y2).keep k).o, (Below.cell k (p := ⟨bs, os, none⟩) s4).trans s0, (Below.cell k (p := ⟨bs, os + 1, none⟩) s4).trans s1, (Below.cell k (p := ⟨bt, ot, none⟩) s5).trans s2, (Below.cell k (p := ⟨bt, ot + 1, none⟩) s5).trans s3, Nat.lt_of_lt_of_le s4 k.size, Nat.lt_of_lt_of_le s5 k.size⟩
  have LI : Hid (∀ w0 : World, Ints (w0.alloc (.cells #[.int .i64 (p : Int), .int .i64 (n : Int)] 3)) (.slice (some ⟨w0.heap.size, 0, none⟩) 2 2) [(p : Int), (n : Int)]) := fun w0 => lit_ints w0 3 [(p : Int), (n : Int)] #[.int .i64 (p : Int), .int .i64 (n : Int)] w0.heap.size 2 rfl rfl rfl (i64_two pm nm) (by decide)
  have LI2 : Hid (Ints ((w1.alloc (.cells #[.slice none 0 0, .slice none 0 0] 25)).alloc (.cells #[.int .i64 (p : Int), .int .i64 (n : Int)] 3)) (.slice (some ⟨w1.heap.size + 1, 0, none⟩) 2 2) [(p : Int), (n : Int)]) := by
    have := unhide LI (w1.alloc (.cells #[.slice none 0 0, .slice none 0 0] 25))
    rw [World.size_alloc] at this
    exact this
  have hB_0 : ∀ (w : World) (v : Value) (o j : Nat), (w.setCell ⟨w1.heap.size, j, none⟩ v).cell? ⟨B, o, none⟩ = w.cell? ⟨B, o, none⟩ := fun w v o j => cell_other (by omega) w v
  have hB_1 : ∀ (w : World) (v : Value) (o j : Nat), (w.setCell ⟨w1.heap.size + 1, j, none⟩ v).cell? ⟨B, o, none⟩ = w.cell? ⟨B, o, none⟩ := fun w v o j => cell_other (by omega) w v
  have hB2_0 : ∀ (w : World) (v : Value) (o j : Nat), (w.setCell ⟨w1.heap.size, j, none⟩ v).cell? ⟨B2, o, none⟩ = w.cell? ⟨B2, o, none⟩ := fun w v o j => cell_other (by omega) w v
  have hB2_1 : ∀ (w : World) (v : Value) (o j : Nat), (w.setCell ⟨w1.heap.size + 1, j, none⟩ v).cell? ⟨B2, o, none⟩ = w.cell? ⟨B2, o, none⟩ := fun w v o j => cell_other (by omega) w v
  have hbs_0 : ∀ (w : World) (v : Value) (o j : Nat), (w.setCell ⟨w1.heap.size, j, none⟩ v).cell? ⟨bs, o, none⟩ = w.cell? ⟨bs, o, none⟩ := fun w v o j => cell_other (by omega) w v
  have hbs_1 : ∀ (w : World) (v : Value) (o j : Nat), (w.setCell ⟨w1.heap.size + 1, j, none⟩ v).cell? ⟨bs, o, none⟩ = w.cell? ⟨bs, o, none⟩ := fun w v o j => cell_other (by omega) w v
  have hbt_0 : ∀ (w : World) (v : Value) (o j : Nat), (w.setCell ⟨w1.heap.size, j, none⟩ v).cell? ⟨bt, o, none⟩ = w.cell? ⟨bt, o, none⟩ := fun w v o j => cell_other (by omega) w v
  have hbt_1 : ∀ (w : World) (v : Value) (o j : Nat), (w.setCell ⟨w1.heap.size + 1, j, none⟩ v).cell? ⟨bt, o, none⟩ = w.cell? ⟨bt, o, none⟩ := fun w v o j => cell_other (by omega) w v
  have MB : Hid (mayB [(p : Int), (n : Int)] = true) := by unfold Hid; rw [may_two p1 n1]; exact decide_eq_true hs
  have C1 := hide (fun w0 (k : Kp w1 w0) L (hi : Ints w0 (.slice (some ⟨L, 0, none⟩) 2 2) [(p : Int), (n : Int)]) => (rnew_yes (.slice (some ⟨L, 0, none⟩) 2 2) [(p : Int), (n : Int)] 0 w0 hi (unhide MB)).mono (R' := fun ee w' => ∃ a1 n1 c1 G, ee = .returned (.tuple #[.agg #[.slice a1 n1 c1, .slice (some ⟨G, 0, none⟩) (p * n) (p * n)], .int .i64 0]) ∧ Hid (Own w' 3 w0.heap.size (.slice a1 n1 c1) [(p : Int), (n : Int)]) ∧ Hid (w0.heap.size ≤ G ∧ OwnG w' 42 G (p * n) (p * n) (List.replicate (p * n) 0)) ∧ Hid (Kp w0 w') ∧ Hid (Kp w1 w0) ∧ BxO w' B (.slice (some ⟨bs, os, none⟩) 2 cS) (.slice (some ⟨b, off, none⟩) nD cD) ∧ BxO w' B2 (.slice (some ⟨bt, ot, none⟩) 2 cT) (.slice (some ⟨b2, off2, none⟩) nE cE) ∧ w'.cell? ⟨bs, os, none⟩ = some (.int .i64 (p : Int)) ∧ w'.cell? ⟨bs, os + 1, none⟩ = some (.int .i64 (m : Int)) ∧ w'.cell? ⟨bt, ot, none⟩ = some (.int .i64 (m : Int)) ∧ w'.cell? ⟨bt, ot + 1, none⟩ = some (.int .i64 (n : Int)) ∧ bs < w'.heap.size ∧ bt < w'.heap.size) (by
    rintro ee w' ⟨a1, n1', c1, G, q, rfl, hn, o1, hG, og, k'⟩
    rw [prodL_two] at hn
    obtain rfl : q = p * n := by omega
    exact ⟨a1, n1', c1, G, rfl, o1, ⟨hG, og⟩, k', k, unhide CL w' (k.trans k')⟩))
  go_upto_region 3 with fail
  go_cut [6, 7] (fun t ev wx => ∃ T a1 m1' c1 G, t = .pointer (some ⟨T, 0, none⟩) ∧ ev = .int .i64 0 ∧ Hid (Laid w1 wx [(p : Int), (n : Int)] (p * n) T a1 m1' c1 G))
  case first =>
    go_region_held3 (fun w' => w'.cell? ⟨B, 0, none⟩ = some (.slice (some ⟨bs, os, none⟩) 2 cS) ∧ w'.cell? ⟨B2, 0, none⟩ = some (.slice (some ⟨bt, ot, none⟩) 2 cT) ∧ w'.cell? ⟨bs, os, none⟩ = some (.int .i64 (p : Int)) ∧ w'.cell? ⟨bt, ot + 1, none⟩ = some (.int .i64 (n : Int))) (go_keep)
      (first
        | (go_at_call 21; refine ((unhide C1) _ ?_ _ ?_).mono ?_; (first | exact (Kp.alloc w1 (.cells #[.int .i64 (p : Int), .int .i64 (n : Int)] 3)).trans (Kp.drew _) | exact ((Kp.alloc w1 (.cells #[.int .i64 (p : Int), .int .i64 (n : Int)] 3)).trans (Kp.alloc _ (.cells #[.slice none 0 0, .slice none 0 0] 25))).trans (Kp.drew _) | exact ((Kp.alloc w1 (.cells #[.slice none 0 0, .slice none 0 0] 25)).trans (Kp.alloc _ (.cells #[.int .i64 (p : Int), .int .i64 (n : Int)] 3))).trans (Kp.drew _)); (first | exact (unhide LI _).keep (Kp.drew _) | exact (unhide LI2).keep (Kp.drew _) | exact ((unhide LI w1).keep (Kp.alloc _ (.cells #[.slice none 0 0, .slice none 0 0] 25))).keep (Kp.drew _)); rintro ee w2 ⟨a1, n1', c1', G, rfl, O2, G2, J2, K2, ⟨c0, c1, -, -, c4⟩, ⟨b0, b1, -, -, b4⟩, s0, s1, s2, s3, s4, s5⟩; (first
            | (have tb := (Bx.madeAt (w1.alloc (.cells #[.int .i64 (p : Int), .int .i64 (n : Int)] 3)) (.slice none 0 0) (.slice none 0 0) (w1.heap.size + 1) (by simp)).keep ((Kp.drew ((w1.alloc (.cells #[.int .i64 (p : Int), .int .i64 (n : Int)] 3)).alloc (.cells #[.slice none 0 0, .slice none 0 0] 25))).trans (unhide J2)); have TB := hide tb; obtain ⟨t0, t1, t2, t3, t4⟩ := tb.o; clear tb)
            | (have tb := (Bx.madeAt w1 (.slice none 0 0) (.slice none 0 0) w1.heap.size rfl).keep ((Kp.alloc (w1.alloc (.cells #[.slice none 0 0, .slice none 0 0] 25)) (.cells #[.int .i64 (p : Int), .int .i64 (n : Int)] 3)).trans ((Kp.drew _).trans (unhide J2))); have TB := hide tb; obtain ⟨t0, t1, t2, t3, t4⟩ := tb.o; clear tb)
            | skip)))
    all_goals (go_wp2_with fail; go_meet)
    all_goals exact ⟨_, _, _, _, _, rfl, rfl, by first
      | exact laid_new (unhide O2) (unhide K2).size (unhide G2).2 (unhide G2).1 ((unhide K2).trans (unhide J2))
      | exact laid_set (unhide TB) (by omega) (unhide O2) (unhide K2).size (unhide G2).2 (unhide G2).1 ((unhide K2).trans (unhide J2))⟩
  case rest =>
    obtain ⟨T, a1, m1', c1', G, rfl, rfl, LD⟩ := hcut
    clear C1 LI LI2 hB_0 hB_1 hB2_0 hB2_1 hbs_0 hbs_1 hbt_0 hbt_1 MB
    have hTG : ¬ T = G := (unhide LD).bx.neG (unhide LD).og (by decide)
    have hGw : Hid (w1.heap.size ≤ G) := (unhide LD).gG
    have hBG : ¬ B = G := by have := unhide hGw; omega
    have hB2G : ¬ B2 = G := by have := unhide hGw; omega
    have hsG : ¬ bs = G := by have := unhide hGw; omega
    have hRG : ¬ R = G := by have := unhide hGw; have := (unhide Y3).lt; omega
    have hbw : b < w1.heap.size := Nat.lt_of_lt_of_le hb (unhide K1).size
    have hb2w : b2 < w1.heap.size := Nat.lt_of_lt_of_le hb2 (unhide K1).size
    have hbG : ¬ b = G := by have := unhide hGw; omega
    have hb2G : ¬ b2 = G := by have := unhide hGw; omega
    obtain ⟨c0, c1, -, -, c4⟩ := ((unhide Y1).keep (unhide LD).kp).o
    obtain ⟨b0, b1, -, -, b4⟩ := ((unhide Y2).keep (unhide LD).kp).o
    obtain ⟨-, -, s0, s1, s2, s3, s4, s5⟩ := unhide CL wc (unhide LD).kp
    clear CL
    go_upto_region 6 with fail
    go_quiet (fail)
    have KC := hide ((unhide LD).kp.trans (Kp.drewN wc nq))
    have OG0 := hide ((unhide LD).og.keep (Kp.drewN wc nq))
    have TB := hide ((unhide LD).bx.keep (Kp.drewN wc nq))
    have OW := hide ((unhide LD).ow.keep (Kp.drewN wc nq))
    clear LD c0 c1 b0 b1 s0 s1 s2 s3 c4 b4 s4 s5
    generalize wc.drewN nq = w2 at *
    have bB : B < w2.heap.size := ((unhide Y1).keep (unhide KC)).lt
    have bB2 : B2 < w2.heap.size := ((unhide Y2).keep (unhide KC)).lt
    have bS : bs < w2.heap.size := Nat.lt_of_lt_of_le hbs ((unhide K1).trans (unhide KC)).size
    have bb : b < w2.heap.size := Nat.lt_of_lt_of_le hbw (unhide KC).size
    have bb2 : b2 < w2.heap.size := Nat.lt_of_lt_of_le hb2w (unhide KC).size
    have bT : T < w2.heap.size := (unhide TB).lt
    have bG : G < w2.heap.size := (unhide OG0).lt
    have CELLS : Hid (∀ wr, Kx G w2 wr → wr.cell? ⟨B, 0, none⟩ = some (.slice (some ⟨bs, os, none⟩) 2 cS) ∧ wr.cell? ⟨bs, os, none⟩ = some (.int .i64 (p : Int))) := by
      intro wr k
      have k1 := (unhide K1).trans (unhide KC)
      exact ⟨(k.cell (p := ⟨B, 0, none⟩) bB hBG).trans ((unhide Y1).keep (unhide KC)).c0, (k.cell (p := ⟨bs, os, none⟩) bS hsG).trans ((Below.cell k1 (p := ⟨bs, os, none⟩) hbs).trans (unhide HS0))⟩
    have CELLD : Hid (∀ wr, Kx G w2 wr → ∀ L, w2.heap.size ≤ L → ∀ wz, Kx L wr wz → wz.cell? ⟨B, 1, none⟩ = some (.slice (some ⟨b, off, none⟩) nD cD) ∧ wz.cell? ⟨B2, 1, none⟩ = some (.slice (some ⟨b2, off2, none⟩) nE cE) ∧ wz.cell? ⟨T, 1, none⟩ = some (.slice (some ⟨G, 0, none⟩) (p * n) (p * n)) ∧ (∀ i, i < nD → wz.cell? ⟨b, off + i, none⟩ = some (.float .f64 (d.getD i 0))) ∧ ∀ i, i < nE → wz.cell? ⟨b2, off2 + i, none⟩ = some (.float .f64 (e.getD i 0))) := by
      intro wr k L hL wz kz
      have k1 := (unhide K1).trans (unhide KC)
      have hsz := k.size
      exact ⟨(kz.cell (p := ⟨B, 1, none⟩) (Nat.lt_of_lt_of_le bB hsz) (by show ¬ B = L; omega)).trans ((k.cell (p := ⟨B, 1, none⟩) bB hBG).trans ((unhide Y1).keep (unhide KC)).c1), (kz.cell (p := ⟨B2, 1, none⟩) (Nat.lt_of_lt_of_le bB2 hsz) (by show ¬ B2 = L; omega)).trans ((k.cell (p := ⟨B2, 1, none⟩) bB2 hB2G).trans ((unhide Y2).keep (unhide KC)).c1), (kz.cell (p := ⟨T, 1, none⟩) (Nat.lt_of_lt_of_le bT hsz) (by show ¬ T = L; omega)).trans ((k.cell (p := ⟨T, 1, none⟩) bT hTG).trans (unhide TB).c1),
        fun i hi => (kz.cell (p := ⟨b, off + i, none⟩) (Nat.lt_of_lt_of_le bb hsz) (by show ¬ b = L; omega)).trans ((k.cell (p := ⟨b, off + i, none⟩) bb hbG).trans ((Below.cell k1 (p := ⟨b, off + i, none⟩) hb).trans (unhide HC i hi))), fun i hi => (kz.cell (p := ⟨b2, off2 + i, none⟩) (Nat.lt_of_lt_of_le bb2 hsz) (by show ¬ b2 = L; omega)).trans ((k.cell (p := ⟨b2, off2 + i, none⟩) bb2 hb2G).trans ((Below.cell k1 (p := ⟨b2, off2 + i, none⟩) hb2).trans (unhide HC2 i hi)))⟩
    have hst : ∀ (a : Addr) (x : Nat) (w : World), (store a (.float .f64 x)).run Try.prog w = stored Try.prog w a (.float .f64 x) .plain := fun a x w => run_store _ w a _ _ rfl
    have hmk := mk_flts m (by omega)
    have HPN := hide hs
    clear hs
    go_wp2
    go_loopw [10] (fun i wr => ∃ (k : Nat) (ds : List Nat), k ≤ p ∧ i = .int .i64 k ∧ Hid (OwnG wr 42 G (p * n) (p * n) ds ∧ MF (p * n) (mulAt m n d e) (k * n) ds) ∧ Hid (Kx G w2 wr)) (fun i _ => p - (intOf i).toNat)
    case atStart => exact ⟨0, List.replicate (p * n) 0, Nat.zero_le _, rfl, ⟨unhide OG0, by rw [Nat.zero_mul]; exact MF.start _ _⟩, Kx.refl _ _⟩
    case round =>
      obtain ⟨k, ds, hk, rfl, OG, KR⟩ := hrel
      generalize wr = w3 at *
      obtain ⟨c0, s0⟩ := unhide CELLS w3 (unhide KR)
      by_cases hlt : k < p
      · have hltI : (k : Int) < (p : Int) := by omega
        go_wp2
        clear c0 s0
        go_loopw [11] (fun i wr => ∃ (j : Nat) (ds : List Nat), j ≤ n ∧ i = .int .i64 j ∧ Hid (OwnG wr 42 G (p * n) (p * n) ds ∧ MF (p * n) (mulAt m n d e) (k * n + j) ds) ∧ Hid (Kx G w2 wr)) (fun i _ => n - (intOf i).toNat)
        case atStart => exact ⟨0, ds, Nat.zero_le _, rfl, unhide OG, unhide KR⟩
        case round =>
          clear OG KR
          obtain ⟨j, ds, hj, rfl, OG, KR⟩ := hrel
          generalize wr = w4 at *
          by_cases hlj : j < n
          · have hltJ : (j : Int) < (n : Int) := by omega
            go_upto_region 14 with fail
            have BP0 := hide (BlkF.made w4 42 m)
            have qa := Kp.alloc w4 (.cells (madeCells #[.float .f64 0] m) 42)
            have KL : Hid (Kx w4.heap.size w4 (w4.alloc (.cells (madeCells #[.float .f64 0] m) 42))) := (Kx.refl _ _).kp qa
            have hLw : Hid (w2.heap.size ≤ w4.heap.size) := (unhide KR).size
            clear qa
            generalize w4.alloc (.cells (madeCells #[.float .f64 0] m) 42) = w5 at *
            generalize hL : w4.heap.size = L at *
            have HL := hide hL
            clear hL
            have hGL : ¬ G = L := by have := unhide hLw; omega
            go_wp2
            go_loopw [13] (fun i wr => ∃ (q : Nat) (ms : List Nat), q ≤ m ∧ i = .int .i64 q ∧ Hid (BlkF wr 42 L (ms ++ List.replicate (m - q) 0) ∧ ms.map cn = (List.range q).map (fun t => muC (d.getD (k * m + t) 0) (e.getD (t * n + j) 0)) ∧ ∀ x ∈ ms, W64 x) ∧ Hid (Kx L w4 wr)) (fun i _ => m - (intOf i).toNat)
            case atStart => exact ⟨0, [], Nat.zero_le _, rfl, ⟨unhide BP0, rfl, by simp⟩, unhide KL⟩
            case round =>
              obtain ⟨q, ms, hq, rfl, BL, KZ⟩ := hrel
              generalize wr = w6 at *
              obtain ⟨c1, b1, t1, sd, se⟩ := unhide CELLD w4 (unhide KR) L (unhide hLw) w6 (unhide KZ)
              by_cases hlq : q < m
              · have hltQ : (q : Int) < (m : Int) := by omega
                clear t1
                have q1 : k * m + q < nD := by rw [unhide DL]; exact inrow hlt hlq
                have q2 : q * n + j < nE := by rw [unhide EL]; exact inrow hlq hlj
                have hck := sd (k * m + q) q1
                have hck2 := se (q * n + j) q2
                have i0 : (k : Int) * (m : Int) = ((k * m : Nat) : Int) := by simp
                have j0 : (q : Int) * (n : Int) = ((q * n : Nat) : Int) := by simp
                have i1 : 0 ≤ (k : Int) * (m : Int) := by rw [i0]; omega
                have i2 : (k : Int) * (m : Int) ≤ 4096 := by rw [i0]; omega
                have j1 : 0 ≤ (q : Int) * (n : Int) := by rw [j0]; omega
                have j2 : (q : Int) * (n : Int) ≤ 4096 := by rw [j0]; omega
                have hi1 : 0 ≤ (k : Int) * (m : Int) + (q : Int) := by omega
                have hi2 : (k : Int) * (m : Int) + (q : Int) < (nD : Int) := by rw [i0]; omega
                have hi3 : ((k : Int) * (m : Int) + (q : Int)).toNat = k * m + q := by rw [i0]; omega
                have hj1 : 0 ≤ (q : Int) * (n : Int) + (j : Int) := by omega
                have hj2 : (q : Int) * (n : Int) + (j : Int) < (nE : Int) := by rw [j0]; omega
                have hj3 : ((q : Int) * (n : Int) + (j : Int)).toNat = q * n + j := by rw [j0]; omega
                have hw1 : IntKind.i64.wrap ((k : Int) * (m : Int)) = (k : Int) * (m : Int) := wrap_64 i1 (by omega)
                have hw2 : IntKind.i64.wrap ((k : Int) * (m : Int) + (q : Int)) = (k : Int) * (m : Int) + (q : Int) := wrap_64 hi1 (by omega)
                have hw3 : IntKind.i64.wrap ((q : Int) * (n : Int)) = (q : Int) * (n : Int) := wrap_64 j1 (by omega)
                have hw4 : IntKind.i64.wrap ((q : Int) * (n : Int) + (j : Int)) = (q : Int) * (n : Int) + (j : Int) := wrap_64 hj1 (by omega)
                have MSL : Hid (ms.length = q) := by unfold Hid; have := congrArg List.length (unhide BL).2.1; simpa using this
                have hgc := (unhide BL).1.cell (i := q) (by have := unhide MSL; rw [List.length_append, List.length_replicate]; omega)
                have hgf := (unhide BL).1.frozen q
                have ET : Hid (∀ r, cn r = muC (d.getD (k * m + q) 0) (e.getD (q * n + j) 0) → (ms ++ [r]).map cn = (List.range (q + 1)).map (fun t => muC (d.getD (k * m + t) 0) (e.getD (t * n + j) 0))) := by
                  intro r hr
                  rw [map_range_snoc, List.map_append, (unhide BL).2.1, ← hr]
                  rfl
                have EB : Hid (∀ r : Nat, (ms ++ List.replicate (m - q) 0).set q r = (ms ++ [r]) ++ List.replicate (m - (q + 1)) 0) := by
                  intro r
                  rw [show m - q = (m - (q + 1)) + 1 by omega, List.replicate_succ]
                  exact fill_upF (unhide MSL)
                generalize (ms ++ List.replicate (m - q) 0).getD q 0 = old at *
                generalize d.getD (k * m + q) 0 = x at *
                generalize e.getD (q * n + j) 0 = y at *
                have hop := fun t w => run_mul_any (P := Try.prog) w t x y
                have hcw : ∀ (w : World) (a : Addr), (flW .mul w x y).cell? a = w.cell? a := fun w a => by unfold World.cell?; rw [flW_heap]
                have hfw : ∀ (w : World) (a : Addr), (flW .mul w x y).frozen? a = w.frozen? a := fun w a => by unfold World.frozen?; rw [flW_heap]
                have FIN : Hid (∀ W r, Kp w6 W → cn r = muC x y ∧ W64 r → (BlkF (W.setCell ⟨L, q, none⟩ (.float .f64 r)) 42 L ((ms ++ [r]) ++ List.replicate (m - (q + 1)) 0) ∧ (ms ++ [r]).map cn = (List.range (q + 1)).map (fun t => muC (d.getD (k * m + t) 0) (e.getD (t * n + j) 0)) ∧ ∀ x ∈ ms ++ [r], W64 x) ∧ Kx L w4 (W.setCell ⟨L, q, none⟩ (.float .f64 r))) := by
                  intro W r kw hr
                  refine ⟨⟨?_, unhide ET r hr.1, ?_⟩, ((unhide KZ).kp kw).set q _⟩
                  · rw [← unhide EB r]
                    exact ((unhide BL).1.keep kw).set q r
                  · intro z hz
                    rcases List.mem_append.1 hz with h | h
                    · exact (unhide BL).2.2 z h
                    · rw [List.mem_singleton.1 h]
                      exact hr.2
                have hL1 : ¬ B = L := by have := unhide hLw; omega
                have hL2 : ¬ B2 = L := by have := unhide hLw; omega
                have hL3 : ¬ b = L := by have := unhide hLw; omega
                have hL4 : ¬ b2 = L := by have := unhide hLw; omega
                have hs1' : ∀ (w : World) (v : Value) (o j : Nat), (w.setCell ⟨L, j, none⟩ v).cell? ⟨B, o, none⟩ = w.cell? ⟨B, o, none⟩ := fun w v o j => cell_other hL1 w v
                have hs2' : ∀ (w : World) (v : Value) (o j : Nat), (w.setCell ⟨L, j, none⟩ v).cell? ⟨B2, o, none⟩ = w.cell? ⟨B2, o, none⟩ := fun w v o j => cell_other hL2 w v
                have hs3' : ∀ (w : World) (v : Value) (o j : Nat), (w.setCell ⟨L, j, none⟩ v).cell? ⟨b, o, none⟩ = w.cell? ⟨b, o, none⟩ := fun w v o j => cell_other hL3 w v
                have hs4' : ∀ (w : World) (v : Value) (o j : Nat), (w.setCell ⟨L, j, none⟩ v).cell? ⟨b2, o, none⟩ = w.cell? ⟨b2, o, none⟩ := fun w v o j => cell_other hL4 w v
                clear i0 j0 sd se ET EB hL1 hL2 hL3 hL4
                go_upto_region 17 with fail
                go_region_held (fun w' => w'.cell? ⟨B, 1, none⟩ = some (.slice (some ⟨b, off, none⟩) nD cD) ∧ w'.cell? ⟨B2, 1, none⟩ = some (.slice (some ⟨b2, off2, none⟩) nE cE) ∧ w'.cell? ⟨b, off + (k * m + q), none⟩ = some (.float .f64 x) ∧ w'.cell? ⟨b2, off2 + (q * n + j), none⟩ = some (.float .f64 y)) (go_keep) (fail)
                all_goals (
                  have FF := hide (unhide FIN (flW .mul w6.drew x y) (flR .mul w6.drew x y) ((Kp.drew w6).trans (flW_kp .mul w6.drew x y)) (flR_mul w6.drew x y))
                  clear c1 b1 hck hck2 hgc hgf hcw hfw hop hs1' hs2' hs3' hs4'
                  generalize flR .mul w6.drew x y = r at *
                  generalize ((flW .mul w6.drew x y).setCell ⟨L, q, none⟩ (.float .f64 r)) = w7 at *)
                all_goals (
                  go_wp2
                  go_roundw
                  case rel => exact ⟨q + 1, ms ++ [r], by omega, by go_num, (unhide FF).1, (unhide FF).2⟩
                  case measure => simp [intOf]; omega)
              · obtain rfl : q = m := by omega
                have hltQ : ¬ (q : Int) < (q : Int) := by omega
                clear c1 b1 sd se
                have MSL : Hid (ms.length = q) := by unfold Hid; have := congrArg List.length (unhide BL).2.1; simpa using this
                have FL : Hid (Flts w6 (.slice (some ⟨L, 0, none⟩) q q) ms) := by
                  have := (unhide BL).1
                  rw [Nat.sub_self, List.replicate_zero, List.append_nil] at this
                  exact this.flts (unhide MSL) (unhide BL).2.2 (by omega)
                have q3 : k * n + j < p * n := inrow hlt hlj
                have ER : Hid (rowC ms = mulAt q n d e (k * n + j)) := by
                  unfold Hid
                  rw [mulAt_at hlj]
                  exact rowC_of (unhide BL).2.1
                have OZ := hide ((unhide OG).1.keepx (unhide KZ) hGL)
                have hT6 : T < w6.heap.size := Nat.lt_of_lt_of_le bT (Nat.le_trans (unhide KR).size (unhide KZ).size)
                have CR := hide (fun w0 (kk : Kp w6 w0) => (rrow_any _ ms w0 ((unhide FL).keep kk)).mono (R' := fun ee w' => ∃ r, ee = .returned (.float .f64 r) ∧ Hid (cn r = mulAt q n d e (k * n + j) ∧ W64 r) ∧ Hid (Kp w6 w') ∧ w'.cell? ⟨T, 1, none⟩ = some (.slice (some ⟨G, 0, none⟩) (p * n) (p * n)) ∧ w'.cell? ⟨G, k * n + j, none⟩ = some (.float .f64 (ds.getD (k * n + j) 0)) ∧ w'.frozen? ⟨G, k * n + j, none⟩ = false) (by
                  rintro ee w' ⟨r, rfl, hr, -, k'⟩
                  exact ⟨r, rfl, ⟨hr.1.trans (unhide ER), hr.2⟩, kk.trans k', (Below.cell (kk.trans k') (p := ⟨T, 1, none⟩) hT6).trans t1, ((unhide OZ).keep (kk.trans k')).cell q3, ((unhide OZ).keep (kk.trans k')).frozen _⟩))
                have hgc := (unhide OZ).cell q3
                have hgf := (unhide OZ).frozen (k * n + j)
                have i0 : (k : Int) * (n : Int) = ((k * n : Nat) : Int) := by simp
                have k0 : (p : Int) * (n : Int) = ((p * n : Nat) : Int) := by simp
                have hpn : p * n ≤ 4096 := unhide HPN
                have i1 : 0 ≤ (k : Int) * (n : Int) := by rw [i0]; omega
                have i2 : (k : Int) * (n : Int) ≤ 4096 := by rw [i0]; omega
                have hi1 : 0 ≤ (k : Int) * (n : Int) + (j : Int) := by omega
                have hi2 : (k : Int) * (n : Int) + (j : Int) < ((p * n : Nat) : Int) := by rw [i0]; omega
                have hi2' : (k : Int) * (n : Int) + (j : Int) < (p : Int) * (n : Int) := by rw [i0, k0]; omega
                have hi3 : ((k : Int) * (n : Int) + (j : Int)).toNat = k * n + j := by rw [i0]; omega
                have hw1 : IntKind.i64.wrap ((k : Int) * (n : Int)) = (k : Int) * (n : Int) := wrap_64 i1 (by omega)
                have hw2 : IntKind.i64.wrap ((k : Int) * (n : Int) + (j : Int)) = (k : Int) * (n : Int) + (j : Int) := wrap_64 hi1 (by omega)
                have hs1' : ∀ (w : World) (v : Value) (o j : Nat), (w.setCell ⟨G, j, none⟩ v).cell? ⟨T, o, none⟩ = w.cell? ⟨T, o, none⟩ := fun w v o j => cell_other hTG w v
                have hKL : Hid (Kp w4 w6) := Kx.after (Kp.refl w4) (unhide KZ) (Nat.le_of_eq (unhide HL))
                clear i0 k0 hpn
                generalize ds.getD (k * n + j) 0 = old at *
                go_upto_region 18 with fail
                go_region_held3 (fun w' => w'.cell? ⟨T, 1, none⟩ = some (.slice (some ⟨G, 0, none⟩) (p * n) (p * n))) (go_keep)
                  (first
                    | (go_at_call 31; refine ((unhide CR) _ ?_).mono ?_; (first | exact Kp.drew w6 | exact Kp.refl w6); rintro ee w7 ⟨r, rfl, RX, K7, t1, hgc, hgf⟩))
                all_goals (
                  have FF : Hid (OwnG (w7.setCell ⟨G, k * n + j, none⟩ (.float .f64 r)) 42 G (p * n) (p * n) (ds.set (k * n + j) r) ∧ MF (p * n) (mulAt q n d e) (k * n + (j + 1)) (ds.set (k * n + j) r)) := ⟨((unhide OZ).keep (unhide K7)).set _ _, (unhide OG).2.set q3 (unhide RX).1 (unhide RX).2⟩
                  have KK : Hid (Kx G w2 (w7.setCell ⟨G, k * n + j, none⟩ (.float .f64 r))) := (((unhide KR).kp (unhide hKL)).kp (unhide K7)).set _ _
                  clear t1 hgc hgf hs1' CR
                  generalize (w7.setCell ⟨G, k * n + j, none⟩ (.float .f64 r)) = w8 at *)
                all_goals (
                  go_wp2
                  go_roundw
                  case rel => exact ⟨j + 1, ds.set (k * n + j) r, by omega, by go_num, unhide FF, unhide KK⟩
                  case measure => simp [intOf]; omega)
          · obtain rfl : j = n := by omega
            have hltJ : ¬ (j : Int) < (j : Int) := by omega
            have ER : Hid (k * j + j = (k + 1) * j) := by unfold Hid; rw [Nat.add_mul, Nat.one_mul]
            rw [unhide ER] at OG
            go_wp2
            go_roundw
            case rel => exact ⟨k + 1, ds, by omega, by go_num, unhide OG, unhide KR⟩
            case measure => simp [intOf]; omega
      · obtain rfl : k = p := by omega
        have hltI : ¬ (k : Int) < (k : Int) := by omega
        have EF := hide (MF.all (unhide OG).2)
        have y3 := ((unhide Y3).keep (unhide KC)).keepx (unhide KR) hRG
        obtain ⟨d0, d1, d2, d3, -⟩ := y3.o
        have tb := (unhide TB).keepx (unhide KR) hTG
        obtain ⟨t0, t1, -, -, -⟩ := tb.o
        have z := y3.set (.slice a1 m1' c1') (.slice (some ⟨G, 0, none⟩) (k * n) (k * n))
        obtain ⟨z0, z1, -, -, -⟩ := z.o
        have DSL : Hid (ds.length = k * n) := (unhide OG).2.len
        have FN : Hid (Fin w ((w3.setCell ⟨R, 0, none⟩ (.slice a1 m1' c1')).setCell ⟨R, 1, none⟩ (.slice (some ⟨G, 0, none⟩) (k * n) (k * n))) [(k : Int), (n : Int)] a1 m1' c1' G (k * n) ds) := by
          refine ⟨(((unhide OW).weak (unhide K1).size).keepx (unhide OG0) (by decide) (unhide KR)).setBx y3 (by decide) _ _, Nat.le_trans (unhide K1).size (unhide hGw), ?_, ((Kx.after ((unhide K1).trans (unhide KC)) (unhide KR) (Nat.le_trans (unhide K1).size (unhide hGw))).set (unhide hRS) (i := 0) _).set (unhide hRS) (i := 1) _⟩
          have := (unhide OG).1.setBx y3 (by decide) (.slice a1 m1' c1') (.slice (some ⟨G, 0, none⟩) (k * n) (k * n))
          rw [unhide DSL]
          exact this
        clear z y3 tb
        go_wp2
        generalize ((w3.setCell ⟨R, 0, none⟩ (.slice a1 m1' c1')).setCell ⟨R, 1, none⟩ (.slice (some ⟨G, 0, none⟩) (k * n) (k * n))) = w9 at *
        refine bodyPost_ret (v := .tuple #[.agg #[.slice a1 m1' c1', .slice (some ⟨G, 0, none⟩) (k * n) (k * n)], .int .i64 0]) (by simp [results, Try.results12, go_sem, z0, z1]) rfl ⟨a1, m1', c1', G, k * n, ds, by rw [unhide DSL], unhide FN, unhide EF, (unhide OG).2.wf⟩

end Go.Proofs.Ytgdmhmnmhfpkkaa
