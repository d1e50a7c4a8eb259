
/- The law MatrixSums, walked. -/
import Derived.Test.YtgdmhmnmhfpkkaaMatG
import Derived.Test.YtgdmhmnmhfpkkaaMatL
import Derived.Test.YtgdmhmnmhfpkkaaMatM
import Derived.Test.YtgdmhmnmhfpkkaaMatN
namespace Go.Proofs.Ytgdmhmnmhfpkkaa
open Go.RowKit Go.ChangeShapes

theorem sumI_snoc {zs : List Int} {k : Nat} (h : k < zs.length) : sumI (zs.take (k + 1)) = sumI (zs.take k) + zs.getD k 0 := by
  rw [List.take_add_one, show zs[k]? = some (zs.getD k 0) by simp [h], sumI_append]
  simp [sumI]
theorem sumI_take {zs : List Int} {l : Nat} (h : ∀ i, i < l → -32768 ≤ zs.getD i 0 ∧ zs.getD i 0 ≤ 32767) (hl : l ≤ zs.length) (k : Nat) (hk : k ≤ l) : -32768 * (k : Int) ≤ sumI (zs.take k) ∧ sumI (zs.take k) ≤ 32768 * (k : Int) := by
  induction k with
  | zero => simp [sumI]
  | succ k ih =>
    have := ih (by omega)
    have := h k (by omega)
    rw [sumI_snoc (by omega)]
    omega
theorem fold_take {zs : List Int} {l : Nat} (h : ∀ i, i < l → -32768 ≤ zs.getD i 0 ∧ zs.getD i 0 ≤ 32767) (hl : l ≤ zs.length) (hm : l ≤ 500) : foldC ((zs.take l).map ofI) = ofI (sumI (zs.take l)) := by
  refine foldC_ofI (B := 32768) 500 (by decide) _ (by rw [List.length_take]; omega) ?_
  intro x hx
  obtain ⟨i, hi, rfl⟩ := List.getElem_of_mem hx
  rw [List.length_take] at hi
  have := h i (by omega)
  rw [List.getElem_take]
  have e : zs.getD i 0 = zs[i]'(by omega) := by simp [show i < zs.length by omega]
  rw [e] at this
  omega
theorem mayT_row {l : Nat} {d : List Nat} (h1 : 1 ≤ l) (h2 : l ≤ 4096) (hd : d.length = l) : mayT [(l : Int)] d = true := by
  have hp : prodL [(l : Int)] = (l : Int) := by simp [prodL]
  have hg : goodB [(l : Int)] = true := by
    rw [goodB_iff]
    refine ⟨by simp, ?_⟩
    intro x hx
    rw [List.mem_singleton.1 hx]
    omega
  unfold mayT mayB
  rw [hg, hp, hd]
  simp
  omega

theorem sameT_self (s : List Int) (d : List Nat) : sameT s d s d = true := by
  unfold sameT sameB allB sameF
  simp

set_option maxRecDepth 10000 in
set_option maxHeartbeats 8000000 in
theorem sums_walk (a0 : Option Addr) (l0 c0 : Nat) (zs : List Int) (ct : Int) (w : World) (m0 : l0 ≤ 9223372036854775807) (hct : 0 ≤ ct ∧ ct ≤ 255) (h0 : InRowK .i16 w a0 l0 c0 zs) :
    Calls Try.prog 8 #[.slice a0 l0 c0, .int .u8 ct] w fun e w' => e = .returned (.bool true) ∧ Kp w w' := by
  have A0 := hide h0
  clear h0
  by_cases g0 : l0 = 0
  · subst g0
    go_enter Try.func8, Try.ntmps8
    go_wp2_with fail
    refine (awake5_any w).mono ?_
    rintro e w1 ⟨rfl, q1⟩
    have K1 := hide q1
    clear q1
    go_wp2
    go_ret
    exact ⟨rfl, unhide K1⟩
  · have b0 : ((l0 : Int) == 0) = false := by rw [beq_eq_false_iff_ne]; omega
    by_cases g1 : l0 ≤ 500
    · have b1 : decide ((500 : Int) < (l0 : Int)) = false := decide_eq_false (by omega)
      have b1' : ¬ ((500 : Int) < (l0 : Int)) := by omega
      have BZ : Hid (∀ i, i < l0 → -32768 ≤ zs.getD i 0 ∧ zs.getD i 0 ≤ 32767) := fun i hi => bounds_i16 ((unhide A0).wfD hi)
      have LZ := hide (unhide A0).ge
      obtain ⟨b, off, rfl, hb, hc⟩ := (unhide A0).at (by omega)
      have HC : Hid (∀ w', Kp w w' → ∀ i, i < l0 → w'.cell? ⟨b, off + i, none⟩ = some (.int .i16 (zs.getD i 0))) := fun w' k i hi => (Below.cell k (p := ⟨b, off + i, none⟩) hb).trans (hc i hi)
      obtain ⟨k, hk⟩ : ∃ k : Nat, 1 + ct % 9 = (k : Int) := ⟨(1 + ct % 9).toNat, by omega⟩
      have k1 : 1 ≤ k := by omega
      have k9 : k ≤ 9 := by omega
      have HK := hide hk
      have DLN : Hid (((zs.take l0).map ofI).length = l0) := by have := unhide LZ; unfold Hid; rw [List.length_map, List.length_take]; omega
      have MT := hide (mayT_row (by omega) (by omega) (unhide DLN))
      have FO := hide (fold_take (unhide BZ) (unhide LZ) g1)
      have WD : Hid (∀ x ∈ (zs.take l0).map ofI, W64 x) := by
        intro x hx
        obtain ⟨z, _, rfl⟩ := List.mem_map.1 hx
        exact ofI_w64 z
      clear hb hc A0 hk
      go_enter Try.func8, Try.ntmps8
      go_wp2_with fail
      refine (awake5_any w).mono ?_
      rintro e w1 ⟨rfl, q1⟩
      have K1 := hide q1
      clear q1
      go_upto_region 6 with fail
      have LI := hide (lit_ints w1 3 [(l0 : Int)] #[.int .i64 (l0 : Int)] w1.heap.size 1 rfl rfl rfl (by intro x hx; rw [List.mem_singleton.1 hx]; unfold I64; omega) (by decide))
      have K2 := hide ((unhide K1).trans (Kp.alloc w1 (.cells #[.int .i64 (l0 : Int)] 3)))
      have hsz : w1.heap.size + 1 = (w1.alloc (.cells #[.int .i64 (l0 : Int)] 3)).heap.size := by simp
      rw [hsz]
      clear hsz K1
      generalize w1.alloc (.cells #[.int .i64 (l0 : Int)] 3) = w2 at *
      generalize w1.heap.size = L at *
      have XB := hide (Bx.made w2 (.slice (some ⟨L, 0, none⟩) 1 1) (.slice none 0 0))
      have K3 := hide (Kp.alloc w2 (.cells #[.slice (some ⟨L, 0, none⟩) 1 1, .slice none 0 0] 25))
      generalize w2.alloc (.cells #[.slice (some ⟨L, 0, none⟩) 1 1, .slice none 0 0] 25) = w20 at *
      generalize hL : w2.heap.size = B at XB ⊢
      have HL : Hid (w2.heap.size ≤ B) := Nat.le_of_eq hL
      clear hL
      go_wp2
      go_loopw [6, 7] (fun s i wr => ∃ (j : Nat) (v : Value), j ≤ l0 ∧ s = .int .i64 (sumI (zs.take j)) ∧ i = .int .i64 j ∧ Hid (Bx wr B (.slice (some ⟨L, 0, none⟩) 1 1) v) ∧ Hid (OwnF wr 42 w2.heap.size v ((zs.take j).map ofI)) ∧ Hid (Kp w2 wr)) (fun _ i _ => l0 - (intOf i).toNat)
      case atStart => exact ⟨0, _, Nat.zero_le _, rfl, rfl, unhide XB, OwnF.nil _ _ _, unhide K3⟩
      case round =>
        obtain ⟨j, v, hj, rfl, rfl, XI, OI, KI⟩ := hrel
        generalize wr = w3 at *
        have sb := sumI_take (unhide BZ) (unhide LZ) j hj
        obtain ⟨av, nv, cv, rfl⟩ := (unhide OI).sl
        by_cases hlt : j < l0
        · have hck := unhide HC w3 ((unhide K2).trans (unhide KI)) j hlt
          have hz := unhide BZ j hlt
          have hltI : (j : Int) < (l0 : Int) := by omega
          obtain ⟨p0, p1, p2, p3, p4⟩ := (unhide XI).o
          have ET := hide (map_takeI (f := ofI) (zs := zs) (k := j) (by have := unhide LZ; omega))
          have ES := hide (sumI_snoc (zs := zs) (k := j) (by have := unhide LZ; omega))
          have LN : Hid (((zs.take j).map ofI).length + 1 ≤ 1000000) := by unfold Hid; rw [List.length_map, List.length_take]; omega
          have HCJ : Hid (∀ w', Kp w w' → w'.cell? ⟨b, off + j, none⟩ = some (.int .i16 (zs.getD j 0))) := fun w' kk => unhide HC w' kk j hlt
          generalize zs.getD j 0 = z at *
          generalize sumI (zs.take j) = S at *
          have qa := (Kp.alloc w3 (.cells #[.float .f64 (floatOfInt .f64 z)] 42)).trans (Kp.drew _)
          have OW := hide ((unhide OI).keep qa)
          have XA := hide ((unhide XI).keep qa)
          have AP : Hid (Flts (w3.alloc (.cells #[.float .f64 (floatOfInt .f64 z)] 42)).drew (.slice (some ⟨w3.heap.size, 0, none⟩) 1 1) [ofI z]) := (lit_flts w3 42 [ofI z] #[.float .f64 (ofI z)] w3.heap.size 1 rfl rfl rfl (by intro y hy; cases List.mem_singleton.1 hy; exact ofI_w64 z) (by decide)).keep (Kp.drew _)
          have BS : Hid (w2.heap.size ≤ (w3.alloc (.cells #[.float .f64 (floatOfInt .f64 z)] 42)).drew.heap.size) := ((unhide KI).trans qa).size
          have QA := hide ((unhide KI).trans qa)
          clear qa
          go_upto_region 10 with fail
          go_region_law (refine step_append_box rfl (.tmp 34) (.tmp 40) rfl w2.heap.size (.slice av nv cv) ((zs.take j).map ofI) ⟨w3.heap.size, 0, none⟩ (ofI z) (by simp [Act.eval]) (by simp [Act.eval]) (unhide OW) (unhide AP) (unhide LN) (unhide BS) B _ (unhide XA) ?_; intro b2 n2 c2 w8 F8 g0 g1)
          all_goals (
            have FF := hide (box_after (unhide QA) (Nat.le_refl _) (unhide HL) (unhide OW) (unhide F8))
            clear g0 g1 hck p0 p1 p2 p3 p4 OW XA AP BS QA F8
            generalize w8.setCell ⟨B, 1, none⟩ (.slice b2 n2 c2) = w9 at *)
          all_goals (
            have hck := unhide HCJ w9 ((unhide K2).trans (unhide FF).2.2)
            go_wp2
            go_roundw
            case rel => exact ⟨j + 1, _, by omega, by rw [unhide ES], by go_num, (unhide FF).1, by rw [unhide ET]; exact (unhide FF).2.1, (unhide FF).2.2⟩
            case measure => simp [intOf]; omega)
        · have hjl : l0 = j := by omega
          subst hjl
          have b2 : ¬ ((l0 : Int) < (l0 : Int)) := by omega
          have hk := unhide HK
          generalize sumI (zs.take l0) = S at *
          generalize (zs.take l0).map ofI = dd at *
          have hdm := unhide DLN
          have D_3 := hide ((unhide OI).flts (unhide WD) (by omega))
          have RO : Hid (Roomy (.slice av nv cv)) := roomy _ _ _ ((unhide OI).lens _ _ _ rfl).1 ((unhide OI).lens _ _ _ rfl).2
          have I_3 := hide ((unhide LI).keep (unhide KI))
          have K_3 := hide ((unhide K2).trans (unhide KI))
          have E1 := hide (sm_yes (unhide MT))
          obtain ⟨p0, p1, -, -, p4⟩ := (unhide XI).o
          clear hdm OI K2 KI LI K3 XB HC BZ
          go_wp2_with fail
          refine (sum_all _ _ [(l0 : Int)] dd w3 (unhide I_3) (unhide D_3) (unhide RO)).mono ?_
          rw [(unhide E1).1, (unhide E1).2.1, (unhide E1).2.2, unhide FO]
          rintro e w4 ⟨lx, ⟨ax, cx, bx, dx, rfl, sx, fx, ux, vx⟩, hx, q4⟩
          obtain rfl := list_num hx (by simp [nan_ofI])
          have S_4 := hide sx
          have F_4 := hide fx
          have X_4 := hide ((unhide XI).keep q4)
          have D_4 := hide ((unhide D_3).keep q4)
          have K_4 := hide ((unhide K_3).trans q4)
          clear sx fx ux vx q4 hx p0 p1 p4 XI D_3 K_3 I_3
          go_upto_region 14 with fail
          have q5 := Kp.alloc w4 (.cells #[.slice ax 1 cx, .slice bx 1 dx] 25)
          have Y_5 := hide (Bx.made w4 (.slice ax 1 cx) (.slice bx 1 dx))
          have S_5 := hide ((unhide S_4).keep q5)
          have F_5 := hide ((unhide F_4).keep q5)
          have X_5 := hide ((unhide X_4).keep q5)
          have D_5 := hide ((unhide D_4).keep q5)
          have K_5 := hide ((unhide K_4).trans q5)
          clear S_4 F_4 X_4 D_4 K_4 q5
          generalize w4.alloc (.cells #[.slice ax 1 cx, .slice bx 1 dx] 25) = w5 at *
          generalize w4.heap.size = Y at *
          obtain ⟨bb, oo, rfl, hbb, hcc⟩ := flts_at' (unhide F_5) (by simp)
          have hc0 := hcc 0 (by simp)
          simp only [List.getD_cons_zero, Nat.add_zero] at hc0
          have HC0 : Hid (∀ w', Kp w5 w' → w'.cell? ⟨bb, oo, none⟩ = some (.float .f64 (ofI S))) := fun w' kk => (Below.cell kk (p := ⟨bb, oo, none⟩) hbb).trans hc0
          have hq : (FloatKind.f64.format.order (ofI S) (floatOfInt .f64 S) != some .eq) = false := by
            have : (FloatKind.f64.format.order (ofI S) (ofI S) != some .eq) = nanW (ofI S) := order_self' _
            rw [nan_ofI] at this
            exact this
          clear hcc hc0 hbb
          obtain ⟨y0, y1, -, -, y4⟩ := (unhide Y_5).o
          go_wp2_with fail
          have q6 := Kp.alloc w5 (.cells #[.int .i64 1] 3)
          have L_6 := hide (lit_ints w5 3 [1] #[.int .i64 1] w5.heap.size 1 rfl rfl rfl i64_one (by decide))
          have S_6 := hide ((unhide S_5).keep q6)
          have Q6 := hide q6
          clear q6 y0 y1 y4
          generalize w5.alloc (.cells #[.int .i64 1] 3) = w6 at *
          generalize w5.heap.size = M at *
          refine (rsame_any _ _ [1] [1] w6 (unhide S_6) (unhide L_6)).mono ?_
          rw [sameB_self]
          rintro e w7 ⟨rfl, q7⟩
          have Q7 := hide ((unhide Q6).trans q7)
          clear q7 Q6 L_6 S_6
          have S_7 := hide ((unhide S_5).keep (unhide Q7))
          have F_7 := hide ((unhide F_5).keep (unhide Q7))
          have X_7 := hide ((unhide X_5).keep (unhide Q7))
          have Y_7 := hide ((unhide Y_5).keep (unhide Q7))
          have D_7 := hide ((unhide D_5).keep (unhide Q7))
          have K_7 := hide ((unhide K_5).trans (unhide Q7))
          have hc0 := unhide HC0 w7 (unhide Q7)
          clear S_5 F_5 X_5 Y_5 D_5 K_5 Q7 HC0
          obtain ⟨y0, y1, -, -, y4⟩ := (unhide Y_7).o
          obtain ⟨p0, p1, -, -, p4⟩ := (unhide X_7).o
          go_upto_region 16 with fail
          by_cases hrem : ((l0 : Int) % (k : Int) != 0) = true
          · go_wp2
            go_ret
            exact ⟨rfl, unhide K_7⟩
          · have hrem := eq_false_of_ne_true hrem
            obtain ⟨m, hm⟩ : ∃ m : Nat, (l0 : Int) / (k : Int) = (m : Int) := ⟨l0 / k, by simp⟩
            have hkm : Hid (k * m = l0) := by
              have h1 : (l0 : Int) % (k : Int) = 0 := by simpa using hrem
              have h2 := Int.mul_ediv_add_emod (l0 : Int) (k : Int)
              rw [h1, hm] at h2
              unfold Hid
              have : ((k * m : Nat) : Int) = (l0 : Int) := by rw [Int.natCast_mul]; omega
              omega
            have m1 : 1 ≤ m := Nat.pos_of_ne_zero (by rintro rfl; have := unhide hkm; simp at this; omega)
            have mm : m ≤ 4096 := by have := unhide hkm; have := Nat.le_mul_of_pos_left m k1; omega
            have MT2 : Hid (mayT [(k : Int), (m : Int)] dd = true) := mayT_two k1 m1 (by rw [unhide DLN, unhide hkm]) (by rw [unhide hkm]; omega)
            have C1 := hide (fun w0 (kk : Kp w7 w0) L' (hi : Ints w0 (.slice (some ⟨L', 0, none⟩) 2 2) [(k : Int), (m : Int)]) => (sum_yes (.slice (some ⟨L', 0, none⟩) 2 2) (.slice av nv cv) [(k : Int), (m : Int)] dd w0 hi ((unhide D_7).keep kk) (unhide RO) (unhide MT2)).mono (R' := fun ee w' => ∃ a1 n1 c1 G c, ee = .returned (.tuple #[.agg #[.slice a1 n1 c1, .slice (some ⟨G, 0, none⟩) 1 c], .int .i64 0]) ∧ Hid (Own w' 3 0 (.slice a1 n1 c1) [1] ∧ OwnG w' 42 G 1 c [ofI S]) ∧ Hid (Kp w0 w') ∧ Hid (Kp w7 w0) ∧ BxO w' B (.slice (some ⟨L, 0, none⟩) 1 1) (.slice av nv cv)) (by
              rintro ee w' ⟨a1, n1, c1, G, c, r, rfl, fn, hc, hw⟩
              obtain rfl := is_num hc (unhide FO) (nan_ofI S)
              exact ⟨a1, n1, c1, G, c, rfl, ⟨fn.own.weak (Nat.zero_le _), fn.og⟩, fn.kp, kk, ((unhide X_7).keep (kk.trans fn.kp)).o⟩))
            have LJ : Hid (∀ w0 : World, Ints (w0.alloc (.cells #[.int .i64 (k : Int), .int .i64 (m : Int)] 3)) (.slice (some ⟨w0.heap.size, 0, none⟩) 2 2) [(k : Int), (m : Int)]) := fun w0 => lit_ints w0 3 [(k : Int), (m : Int)] #[.int .i64 (k : Int), .int .i64 (m : Int)] w0.heap.size 2 rfl rfl rfl (i64_two (by omega) mm) (by decide)
            have LJ2 : Hid (Ints ((w7.alloc (.cells #[.slice none 0 0, .slice none 0 0] 25)).alloc (.cells #[.int .i64 (k : Int), .int .i64 (m : Int)] 3)) (.slice (some ⟨w7.heap.size + 1, 0, none⟩) 2 2) [(k : Int), (m : Int)]) := by
              have := unhide LJ (w7.alloc (.cells #[.slice none 0 0, .slice none 0 0] 25))
              rw [World.size_alloc] at this
              exact this
            have hB0 : ∀ (w : World) (v : Value) (o j : Nat), (w.setCell ⟨w7.heap.size, j, none⟩ v).cell? ⟨B, o, none⟩ = w.cell? ⟨B, o, none⟩ := fun w v o j => cell_other (by omega) w v
            have hB1 : ∀ (w : World) (v : Value) (o j : Nat), (w.setCell ⟨w7.heap.size + 1, j, none⟩ v).cell? ⟨B, o, none⟩ = w.cell? ⟨B, o, none⟩ := fun w v o j => cell_other (by omega) w v
            have hk0 : ¬ (k : Int) = 0 := by omega
            have hk0n : ¬ k = 0 := by omega
            have htd : (l0 : Int).tdiv (k : Int) = (m : Int) := by rw [Int.tdiv_eq_ediv_of_nonneg (by omega), hm]
            have hwm : IntKind.i64.wrap (m : Int) = (m : Int) := wrap_64 (by omega) (by omega)
            clear hc0 hq y0 y1 y4
            go_upto_region 18 with fail
            go_cut [11, 12] (fun t ev wx => ∃ T a1 n1 c1 G c, t = .pointer (some ⟨T, 0, none⟩) ∧ ev = .int .i64 0 ∧ Hid (Bx wx T (.slice a1 n1 c1) (.slice (some ⟨G, 0, none⟩) 1 c) ∧ Own wx 3 0 (.slice a1 n1 c1) [1] ∧ OwnG wx 42 G 1 c [ofI S] ∧ Kp w7 wx))
            case first =>
              go_region_held3 (fun w' => w'.cell? ⟨B, 1, none⟩ = some (.slice av nv cv)) (go_keep)
                (first
                  | (go_at_call 15; refine ((unhide C1) _ ?_ _ ?_).mono ?_; (first | exact (Kp.alloc w7 (.cells #[.int .i64 (k : Int), .int .i64 (m : Int)] 3)).trans (Kp.drew _) | exact ((Kp.alloc w7 (.cells #[.int .i64 (k : Int), .int .i64 (m : Int)] 3)).trans (Kp.alloc _ (.cells #[.slice none 0 0, .slice none 0 0] 25))).trans (Kp.drew _) | exact ((Kp.alloc w7 (.cells #[.slice none 0 0, .slice none 0 0] 25)).trans (Kp.alloc _ (.cells #[.int .i64 (k : Int), .int .i64 (m : Int)] 3))).trans (Kp.drew _)); (first | exact (unhide LJ _).keep (Kp.drew _) | exact (unhide LJ2).keep (Kp.drew _) | exact ((unhide LJ w7).keep (Kp.alloc _ (.cells #[.slice none 0 0, .slice none 0 0] 25))).keep (Kp.drew _)); rintro ee w8 ⟨a1, n1, c1, G, c, rfl, O2, J2, K2, ⟨p0, p1, -, -, p4⟩⟩; (first
                | (have tb := (Bx.madeAt (w7.alloc (.cells #[.int .i64 (k : Int), .int .i64 (m : Int)] 3)) (.slice none 0 0) (.slice none 0 0) (w7.heap.size + 1) (by simp)).keep ((Kp.drew ((w7.alloc (.cells #[.int .i64 (k : Int), .int .i64 (m : Int)] 3)).alloc (.cells #[.slice none 0 0, .slice none 0 0] 25))).trans (unhide J2)); have TB := hide tb; obtain ⟨t0, t1, t2, t3, t4⟩ := tb.o; clear tb)
                | (have tb := (Bx.madeAt w7 (.slice none 0 0) (.slice none 0 0) w7.heap.size rfl).keep ((Kp.alloc (w7.alloc (.cells #[.slice none 0 0, .slice none 0 0] 25)) (.cells #[.int .i64 (k : Int), .int .i64 (m : Int)] 3)).trans ((Kp.drew _).trans (unhide J2))); have TB := hide tb; obtain ⟨t0, t1, t2, t3, t4⟩ := tb.o; clear tb)
                | skip)))
              all_goals (go_wp2_with fail; go_meet)
              all_goals exact ⟨_, _, _, _, _, _, rfl, rfl, by first
                | exact ⟨Bx.made _ _ _, (unhide O2).1.keep (Kp.alloc _ _), (unhide O2).2.keep (Kp.alloc _ _), ((unhide K2).trans (unhide J2)).trans (Kp.alloc _ _)⟩
                | exact ⟨(unhide TB).set _ _, (unhide O2).1.setBx (unhide TB) (by decide) _ _, (unhide O2).2.setBx (unhide TB) (by decide) _ _, (((unhide K2).trans (unhide J2)).set (i := 0) (by omega) _).set (i := 1) (by omega) _⟩⟩
            case rest =>
              obtain ⟨T, a1, n1, c1, G, c, rfl, rfl, FF⟩ := hcut
              have Y_8 := hide ((unhide Y_7).keep (unhide FF).2.2.2)
              have S_8 := hide ((unhide S_7).keep (unhide FF).2.2.2)
              have F_8 := hide ((unhide F_7).keep (unhide FF).2.2.2)
              have K_8 := hide ((unhide K_7).trans (unhide FF).2.2.2)
              obtain ⟨y0, y1, -, -, y4⟩ := (unhide Y_8).o
              obtain ⟨t0, t1, -, -, t4⟩ := (unhide FF).1.o
              clear C1 LJ LJ2 hB0 hB1 p0 p1 p4
              go_wp2_with fail
              refine (rsameT_any _ _ _ _ [1] [ofI S] [1] [ofI S] wc (unhide S_8) (unhide F_8) ((unhide FF).2.1.ints i64_one (by simp)) ((unhide FF).2.2.1.flts (by intro x hx; rw [List.mem_singleton.1 hx]; exact ofI_w64 S) (by decide))).mono ?_
              rw [sameT_self]
              rintro e w9 ⟨rfl, q9⟩
              have K_9 := hide ((unhide K_8).trans q9)
              clear q9 y0 y1 t0 t1
              go_wp2
              go_ret
              exact ⟨rfl, unhide K_9⟩
    · have b1 : decide ((500 : Int) < (l0 : Int)) = true := decide_eq_true (by omega)
      have b1' : ((500 : Int) < (l0 : Int)) := by omega
      go_enter Try.func8, Try.ntmps8
      go_wp2_with fail
      refine (awake5_any w).mono ?_
      rintro e w1 ⟨rfl, q1⟩
      have K1 := hide q1
      clear q1
      go_wp2
      go_ret
      exact ⟨rfl, unhide K1⟩

end Go.Proofs.Ytgdmhmnmhfpkkaa
