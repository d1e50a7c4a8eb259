
/- The law HookScales, walked. -/
import Derived.Test.YtlfjclnocbohbaaHokJ
namespace Go.Proofs.Ytlfjclnocbohbaa
open Go.RowKit Go.ChangeShapes

theorem scH_ok {b m : Int} (zero : Bool) : (scH b m zero).all okH = true := by
  have h : ∀ (k : Int) (z : Int), -9223372036854775808 ≤ k → k ≤ 9223372036854775807 → okH ⟨k, ofI z⟩ = true := by
    intro k z h1 h2
    unfold okH
    have := ofI_w9 z
    unfold W64 at this
    simp only [Bool.and_eq_true, decide_eq_true_eq]
    exact ⟨⟨h1, h2⟩, this⟩
  have h4 : okH ⟨4, 0⟩ = true := by decide
  have h3 : okH ⟨3, 0⟩ = true := by decide
  unfold scH
  rw [List.all_append]
  simp only [List.all_cons, List.all_nil, h 1 b (by omega) (by omega), h 2 m (by omega) (by omega), h4, Bool.and_self, Bool.true_and]
  cases zero
  · rfl
  · simp [h3]
theorem order_wh9 {x y : Nat} {z : Int} (hx : Wh x z) (hy : Wh y z) : (FloatKind.f64.format.order x y != some .eq) = false := by
  have := order_wh hx hy
  have e : (FloatKind.f64.format.order x y == some .eq) = true := this
  rw [bne, e]
  rfl
theorem whs_num {cs ds : List Nat} {n : Nat} {f : Nat → Int} (hl : cs.length = n) (hw : ∀ i, i < n → Wh (cs.getD i 0) (f i)) (hc : ds.map cn = cs) : ds = cs := by
  refine list_num9 hc (List.all_eq_true.2 fun x hx => ?_)
  obtain ⟨i, hi, rfl⟩ := List.getElem_of_mem hx
  have := hw i (by omega)
  have e : cs.getD i 0 = cs[i] := by simp [hi]
  rw [e] at this
  simp [this.nan]

theorem hok_cells (w : World) (k : Int) (x : Nat) : ∀ (j : Nat) (u : Value), (hkCells [⟨k, x⟩])[j]? = some u → (w.alloc (.cells #[.int .i64 k, .float .f64 x] 52)).cell? ((⟨w.heap.size, 0, none⟩ : Addr).add j) = some u := by
  have hb : (w.alloc (.cells #[.int .i64 k, .float .f64 x] 52)).heap[w.heap.size]? = some (.cells #[.int .i64 k, .float .f64 x] 52) := by simp only [World.alloc, Array.getElem?_push_size]
  generalize w.alloc (.cells #[.int .i64 k, .float .f64 x] 52) = W at hb ⊢
  generalize w.heap.size = B at hb ⊢
  intro j u hj
  match j, hj with
  | 0, hj =>
    cases hj
    simp [World.cell?, hb, Addr.add]
  | 1, hj =>
    cases hj
    simp [World.cell?, hb, Addr.add]
  | j + 2, hj => simp [hkCells] at hj

set_option maxRecDepth 20000 in
set_option maxHeartbeats 8000000 in
theorem scales_any (a0 : Option Addr) (l0 c0 : Nat) (zs : List Int) (b m : Int) (zero : Bool) (w : World) (h : InRowK .i8 w a0 l0 c0 zs) (hb : (Lit.int .i8 b).wf = true) (hm : (Lit.int .u8 m).wf = true) :
    Calls Try.prog 22 #[.slice a0 l0 c0, .int .i8 b, .int .u8 m, .bool zero] w fun e w' => e = .returned (.bool true) ∧ Kp w w' := by
  have H := hide h
  have hmax := h.max
  have hb := bounds_i8 hb
  have hm := bounds_u8 hm
  obtain ⟨hb1, hb2⟩ := hb
  obtain ⟨hm1, hm2⟩ := hm
  clear h
  by_cases g0 : l0 = 0
  · have g0' : ((l0 : Int) == 0) = true := by rw [g0]; rfl
    go_enter Try.func22, Try.ntmps22
    go_wp2_with fail
    refine (awake9_any w).mono ?_
    rintro e w1 ⟨rfl, k1⟩
    have K1 := hide k1
    clear k1
    go_wp2
    go_ret
    exact ⟨rfl, unhide K1⟩
  have g0' : ((l0 : Int) == 0) = false := beq_eq_false_iff_ne.2 (by omega)
  by_cases g1 : 300 < l0
  · have g1' : (300 : Int) < (l0 : Int) := by omega
    go_enter Try.func22, Try.ntmps22
    go_wp2_with fail
    refine (awake9_any w).mono ?_
    rintro e w1 ⟨rfl, k1⟩
    have K1 := hide k1
    clear k1
    go_wp2
    go_ret
    exact ⟨rfl, unhide K1⟩
  have g1' : ¬ (300 : Int) < (l0 : Int) := by omega
  have hlz := (unhide H).ge9
  have LZ := hide hlz
  obtain ⟨ab, ao, rfl, hab, hac⟩ := (unhide H).at9 (by omega)
  have HC : Hid (∀ w', Kp w w' → ∀ j, j < l0 → w'.cell? ⟨ab, ao + j, none⟩ = some (.int .i8 (zs.getD j 0))) := fun w' kk j hj => (Below.cell kk (p := ⟨ab, ao + j, none⟩) hab).trans (hac j hj)
  have BZ : Hid (∀ j, j < l0 → -128 ≤ zs.getD j 0 ∧ zs.getD j 0 ≤ 127) := fun j hj => bounds_i8 ((unhide H).wfD9 hj)
  clear hac hab hlz
  go_enter Try.func22, Try.ntmps22
  go_upto_region 4 with fail
  have hT0 : w.heap.size + 1 = (w.alloc (.cells #[.int .i64 (l0 : Int)] 3)).heap.size := by simp
  rw [hT0]
  clear hT0
  have LI := hide (lit_ints w 3 [(l0 : Int)] #[.int .i64 (l0 : Int)] w.heap.size 1 rfl rfl rfl (by intro x hx; rw [List.mem_singleton.1 hx]; unfold I64; omega) (by decide))
  have K1 := hide (Kp.alloc w (.cells #[.int .i64 (l0 : Int)] 3))
  generalize w.alloc (.cells #[.int .i64 (l0 : Int)] 3) = w2 at *
  generalize w.heap.size = L at LI ⊢
  have XT := hide (Bx.made w2 (.slice (some ⟨L, 0, none⟩) 1 1) (.slice none 0 0))
  have K3 := hide (Kp.alloc w2 (.cells #[.slice (some ⟨L, 0, none⟩) 1 1, .slice none 0 0] 31))
  generalize w2.alloc (.cells #[.slice (some ⟨L, 0, none⟩) 1 1, .slice none 0 0] 31) = w20 at *
  generalize hL : w2.heap.size = B at XT ⊢
  have HL : Hid (w2.heap.size ≤ B) := Nat.le_of_eq hL
  clear hL
  go_wp2
  go_loopw [10] (fun i wr => ∃ (j : Nat) (v : Value), j ≤ l0 ∧ i = .int .i64 j ∧ Hid (Bx wr B (.slice (some ⟨L, 0, none⟩) 1 1) v) ∧ Hid (OwnF wr 23 w2.heap.size v ((zs.take j).map ofI)) ∧ Hid (Kp w2 wr)) (fun i _ => l0 - (intOf i).toNat)
  case atStart => exact ⟨0, _, Nat.zero_le _, rfl, unhide XT, OwnF.nil _ _ _, unhide K3⟩
  case round =>
    obtain ⟨j, v, hj, rfl, XI, OI, KI⟩ := hrel
    generalize wr = w3 at *
    obtain ⟨av, nv, cv, rfl⟩ := (unhide OI).sl
    by_cases hlt : j < l0
    · have hck := unhide HC w3 ((unhide K1).trans (unhide KI)) j hlt
      have hz := unhide BZ j hlt
      have hltI : (j : Int) < (l0 : Int) := by omega
      obtain ⟨p0, p1, p2, p3, p4⟩ := (unhide XI).o
      have ET := hide (map_takeI9 (f := ofI) (zs := zs) (k := j) (by have := unhide LZ; omega))
      have LN : Hid (((zs.take j).map ofI).length + 1 ≤ 1000000) := by unfold Hid; rw [List.length_map, List.length_take]; omega
      generalize zs.getD j 0 = z at *
      have qa := (Kp.alloc w3 (.cells #[.float .f64 (floatOfInt .f64 z)] 23)).trans (Kp.drew _)
      have OW := hide ((unhide OI).keep qa)
      have XA := hide ((unhide XI).keep qa)
      have AP : Hid (Flts (w3.alloc (.cells #[.float .f64 (floatOfInt .f64 z)] 23)).drew (.slice (some ⟨w3.heap.size, 0, none⟩) 1 1) [ofI z]) := (lit_flts w3 23 [ofI z] #[.float .f64 (ofI z)] w3.heap.size 1 rfl rfl rfl (by intro y hy; cases List.mem_singleton.1 hy; exact ofI_w9 z) (by decide)).keep (Kp.drew _)
      have BS : Hid (w2.heap.size ≤ (w3.alloc (.cells #[.float .f64 (floatOfInt .f64 z)] 23)).drew.heap.size) := ((unhide KI).trans qa).size
      have QA := hide ((unhide KI).trans qa)
      clear qa
      go_upto_region 7 with fail
      go_region_law (refine step_append_box9 rfl (.tmp 36) (.tmp 42) rfl w2.heap.size (.slice av nv cv) ((zs.take j).map ofI) ⟨w3.heap.size, 0, none⟩ (ofI z) (by simp [Act.eval]) (by simp [Act.eval]) (unhide OW) (unhide AP) (unhide LN) (unhide BS) B _ (unhide XA) ?_; intro b2 n2 c2 w8 F8 g0 g1)
      all_goals (
        have FF := hide (box_after9 (unhide QA) (Nat.le_refl _) (unhide HL) (unhide OW) (unhide F8))
        clear g0 g1 hck p0 p1 p2 p3 p4 OW XA AP BS QA F8
        generalize w8.setCell ⟨B, 1, none⟩ (.slice b2 n2 c2) = w9 at *
        go_wp2
        go_roundw
        case rel => exact ⟨j + 1, _, by omega, by go_num, (unhide FF).1, by rw [unhide ET]; exact (unhide FF).2.1, (unhide FF).2.2⟩
        case measure => simp [intOf]; omega)
    · have hjl : l0 = j := by omega
      subst hjl
      have hltI : ¬ (l0 : Int) < (l0 : Int) := by omega
      have LD : Hid (((zs.take l0).map ofI).length = l0) := by unfold Hid; rw [List.length_map, List.length_take]; have := unhide LZ; omega
      have DF := hide ((unhide OI).flts (by
        intro x hx
        obtain ⟨z, _, rfl⟩ := List.mem_map.1 hx
        exact ofI_w9 z) (by rw [unhide LD]; omega))
      have II := hide ((unhide LI).keep (unhide KI))
      have KW := hide ((unhide K1).trans (unhide KI))
      have MT : Hid (mayT [(l0 : Int)] ((zs.take l0).map ofI) = true) := by
        have hmb : mayB [(l0 : Int)] = true := (mayB_iff _).2 ⟨⟨by simp, by intro x hx; rw [List.mem_singleton.1 hx]; omega⟩, by simp [prodL]; omega⟩
        unfold Hid
        rw [mayT_yes hmb, unhide LD]
        simp [prodL]
      go_upto_region 9 with fail
      have OH := hide (OwnH.lit w3 [⟨1, ofI b⟩, ⟨2, ofI m⟩, ⟨4, 0⟩] #[.int .i64 1, .float .f64 (floatOfInt .f64 b), .int .i64 2, .float .f64 (floatOfInt .f64 m), .int .i64 4, .float .f64 0] w3.heap.size 3 w3.heap.size rfl rfl rfl (Nat.le_refl _) (by decide))
      have K4 := hide (Kp.alloc w3 (.cells #[.int .i64 1, .float .f64 (floatOfInt .f64 b), .int .i64 2, .float .f64 (floatOfInt .f64 m), .int .i64 4, .float .f64 0] 52))
      have hw3 : Hid (w3.heap.size ≤ (w3.alloc (.cells #[.int .i64 1, .float .f64 (floatOfInt .f64 b), .int .i64 2, .float .f64 (floatOfInt .f64 m), .int .i64 4, .float .f64 0] 52)).heap.size) := (unhide K4).size
      generalize w3.alloc (.cells #[.int .i64 1, .float .f64 (floatOfInt .f64 b), .int .i64 2, .float .f64 (floatOfInt .f64 m), .int .i64 4, .float .f64 0] 52) = w4 at *
      generalize hG : w3.heap.size = G at *
      have HG := hide hG
      clear hG
      go_upto_if 53 with fail
      go_cut [11] (fun v wx => Hid (Hooks wx v (scH b m zero)) ∧ (∃ pv nv' cv', v = .slice pv nv' cv') ∧ Hid (Kp w3 wx))
      case first =>
        cases zero
        · go_wp2_with fail
          go_meet
          exact ⟨(unhide OH).hooks (show (3 : Nat) ≤ 1000000 by decide) (scH_ok (b := b) (m := m) false), ⟨_, _, _, rfl⟩, unhide K4⟩
        · have qa := Kp.alloc w4 (.cells #[.int .i64 3, .float .f64 0] 52)
          have OW := hide ((unhide OH).keep qa)
          have PC := hide (hok_cells w4 3 0)
          have BS : Hid (G ≤ (w4.alloc (.cells #[.int .i64 3, .float .f64 0] 52)).heap.size) := Nat.le_trans (unhide hw3) qa.size
          have QA := hide ((unhide K4).trans qa)
          clear qa
          go_wp2_with (at_builtin; go_must (refine wpList_append_hooks _ rfl (.tmp 54) (.tmp 56) rfl G (.slice (some ⟨G, 0, none⟩) 3 3) [⟨1, ofI b⟩, ⟨2, ofI m⟩, ⟨4, 0⟩] ⟨w4.heap.size, 0, none⟩ 1 1 [⟨3, 0⟩] rfl rfl (unhide OW) rfl (unhide PC) (show (3 : Nat) + 1 ≤ 1000000 by decide) (unhide BS) ?_); intro v2 w5 o2 g2)
          go_meet
          exact ⟨o2.hooks (show (4 : Nat) ≤ 1000000 by decide) (scH_ok (b := b) (m := m) true), o2.sl, (unhide QA).of_grown g2 (fun q hq => by have := (unhide OW).block q hq; have := unhide HG; omega)⟩
      case rest =>
        obtain ⟨HH, ⟨pv, nv', cv', rfl⟩, K5⟩ := hcut
        generalize wc = w5 at *
        have RUN := scH_run (zs := zs.take l0) (b := b) (m := m) (by
          intro z hz
          obtain ⟨i, hi, rfl⟩ := List.getElem_of_mem hz
          have hil : i < l0 := by rw [List.length_take] at hi; omega
          have := unhide BZ i hil
          have e : zs.getD i 0 = (zs.take l0)[i] := by
            rw [List.getElem_take]
            simp [show i < zs.length by have := unhide LZ; omega]
          rw [e] at this
          exact this) ⟨hb1, hb2⟩ hm1 hm2 zero
        obtain ⟨cs, hrun, hcl, hcw⟩ := RUN
        have hl0 : (zs.take l0).length = l0 := by rw [List.length_take]; have := unhide LZ; omega
        rw [hl0] at hcl hcw
        have HO := hide (ho_some (s := [(l0 : Int)]) (scH_may (b := b) (m := m) hm1 (by omega) zero) (unhide MT) hrun)
        have HCL := hide hcl
        have HCW : Hid (∀ i, i < l0 → Wh (cs.getD i 0) (scZ (zs.getD i 0) b m zero)) := by
          intro i hi
          have := hcw i hi
          have e : (zs.take l0).getD i 0 = zs.getD i 0 := by rw [List.getD_eq_getElem?_getD, List.getElem?_take, if_pos hi, ← List.getD_eq_getElem?_getD]
          rw [e] at this
          exact this
        clear hrun hcl hcw hl0
        generalize (zs.take l0).map ofI = dd at *
        have I5 := hide ((unhide II).keep (unhide K5))
        have F5 := hide ((unhide DF).keep (unhide K5))
        have KW5 := hide ((unhide KW).trans (unhide K5))
        obtain ⟨p0, p1, -, -, p4⟩ := ((unhide XI).keep (unhide K5)).o
        clear OH K4 hw3 II DF KW XI OI
        go_wp2_with fail
        refine (do_all _ (scH b m zero) _ _ [(l0 : Int)] dd w5 (unhide HH) (unhide I5) (unhide F5)).mono ?_
        rw [(unhide HO).1, (unhide HO).2.1, (unhide HO).2.2]
        rintro e w6 ⟨ds, ⟨a1, e1, a2, e2, rfl, i1, f1, -, -⟩, hc, k6⟩
        obtain rfl := whs_num (unhide HCL) (unhide HCW) hc
        rw [unhide HCL] at f1 ⊢
        have ka := Kp.alloc w6 (.cells #[.slice a1 1 e1, .slice a2 l0 e2] 31)
        have X7 := hide (Bx.made w6 (.slice a1 1 e1) (.slice a2 l0 e2))
        have F7 := hide (f1.keep ka)
        have K7 := hide ((unhide KW5).trans (k6.trans ka))
        clear i1 f1 hc k6 ka p0 p1 p4 I5 F5 KW5 HH K5
        go_upto_region 12 with fail
        generalize w6.alloc (.cells #[.slice a1 1 e1, .slice a2 l0 e2] 31) = w7 at *
        generalize w6.heap.size = U at *
        obtain ⟨fb, fo, rfl, hfb, hfc⟩ := flts_at' (unhide F7) (by rw [unhide HCL]; omega)
        have HFC : Hid (∀ w', Kp w7 w' → ∀ k, k < l0 → w'.cell? ⟨fb, fo + k, none⟩ = some (.float .f64 (ds.getD k 0))) := fun w' kk k hk => (Below.cell kk (p := ⟨fb, fo + k, none⟩) hfb).trans (hfc k (by rw [unhide HCL]; exact hk))
        obtain ⟨q0, q1, -, -, -⟩ := (unhide X7).o
        have hne : ((l0 : Int) != (l0 : Int)) = false := by simp
        clear hfc hfb F7
        go_wp2
        go_loopw [14] (fun i wr => ∃ (k : Nat), k ≤ l0 ∧ i = .int .i64 k ∧ Hid (Kp w7 wr)) (fun i _ => l0 - (intOf i).toNat)
        case atStart => exact ⟨0, Nat.zero_le _, rfl, Kp.refl _⟩
        case round =>
          obtain ⟨k, hk, rfl, KK⟩ := hrel
          clear q0 q1
          by_cases hkl : k < l0
          · have hklI : (k : Int) < (l0 : Int) := by omega
            have hck := unhide HC wr ((unhide K7).trans (unhide KK)) k hkl
            have hz := unhide BZ k hkl
            have hfk := unhide HFC wr (unhide KK) k hkl
            have hw := unhide HCW k hkl
            have HW := hide hw
            clear hw
            obtain ⟨q0, q1, -, -, -⟩ := ((unhide X7).keep (unhide KK)).o
            generalize ds.getD k 0 = y at *
            generalize zs.getD k 0 = z at *
            have pb : -16384 ≤ z * b ∧ z * b ≤ 16384 := by
              have h1 : (z * b).natAbs ≤ 128 * 128 := by
                rw [Int.natAbs_mul]
                exact Nat.mul_le_mul (by omega) (by omega)
              omega
            obtain ⟨pb1, pb2⟩ := pb
            cases zero
            · have HZ : Hid (∀ x, x = scZ z b m false → (FloatKind.f64.format.order y (floatOfInt .f64 x) != some .eq) = false) := by
                intro x hx
                have h := unhide HW
                rw [← hx] at h
                refine order_wh9 h (wh_ofI (z := x) ?_)
                rw [hx]
                unfold scZ
                split <;> omega
              clear HW
              by_cases h1 : z * b < -m
              · have hq := unhide HZ (-m) (by unfold scZ; rw [if_neg (by decide)]; omega)
                clear HZ
                have fm : -m ≤ m := by omega
                have f1 : z * b ≤ -m := by omega
                have f2 : max (z * b) (-m) = -m := by omega
                have f3 : min (-m) m = -m := by omega
                go_wp2
                go_roundw
                case rel => exact ⟨k + 1, by omega, by go_num, unhide KK⟩
                case measure => simp [intOf]; omega
              by_cases h2 : m < z * b
              · have hq := unhide HZ m (by unfold scZ; rw [if_neg (by decide)]; omega)
                clear HZ
                have fm : -m ≤ m := by omega
                have f1 : ¬ z * b < -m := by omega
                have f2 : max (z * b) (-m) = z * b := by omega
                have f3 : min (z * b) m = m := by omega
                go_wp2
                go_roundw
                case rel => exact ⟨k + 1, by omega, by go_num, unhide KK⟩
                case measure => simp [intOf]; omega
              · have hq := unhide HZ (z * b) (by unfold scZ; rw [if_neg (by decide)]; omega)
                clear HZ
                have fm : -m ≤ m := by omega
                have f1 : ¬ z * b < -m := by omega
                have f2 : max (z * b) (-m) = z * b := by omega
                have f3 : min (z * b) m = z * b := by omega
                go_wp2
                go_roundw
                case rel => exact ⟨k + 1, by omega, by go_num, unhide KK⟩
                case measure => simp [intOf]; omega
            · have HZ : Hid (∀ x, x = scZ z b m true → (FloatKind.f64.format.order y (floatOfInt .f64 x) != some .eq) = false) := by
                intro x hx
                have h := unhide HW
                rw [← hx] at h
                refine order_wh9 h (wh_ofI (z := x) ?_)
                rw [hx]
                unfold scZ
                split <;> omega
              clear HW
              by_cases h1 : z * b < -m
              · have hq := unhide HZ 0 (by unfold scZ; rw [if_pos rfl])
                clear HZ
                have fm : -m ≤ m := by omega
                have f1 : z * b ≤ -m := by omega
                have f2 : max (z * b) (-m) = -m := by omega
                have f3 : min (-m) m = -m := by omega
                go_wp2
                go_roundw
                case rel => exact ⟨k + 1, by omega, by go_num, unhide KK⟩
                case measure => simp [intOf]; omega
              by_cases h2 : m < z * b
              · have hq := unhide HZ 0 (by unfold scZ; rw [if_pos rfl])
                clear HZ
                have fm : -m ≤ m := by omega
                have f1 : ¬ z * b < -m := by omega
                have f2 : max (z * b) (-m) = z * b := by omega
                have f3 : min (z * b) m = m := by omega
                go_wp2
                go_roundw
                case rel => exact ⟨k + 1, by omega, by go_num, unhide KK⟩
                case measure => simp [intOf]; omega
              · have hq := unhide HZ 0 (by unfold scZ; rw [if_pos rfl])
                clear HZ
                have fm : -m ≤ m := by omega
                have f1 : ¬ z * b < -m := by omega
                have f2 : max (z * b) (-m) = z * b := by omega
                have f3 : min (z * b) m = z * b := by omega
                go_wp2
                go_roundw
                case rel => exact ⟨k + 1, by omega, by go_num, unhide KK⟩
                case measure => simp [intOf]; omega
          · have hklI : ¬ (k : Int) < (l0 : Int) := by omega
            go_wp2_with fail
            refine (awake9_any wr).mono ?_
            rintro e w9 ⟨rfl, k9⟩
            have K9 := hide ((unhide K7).trans ((unhide KK).trans k9))
            clear k9
            go_wp2
            go_ret
            exact ⟨rfl, unhide K9⟩

end Go.Proofs.Ytlfjclnocbohbaa
