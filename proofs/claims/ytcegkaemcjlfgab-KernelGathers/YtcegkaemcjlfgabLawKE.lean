
/- The law KernelGathers, walked. -/
import Derived.Test.YtcegkaemcjlfgabLawKD
namespace Go.Proofs.Ytcegkaemcjlfgab
open Go.RowKit Go.ChangeShapes

theorem Own.blk {w : World} {e : TypeId} {base : Nat} {v : Value} {xs : List Int} (h : Own w e base v xs) (hp : 0 < xs.length) :
    ∃ G c, base ≤ G ∧ v = .slice (some ⟨G, 0, none⟩) xs.length c ∧ (∀ i, w.frozen? ⟨G, i, none⟩ = false) ∧ (∀ i, i < xs.length → w.cell? ⟨G, i, none⟩ = some (.int .i64 (xs.getD i 0))) ∧ G < w.heap.size ∧ ∀ i x, Own (w.setCell ⟨G, i, none⟩ (.int .i64 x)) e base v (xs.set i x) := by
  obtain ⟨h0, ⟨_, h⟩ | ⟨g, cap, cur, rfl, hg, hh, h1, h2, h3, h4⟩⟩ := h
  · omega
  · refine ⟨g, cap, hg, rfl, fun i => by simp [World.frozen?, hh], fun i hi => ?_, (Array.getElem?_eq_some_iff.1 hh).1, fun i x => ?_⟩
    · have e1 : cur[i]? = some (.int .i64 (xs.getD i 0)) := by
        have h5 := congrArg (fun l => l[i]?) h4
        simp only [Nat.mul_one, List.getElem?_take, hi, if_true, List.getElem?_map, Array.getElem?_toList] at h5
        rw [h5]
        simp [hi]
      simp [World.cell?, hh, e1]
    · refine ⟨by simp, .inr ⟨g, cap, cur.setIfInBounds i (.int .i64 x), by rw [List.length_set], hg, ?_, by rw [List.length_set]; exact h1, h2, by simpa using h3, ?_⟩⟩
      · simp [World.setCell, Array.getElem?_modify, hh]
      · rw [Array.toList_setIfInBounds, List.length_set, List.map_set, ← h4, List.take_set]
theorem Ints.drop {w : World} {b off n cap : Nat} {xs : List Int} (h : Ints w (.slice (some ⟨b, off, none⟩) n cap) xs) {m : Nat} (hm : m ≤ n) (cap' : Nat) : Ints w (.slice (some ⟨b, off + m, none⟩) (n - m) cap') (xs.drop m) := by
  obtain ⟨h1, h2, h0, a, c, e, h3⟩ := h
  cases e
  have hl : (xs.drop m).length = xs.length - m := by rw [List.length_drop]
  refine ⟨fun x hx => h1 x (List.mem_of_mem_drop hx), by omega, (by intro n c h; cases h), some ⟨b, off + m, none⟩, cap', by rw [hl], fun hp => ?_⟩
  obtain ⟨b', off', e, hb, hc⟩ := h3 (by omega)
  cases e
  refine ⟨b, off + m, rfl, hb, fun i hi => ?_⟩
  have := hc (m + i) (by omega)
  rw [← Nat.add_assoc] at this
  rw [this]
  simp [List.getD_eq_getElem?_getD]
theorem InRowK.roomy {k : IntKind} {w : World} {a : Option Addr} {len cap : Nat} {zs : List Int} (h : InRowK k w a len cap zs) : len ≤ cap ∧ cap ≤ 9223372036854775807 := by
  rcases h with ⟨_, rfl, rfl, _⟩ | ⟨x, _, h1, h2, _⟩
  · omega
  · unfold maxLen at h2; omega
theorem whs_of {d : List Nat} (h : ∀ i, i < d.length → ∃ z : Int, Wh (d.getD i 0) z ∧ z.natAbs ≤ 1000) : ∃ z : List Int, Whs d z ∧ ∀ x ∈ z, x.natAbs ≤ 1000 := by
  induction d with
  | nil => exact ⟨[], trivial, by simp⟩
  | cons x d ih =>
    obtain ⟨z0, h0, hb0⟩ := h 0 (by simp)
    obtain ⟨z, hz, hb⟩ := ih (fun i hi => by simpa using h (i + 1) (by simpa using hi))
    refine ⟨z0 :: z, ⟨by simpa using h0, hz⟩, fun y hy => ?_⟩
    rcases List.mem_cons.1 hy with rfl | hy
    · exact hb0
    · exact hb y hy
theorem Whs.at : ∀ {l : List Nat} {k : List Int} {i : Nat}, Whs l k → i < l.length → Wh (l.getD i 0) (k.getD i 0)
  | x :: l, z :: k, 0, h, _ => by simpa using h.1
  | x :: l, z :: k, i + 1, h, hi => by simpa using Whs.at h.2 (by simpa using hi)
theorem ints_at {w : World} {p : Option Addr} {n c : Nat} {xs : List Int} (h : Ints w (.slice p n c) xs) (h0 : 0 < xs.length) : ∃ b off, p = some ⟨b, off, none⟩ ∧ b < w.heap.size ∧ ∀ i, i < xs.length → w.cell? ⟨b, off + i, none⟩ = some (.int .i64 (xs.getD i 0)) := by
  obtain ⟨_, _, _, a, cap, e, hv⟩ := h
  cases e
  exact hv h0
theorem set_head {n x : Int} {r : List Int} : (n :: r).set 0 x = x :: r := rfl

set_option maxHeartbeats 4000000 in
theorem gathers_walk (p p' : Option Addr) (c c' : Nat) (t : List Int) (d : List Nat) (fr : Int) (w : World) (mt : t.length ≤ 9223372036854775807) (md : d.length ≤ 9223372036854775807) (hfr : 0 ≤ fr ∧ fr ≤ 255) (hcap : t.length ≤ c ∧ c ≤ 9223372036854775807)
    (h0 : t.length ≤ 1000000 → Ints w (.slice p t.length c) t) (h1 : d.length ≤ 1000000 → Flts w (.slice p' d.length c') d) :
    Calls Try.prog 4 #[.agg #[.slice p t.length c, .slice p' d.length c'], .int .u8 fr] w fun e w' => e = .returned (.bool true) ∧ Kp w w' := by
  have INFO := hide Try.infoInt
  go_enter Try.func4, Try.ntmps4
  go_wp2_with fail
  obtain ⟨W, hW, x1, k0⟩ := box_in w (.slice p t.length c) (.slice p' d.length c')
  rw [← hW]
  clear hW
  generalize w.heap.size = B at x1 ⊢
  refine (awake4_any W).mono ?_
  rintro e w1 ⟨rfl, q1⟩
  have X1 := hide (x1.keep q1)
  have K1 := hide (k0.trans q1)
  clear x1 q1 k0
  obtain ⟨c0, c1, -, -, -⟩ := (unhide X1).o
  go_wp2_with fail
  refine (small_any p p' t.length c d.length c' w1 mt md).mono ?_
  rintro e w2 ⟨rfl, q2⟩
  clear c0 c1
  have X2 := hide ((unhide X1).keep q2)
  have K2 := hide ((unhide K1).trans q2)
  clear q2 X1 K1
  obtain ⟨c0, c1, -, -, -⟩ := (unhide X2).o
  by_cases gt : (decide (t.length ≤ 40) && decide (d.length ≤ 8192)) = true
  · rw [gt]
    simp only [Bool.and_eq_true, decide_eq_true_eq] at gt
    have H0 := hide (h0 (by omega))
    have H1 := hide (h1 (by omega))
    have td := gt.1
    have dd := gt.2
    clear h0 h1 gt
    go_wp2_with fail
    refine (rmayT_any _ _ t d w2 ((unhide H0).keep (unhide K2)) ((unhide H1).keep (unhide K2))).mono ?_
    rintro e w3 ⟨rfl, q3⟩
    clear c0 c1
    have X3 := hide ((unhide X2).keep q3)
    have K3 := hide ((unhide K2).trans q3)
    clear q3 X2 K2
    obtain ⟨c0, c1, -, -, -⟩ := (unhide X3).o
    cases hm : mayT t d
    · go_wp2
      go_ret
      exact ⟨rfl, unhide K3⟩
    · have HM := hide hm
      clear hm
      by_cases g2 : t.length < 2
      · have g2' : (t.length : Int) < 2 := by omega
        have g2'' : decide ((t.length : Int) < 2) = true := decide_eq_true g2'
        go_wp2
        go_ret
        exact ⟨rfl, unhide K3⟩
      · have g2' : ¬ (t.length : Int) < 2 := by omega
        have g2'' : decide ((t.length : Int) < 2) = false := decide_eq_false g2'
        have ht4 := (may_good (mayT_may (unhide HM))).1
        have hdp := mayT_pos (unhide HM)
        go_wp2
        clear c0 c1
        go_loopw [5] (fun i wr => ∃ j : Nat, j ≤ d.length ∧ i = .int .i64 j ∧ Hid (∀ i, i < j → ∃ z : Int, Wh (d.getD i 0) z ∧ z.natAbs ≤ 1000) ∧ Hid (Kp w3 wr)) (fun i _ => d.length - (intOf i).toNat)
        case atStart => exact ⟨0, Nat.zero_le _, rfl, by unfold Hid; omega, Kp.refl _⟩
        case round =>
          obtain ⟨j, hj, rfl, HA, KR⟩ := hrel
          obtain ⟨c0, c1, -, -, -⟩ := ((unhide X3).keep (unhide KR)).o
          by_cases hlt : j < d.length
          · obtain ⟨b, off, rfl, hb, hc⟩ := flts_at (unhide H1) (by omega)
            have hck := (Below.cell ((unhide K3).trans (unhide KR)) (p := ⟨b, off + j, none⟩) hb).trans (hc j hlt)
            have hjd : (j : Int) < (d.length : Int) := by omega
            have HX : Hid (∀ z : Int, Wh (d.getD j 0) z → z.natAbs ≤ 1000 → ∀ i, i < j + 1 → ∃ z : Int, Wh (d.getD i 0) z ∧ z.natAbs ≤ 1000) := by
              intro z h1 h2 i hi
              by_cases e : i = j
              · subst e; exact ⟨z, h1, h2⟩
              · exact unhide HA i (by omega)
            clear hc hb
            generalize d.getD j 0 = x at *
            have WI := hide (fun a b => whole_in (x := x) a b)
            cases hb1 : (FloatKind.f64.format.order x 13875379345695965184 == some .gt || FloatKind.f64.format.order x 13875379345695965184 == some .eq)
            · go_wp2
              go_ret
              exact ⟨rfl, (unhide K3).trans (unhide KR)⟩
            · cases hb2 : (FloatKind.f64.format.order x 4652007308841189376 == some .lt || FloatKind.f64.format.order x 4652007308841189376 == some .eq)
              · go_wp2
                go_ret
                exact ⟨rfl, (unhide K3).trans (unhide KR)⟩
              · obtain ⟨n, hn, hnb, hno⟩ := unhide WI hb1 hb2
                have HNO := hide hno
                have hcv : ∀ w, (convert 33 3 (.float .f64 x)).run Try.prog w = .ok (.int .i64 n) w := fun w => run_convert_float_int w _ _ .f64 .i64 x n (by kernel_rfl) Try.underlying3 hn
                clear WI hno hn
                cases hb3 : (FloatKind.f64.format.order x (floatOfInt .f64 n) == some .eq)
                · have hb3' : (FloatKind.f64.format.order x (floatOfInt .f64 n) != some .eq) = true := by unfold bne; rw [hb3]; rfl
                  go_wp2
                  go_ret
                  exact ⟨rfl, (unhide K3).trans (unhide KR)⟩
                · have hb3' : (FloatKind.f64.format.order x (floatOfInt .f64 n) != some .eq) = false := by unfold bne; rw [hb3]; rfl
                  have HW := hide (unhide HNO hb3)
                  have HX' := hide (unhide HX n (unhide HW).1 (unhide HW).2)
                  clear HNO
                  go_wp2
                  go_roundw
                  case rel => exact ⟨j + 1, by omega, by go_num, unhide HX', unhide KR⟩
                  case measure => simp [intOf]; omega
          · obtain rfl : j = d.length := by omega
            obtain ⟨z, hz, hzb⟩ := whs_of (unhide HA)
            have HZ := hide hz
            have HZB := hide hzb
            have K4 := hide ((unhide K3).trans (unhide KR))
            have X4 := hide ((unhide X3).keep (unhide KR))
            clear hz hzb HA KR X3 K3
            generalize wr = w4 at *
            obtain ⟨c0, c1, -, -, c4⟩ := (unhide X4).o
            have e1 := Int.emod_nonneg fr (b := (t.length : Int) - 1) (by omega)
            have e2 := Int.emod_lt_of_pos fr (b := (t.length : Int) - 1) (by omega)
            obtain ⟨k, hk⟩ : ∃ k : Nat, 1 + fr % ((t.length : Int) - 1) = (k : Int) := ⟨(1 + fr % ((t.length : Int) - 1)).toNat, by omega⟩
            have k1 : 1 ≤ k := by omega
            have k2 : k < t.length := by omega
            have ht1 : 1 ≤ (t.length : Int) - 1 := by omega
            have S4 := hide ((unhide H0).keep (unhide K4))
            have D4 := hide ((unhide H1).keep (unhide K4))
            have WT := hide (unhide H0).wf
            obtain ⟨n, r, HT⟩ : ∃ n r, Hid (t = n :: r) := by
              match t, k2 with
              | n :: r, _ => exact ⟨n, r, rfl⟩
            clear H0 H1
            have qa := Kp.alloc w4 (.cells #[] 3)
            have OW := hide (Own.lit w4 3 [] #[] w4.heap.size 0 w4.heap.size rfl rfl rfl (Nat.le_refl _) (by decide))
            have AP := hide ((unhide S4).keep qa)
            have RM : Hid ((([] : List Int).length + t.length) * 8 ≤ 140737488351232) := by unfold Hid; rw [List.length_nil]; omega
            have BS : Hid (w4.heap.size ≤ (w4.alloc (.cells #[] 3)).heap.size) := qa.size
            have QA := hide qa
            clear qa
            go_upto_region 13 with (at_builtin; go_must (refine wpList_append_ints _ rfl (.tmp 67) (.tmp 69) 22 rfl w4.heap.size 3 (unhide INFO) Try.underlying22 _ _ [] t rfl rfl (unhide OW) (unhide AP) (unhide RM) (unhide BS) ?_); intro v2 w5 o2 g2)
            have q5 : Kp w4 w5 := Kp.of_grown (unhide QA) g2 (fun k hk => (unhide OW).block k hk)
            rw [List.nil_append] at o2
            obtain ⟨G, cG, hG, rfl, hfz, hcl, hGl, hset⟩ := o2.blk (by omega)
            have f0 := hfz 0
            have l0 := hcl 0 (by omega)
            have O6 := hide (hset 0 1)
            have q6 : Kp w4 (w5.setCell ⟨G, 0, none⟩ (.int .i64 1)) := q5.set hG (.int .i64 1)
            clear o2 g2 hfz hcl hset OW AP RM BS QA c0 c1 c4
            have X5 := hide ((unhide X4).keep q5)
            clear hk
            generalize t.getD 0 0 = t0 at l0
            go_upto_region 14 with fail
            have X6 := hide ((unhide X4).keep q6)
            have S6 := hide ((unhide S4).keep q6)
            have D6 := hide ((unhide D4).keep q6)
            have K6 := hide ((unhide K4).trans q6)
            have M6 : Hid (Ints (w5.setCell ⟨G, 0, none⟩ (.int .i64 1)) (.slice (some ⟨G, 0, none⟩) t.length cG) (1 :: r)) := by
              have hi := (unhide O6).ints (fun x hx => by
                rcases List.mem_or_eq_of_mem_set hx with h | h
                · exact unhide WT x h
                · rw [h]; unfold I64; omega) (by rw [List.length_set]; omega)
              have e : t.set 0 1 = 1 :: r := by rw [unhide HT]; rfl
              rw [e] at hi
              exact hi
            clear l0 f0 q5 q6 hG hGl O6 X5 X4 S4 D4 K4
            generalize w5.setCell ⟨G, 0, none⟩ (.int .i64 1) = w6 at *
            obtain ⟨b, off, rfl, hb, -⟩ := ints_at (unhide S6) (by omega)
            have qa := Kp.alloc w6 (.cells #[] 3)
            have OW := hide (Own.lit w6 3 [] #[] w6.heap.size 0 w6.heap.size rfl rfl rfl (Nat.le_refl _) (by decide))
            have AP := hide (((unhide S6).drop (m := k) (by omega) (c - k)).keep qa)
            have RM : Hid ((([] : List Int).length + (t.drop k).length) * 8 ≤ 140737488351232) := by unfold Hid; rw [List.length_nil, List.length_drop]; omega
            have BS : Hid (w6.heap.size ≤ (w6.alloc (.cells #[] 3)).heap.size) := qa.size
            have QA := hide qa
            clear qa hb
            obtain ⟨c0, c1, -, -, c4⟩ := (unhide X6).o
            have hk0 : (k : Int) ≤ (t.length : Int) := by omega
            have hkc : (k : Int) ≤ (c : Int) := by omega
            go_upto_region 15 with (at_builtin; go_must (refine wpList_append_ints _ rfl (.tmp 73) (.tmp 77) 22 rfl w6.heap.size 3 (unhide INFO) Try.underlying22 _ _ [] (t.drop k) rfl rfl (unhide OW) (unhide AP) (unhide RM) (unhide BS) ?_); intro v3 w7 o3 g3)
            have q7 : Kp w6 w7 := Kp.of_grown (unhide QA) g3 (fun k hk => (unhide OW).block k hk)
            rw [List.nil_append] at o3
            have E7 := hide (o3.ints (fun x hx => unhide WT x (List.mem_of_mem_drop hx)) (by rw [List.length_drop]; omega))
            have X7 := hide ((unhide X6).keep q7)
            have S7 := hide ((unhide S6).keep q7)
            have D7 := hide ((unhide D6).keep q7)
            have M7 := hide ((unhide M6).keep q7)
            have K7 := hide ((unhide K6).trans q7)
            clear o3 g3 q7 OW AP RM BS QA c0 c1 c4 X6 S6 D6 M6 K6
            obtain ⟨ae, ce, rfl, -⟩ := (unhide E7).val
            have MB : Hid (mayB t = true) := mayT_may (unhide HM)
            have MB' : Hid (mayB (n :: r) = true) := by rw [← unhide HT]; exact unhide MB
            have I1 : Hid (intoB (1 :: r) t = true) := by have := into_mid (unhide MB'); rw [← unhide HT] at this; exact this
            have I2 : Hid (intoB (t.drop k) t = true) := into_drop (unhide MB) k
            have I3 : Hid (intoB (t.drop k) (1 :: r) = true) := by
              have := into_drop (mid_may (unhide MB')) k
              have e : (1 :: r).drop k = t.drop k := by
                obtain ⟨k', rfl⟩ : ∃ k', k = k' + 1 := ⟨k - 1, by omega⟩
                rw [unhide HT]
                rfl
              rw [e] at this
              exact this
            have P1 := hide (gat_yes (f := 1 :: r) (t := t) (d := d) (by rw [unhide HM, unhide I1]; rfl))
            have P3 := hide (gat_yes (f := t.drop k) (t := t) (d := d) (by rw [unhide HM, unhide I2]; rfl))
            have ZL : Hid ((z.length : Int) = prodL (n :: r)) := by
              have h1 := (unhide HZ).len
              have h2 := mayT_len (unhide HM)
              have h3 : prodL t = prodL (n :: r) := by rw [unhide HT]
              unfold Hid
              omega
            have GT : Hid (gatZ (1 :: r) (gatZ t z (1 :: r)) (t.drop k) = gatZ t z (t.drop k)) := by
              have := gather_twice (unhide MB') k1 (unhide ZL)
              rw [← unhide HT] at this
              exact this
            have W1 : Hid (∀ ds : List Nat, ds.map cn = gatL t d (1 :: r) → Whs ds (gatZ t z (1 :: r)) ∧ mayT (1 :: r) ds = true) := by
              intro ds h
              refine ⟨gat_whs (unhide HM) (unhide I1) (unhide HZ) (unhide HZB) (by decide) h, ?_⟩
              have hl : ds.length = (prodL (1 :: r)).toNat := by
                rw [(unhide P1).2.1] at h
                have := congrArg List.length h
                simpa using this
              have hm := mid_may (unhide MB')
              have hp := prodL_pos (may_good hm).2
              unfold mayT
              rw [hm, hl]
              simp only [Bool.true_and, beq_iff_eq]
              omega
            have W3 : Hid (∀ ds : List Nat, ds.map cn = gatL t d (t.drop k) → Whs ds (gatZ t z (t.drop k))) := fun ds h => gat_whs (unhide HM) (unhide I2) (unhide HZ) (unhide HZB) (by decide) h
            have ZB2 : Hid (∀ x ∈ gatZ t z (1 :: r), x.natAbs ≤ 1000 * 4096) := gatZ_bound (unhide HM) (unhide HZ) (unhide HZB)
            have HP : Hid (∀ ds : List Nat, ds.map cn = gatL t d (t.drop k) → 0 < ds.length) := by
              intro ds h
              rw [(unhide P3).2.1] at h
              have := congrArg List.length h
              have hp := prodL_pos (may_good (into_spec (unhide I2)).1).2
              simp at this
              omega
            generalize t.drop k = u at *
            generalize u.length = ul at *
            obtain ⟨c0, c1, -, -, -⟩ := (unhide X7).o
            go_wp2_with fail
            refine (Kgather_all _ _ _ t (1 :: r) d w7 (unhide S7) (unhide D7) (unhide M7)).mono ?_
            rw [(unhide P1).1, (unhide P1).2.2]
            rintro e w8 ⟨db, ⟨ab, cb, bb, dbc, rfl, sb, fb⟩, hcb, q8⟩
            clear c0 c1
            have WB := hide (unhide W1 db hcb)
            have SB8 := hide sb
            have FB8 := hide fb
            have X8 := hide ((unhide X7).keep q8)
            have S8 := hide ((unhide S7).keep q8)
            have D8 := hide ((unhide D7).keep q8)
            have E8 := hide ((unhide E7).keep q8)
            have K8 := hide ((unhide K7).trans q8)
            clear sb fb q8 X7 S7 D7 E7 M7 K7 hcb W1 P1
            have P2 := hide (gat_yes (f := u) (t := 1 :: r) (d := db) (by rw [(unhide WB).2, unhide I3]; rfl))
            have W2 : Hid (∀ ds : List Nat, ds.map cn = gatL (1 :: r) db u → Whs ds (gatZ t z u)) := by
              intro ds h
              rw [← unhide GT]
              exact gat_whs (unhide WB).2 (unhide I3) (unhide WB).1 (unhide ZB2) (by decide) h
            generalize (1 :: r).length = ml at *
            go_upto_region 16 with fail
            have YB := hide (Bx.made w8 (.slice ab ml cb) (.slice bb db.length dbc))
            have qa := Kp.alloc w8 (.cells #[.slice ab ml cb, .slice bb db.length dbc] 25)
            have X9 := hide ((unhide X8).keep qa)
            have S9 := hide ((unhide S8).keep qa)
            have D9 := hide ((unhide D8).keep qa)
            have E9 := hide ((unhide E8).keep qa)
            have SB9 := hide ((unhide SB8).keep qa)
            have FB9 := hide ((unhide FB8).keep qa)
            have K9 := hide ((unhide K8).trans qa)
            clear qa X8 S8 D8 E8 SB8 FB8 K8
            generalize w8.alloc (.cells #[.slice ab ml cb, .slice bb db.length dbc] 25) = w9 at *
            generalize w8.heap.size = Y at *
            obtain ⟨y0, y1, -, -, -⟩ := (unhide YB).o
            go_wp2_with fail
            refine (Kgather_all _ _ _ (1 :: r) u db w9 (unhide SB9) (unhide FB9) (unhide E9)).mono ?_
            rw [(unhide P2).1, (unhide P2).2.2]
            rintro e w10 ⟨dc, ⟨ac, cc, bc, dcc, rfl, sc, fc⟩, hcc, q10⟩
            clear y0 y1
            have WC := hide (unhide W2 dc hcc)
            have FC10 := hide fc
            have X10 := hide ((unhide X9).keep q10)
            have S10 := hide ((unhide S9).keep q10)
            have D10 := hide ((unhide D9).keep q10)
            have E10 := hide ((unhide E9).keep q10)
            have K10 := hide ((unhide K9).trans q10)
            clear sc fc q10 X9 S9 D9 E9 SB9 FB9 K9 hcc W2 P2 YB WB
            go_upto_region 17 with fail
            have ZB := hide (Bx.made w10 (.slice ac u.length cc) (.slice bc dc.length dcc))
            have qa := Kp.alloc w10 (.cells #[.slice ac u.length cc, .slice bc dc.length dcc] 25)
            have X11 := hide ((unhide X10).keep qa)
            have S11 := hide ((unhide S10).keep qa)
            have D11 := hide ((unhide D10).keep qa)
            have E11 := hide ((unhide E10).keep qa)
            have FC11 := hide ((unhide FC10).keep qa)
            have K11 := hide ((unhide K10).trans qa)
            clear qa X10 S10 D10 E10 FC10 K10
            generalize w10.alloc (.cells #[.slice ac u.length cc, .slice bc dc.length dcc] 25) = w11 at *
            generalize w10.heap.size = Z at *
            obtain ⟨c0, c1, -, -, -⟩ := (unhide X11).o
            go_wp2_with fail
            refine (Kgather_all _ _ _ t u d w11 (unhide S11) (unhide D11) (unhide E11)).mono ?_
            rw [(unhide P3).1, (unhide P3).2.2]
            rintro e w12 ⟨de, ⟨ad, cd, bd, dec, rfl, sd, fd⟩, hce, q12⟩
            clear c0 c1
            have WE := hide (unhide W3 de hce)
            have hep := unhide HP de hce
            have FC12 := hide ((unhide FC11).keep q12)
            have FE12 := hide fd
            have Z12 := hide ((unhide ZB).keep q12)
            have K12 := hide ((unhide K11).trans q12)
            clear sd fd q12 X11 S11 D11 E11 FC11 K11 hce W3 P3 HP ZB
            have hle : dc.length = de.length := (unhide WC).len.trans (unhide WE).len.symm
            have hb1 : ((dc.length : Int) != (de.length : Int)) = false := by rw [hle]; simp
            have hle2 : dc.length ≤ de.length := by omega
            have hle3 : de.length ≤ dc.length := by omega
            clear hle
            go_upto_region 18 with fail
            have VB := hide (Bx.made w12 (.slice ad u.length cd) (.slice bd de.length dec))
            have qa := Kp.alloc w12 (.cells #[.slice ad u.length cd, .slice bd de.length dec] 25)
            have Z13 := hide ((unhide Z12).keep qa)
            have FC13 := hide ((unhide FC12).keep qa)
            have FE13 := hide ((unhide FE12).keep qa)
            have K13 := hide ((unhide K12).trans qa)
            clear qa Z12 FC12 FE12 K12
            generalize w12.alloc (.cells #[.slice ad u.length cd, .slice bd de.length dec] 25) = w13 at *
            generalize w12.heap.size = V at *
            obtain ⟨z0, z1, -, -, -⟩ := (unhide Z13).o
            obtain ⟨v0, v1, -, -, -⟩ := (unhide VB).o
            have hrm := (unhide FC13).room
            go_wp2
            clear z0 z1 v0 v1
            go_loopw [16] (fun i wr => ∃ i' : Nat, i' ≤ dc.length ∧ i = .int .i64 i' ∧ Hid (Kp w13 wr)) (fun i _ => dc.length - (intOf i).toNat)
            case atStart => exact ⟨0, Nat.zero_le _, rfl, Kp.refl _⟩
            case round =>
              obtain ⟨i, hi, rfl, KR⟩ := hrel
              obtain ⟨z0, z1, -, -, -⟩ := ((unhide Z13).keep (unhide KR)).o
              obtain ⟨v0, v1, -, -, -⟩ := ((unhide VB).keep (unhide KR)).o
              by_cases hlt : i < dc.length
              · obtain ⟨b1, o1, rfl, hb1', hc1⟩ := flts_at (unhide FC13) (by omega)
                obtain ⟨b2, o2, rfl, hb2', hc2⟩ := flts_at (unhide FE13) (by omega)
                have f1 := (Below.cell (unhide KR) (p := ⟨b1, o1 + i, none⟩) hb1').trans (hc1 i hlt)
                have f2 := (Below.cell (unhide KR) (p := ⟨b2, o2 + i, none⟩) hb2').trans (hc2 i (by omega))
                have hq1 := order_wh ((unhide WC).at hlt) ((unhide WE).at (by omega))
                have hie : i < de.length := by omega
                have hi1 : (i : Int) < (dc.length : Int) := by omega
                have hi2 : (i : Int) < (de.length : Int) := by omega
                clear hc1 hc2 hb1' hb2'
                generalize dc.getD i 0 = x at *
                generalize de.getD i 0 = y at *
                have hq2 : (FloatKind.f64.format.order x y == some .eq) = true := hq1
                have hq3 : (FloatKind.f64.format.order x y != some .eq) = false := by unfold bne; rw [hq2]; rfl
                clear hq1
                go_wp2
                go_quiet (fail)
                go_wp2
                go_roundw
                case rel => exact ⟨i + 1, by omega, by go_num, (unhide KR).trans (Kp.drewN _ _)⟩
                case measure => simp [intOf]; omega
              · go_wp2
                go_ret
                exact ⟨rfl, (unhide K13).trans (unhide KR)⟩
  · have gf := eq_false_of_ne_true gt
    rw [gf]
    clear h0 h1 gt gf
    go_wp2
    go_ret
    exact ⟨rfl, unhide K2⟩

end Go.Proofs.Ytcegkaemcjlfgab
