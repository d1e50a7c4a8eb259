
/- The law ReachChains. -/
import Derived.Test.YtefohemihiiceaaRchH
import Derived.Deep.RegionHeld3
import Derived.OpenShut
namespace Go.Proofs.Ytefohemihiiceaa
open Go.RowKit Go.Shelf

theorem u8E {a : Int} (h : (Lit.int .u8 a).wf = true) : ∃ n : Nat, a = n ∧ n < 256 := by
  have h2 := bounds_u8 h
  exact ⟨a.toNat, by omega, by omega⟩

set_option maxRecDepth 20000 in
set_option maxHeartbeats 16000000 in
theorem chained_any (n r0 : Nat) (a : Option Addr) (len cap : Nat) (zs : List Bool) (hn : n < 256) (hr0 : r0 < 256) (w : World) (h : InRowB w a len cap zs) :
    Calls Try.prog 7 #[.int .u8 n, .slice a len cap, .int .u8 r0] w fun e w' => e = .returned (.bool true) ∧ Kp w w' := by
  have hmax := h.max
  have H := hide h
  clear h
  have hk0 : ((n : Int)).tmod 100 = ((n % 100 : Nat) : Int) := by rw [Int.tmod_eq_emod_of_nonneg (by omega)]; omega
  have hm1 := Nat.mod_lt n (show 0 < 100 by decide)
  generalize hK : n % 100 = km at *
  clear hK
  obtain ⟨tw, htw⟩ : ∃ tw : Nat → Bool, tw = fun i => decide (i < len) && zs.getD i false := ⟨_, rfl⟩
  have HTW := hide htw
  clear htw
  go_enter Try.func7, Try.ntmps7
  go_wp2_with fail
  refine (awake11_any w).mono ?_
  rintro e w1 ⟨rfl, k1⟩
  have K1 := hide k1
  clear k1
  by_cases hlen : 200 < len
  · have hlI : (200 : Int) < (len : Int) := by omega
    go_wp2
    go_ret
    exact ⟨by first | rfl | trivial, unhide K1⟩
  · have hlI : ¬ (200 : Int) < (len : Int) := by omega
    have HS := hide (chn_start w1 tw)
    go_wp2_with fail
    generalize (World.alloc _ _) = w2 at *
    have hwl : Hid (w.heap.size ≤ w1.heap.size) := (unhide K1).size
    obtain ⟨B0, hB0⟩ : ∃ B0, B0 = w1.heap.size := ⟨_, rfl⟩
    rw [← hB0] at HS ⊢
    clear hB0
    go_loopw [9] (fun i wr => ∃ q : Nat, 1 ≤ q ∧ q ≤ km + 1 ∧ i = .int .i64 q ∧ (∃ v, Hid (Chn w1 wr B0 q tw v))) (fun i _ => km + 1 - (intOf i).toNat)
    case atStart => exact ⟨1, Nat.le_refl _, by omega, rfl, _, unhide HS⟩
    case round =>
      obtain ⟨q, hq1, hq2, rfl, v, HC⟩ := hrel
      clear HS
      obtain ⟨xs, hx, hnr⟩ := (unhide HC).row
      have HX := hide hx
      have HNR := hide hnr
      clear hx hnr
      by_cases hlt : q < km + 1
      · have hltI : (q : Int) < 1 + (km : Int) := by omega
        obtain ⟨j, rfl⟩ : ∃ j, q = j + 1 := ⟨q - 1, by omega⟩
        have ej : ((j + 1 : Nat) : Int) = (j : Int) + 1 := by omega
        rw [ej] at hltI ⊢
        have hcb : wr.cell? ⟨B0 + 1, 0, none⟩ = some v := by rw [cellsE (unhide HC).box]; rfl
        cases ht : tw (j + 1)
        · have hc1 := chO_one ht
          have HC1 := hide hc1
          clear hc1
          by_cases hjl : j + 1 < len
          · have hjI : (j : Int) + 1 < (len : Int) := by omega
            obtain ⟨b, off, rfl, hcell⟩ := (unhide H).at (by omega)
            have hzv : zs.getD (j + 1) false = false := by
              have := ht
              rw [unhide HTW] at this
              simpa [hjl] using this
            have kk := ((unhide K1).trans (unhide HC).kp).trans ((Kp.alloc wr (.cells #[.int .i64 j] 3)).trans (Kp.alloc _ (.cells #[.int .i64 8, .slice (some ⟨wr.heap.size, 0, none⟩) 1 1, .slice none 0 0, .int .i64 0, .slice none 0 0, .slice none 0 0, .slice none 0 0] 47)))
            have cz := kk.cellT (hcell (j + 1) hjl)
            rw [hzv] at cz
            clear hcell kk
            have kA1 := (Kp.alloc wr (.cells #[.int .i64 j] 3)).trans (Kp.alloc _ (.cells #[.int .i64 8, .slice (some ⟨wr.heap.size, 0, none⟩) 1 1, .slice none 0 0, .int .i64 0, .slice none 0 0, .slice none 0 0, .slice none 0 0] 47))
            have hcb1 := kA1.cellT hcb
            have kA := kA1.trans (Kp.alloc _ (.cells #[.int .i64 8, .slice (some ⟨wr.heap.size, 0, none⟩) 1 1, .slice none 0 0, .int .i64 0, .slice none 0 0, .slice none 0 0, .slice none 0 0] 47))
            have OWN := hide (owns_kpE (unhide HX) kA)
            have KA := hide kA
            have hR1 : Hid ((((wr.alloc (.cells #[.int .i64 j] 3)).alloc (.cells #[.int .i64 8, .slice (some ⟨wr.heap.size, 0, none⟩) 1 1, .slice none 0 0, .int .i64 0, .slice none 0 0, .slice none 0 0, .slice none 0 0] 47)).alloc (.cells #[.int .i64 8, .slice (some ⟨wr.heap.size, 0, none⟩) 1 1, .slice none 0 0, .int .i64 0, .slice none 0 0, .slice none 0 0, .slice none 0 0] 47)).heap[wr.heap.size]? = some (.cells #[.int .i64 j] 3)) := holdE (holdE (hnewE wr _ _ rfl))
            have HBS : Hid (B0 ≤ (((wr.alloc (.cells #[.int .i64 j] 3)).alloc (.cells #[.int .i64 8, .slice (some ⟨wr.heap.size, 0, none⟩) 1 1, .slice none 0 0, .int .i64 0, .slice none 0 0, .slice none 0 0, .slice none 0 0] 47)).alloc (.cells #[.int .i64 8, .slice (some ⟨wr.heap.size, 0, none⟩) 1 1, .slice none 0 0, .int .i64 0, .slice none 0 0, .slice none 0 0, .slice none 0 0] 47)).heap.size) := by have h1 := kA.size; have h2 := (unhide HC).sz; unfold Hid; omega
            clear kA1 kA
            obtain ⟨i0, hin, hz0, hz1, hz2⟩ := info_parts infoNE
            go_wp2_with (at_builtin; go_must (refine wpList_append_own _ rfl _ _ 22 rfl B0 47 i0 (.agg #[.int .i64 0, .slice none 0 0, .slice none 0 0, .int .i64 0, .slice none 0 0, .slice none 0 0, .slice none 0 0]) 7 136 Try.underlying22 hin hz0 hz1 hz2 rfl (by decide) v (j + 1) xs rfl (unhide OWN) ⟨wr.heap.size + 2, 0, none⟩ 1 1 (nCE (ndI 8 [(j : Int)]) (some ⟨wr.heap.size, 0, none⟩) 1) rfl rfl (fun i u hi => cells_newE _ (nCE (ndI 8 [(j : Int)]) (some ⟨wr.heap.size, 0, none⟩) 1) 47 _ i u (by simp only [szAllE]) hi) (nCE_one _ _ _) (by unfold maxLen; omega) (by omega) (unhide HBS) ?_); intro v' w8 ho8 hg8 hnil8; obtain ⟨a4, k4, rfl⟩ := owns_formE ho8; have hbx8 := chn_box (unhide HC) (Nat.succ_pos _) (unhide HX) (unhide KA) hg8; have cb8 := hbx8.cell; have cf8 := hbx8.frozen; have HO8 := hide ho8; have HG8 := hide hg8; clear ho8 hg8 hnil8 hbx8)
            have hst := chn_more (c := 1) (unhide HC) (Nat.succ_pos _) (by omega) (unhide HX) (unhide HNR) (unhide KA) (Nat.le_refl _) (by rw [unhide HC1]; exact unhide hR1) (by rw [unhide HC1]; exact unhide HO8) (unhide HG8)
            exact ⟨⟨j + 1 + 1, by omega, by omega, by go_num, _, hst⟩, by simp [intOf]; omega⟩
          · have hjI : ¬ (j : Int) + 1 < (len : Int) := by omega
            have kA1 := (Kp.alloc wr (.cells #[.int .i64 j] 3)).trans (Kp.alloc _ (.cells #[.int .i64 8, .slice (some ⟨wr.heap.size, 0, none⟩) 1 1, .slice none 0 0, .int .i64 0, .slice none 0 0, .slice none 0 0, .slice none 0 0] 47))
            have hcb1 := kA1.cellT hcb
            have kA := kA1.trans (Kp.alloc _ (.cells #[.int .i64 8, .slice (some ⟨wr.heap.size, 0, none⟩) 1 1, .slice none 0 0, .int .i64 0, .slice none 0 0, .slice none 0 0, .slice none 0 0] 47))
            have OWN := hide (owns_kpE (unhide HX) kA)
            have KA := hide kA
            have hR1 : Hid ((((wr.alloc (.cells #[.int .i64 j] 3)).alloc (.cells #[.int .i64 8, .slice (some ⟨wr.heap.size, 0, none⟩) 1 1, .slice none 0 0, .int .i64 0, .slice none 0 0, .slice none 0 0, .slice none 0 0] 47)).alloc (.cells #[.int .i64 8, .slice (some ⟨wr.heap.size, 0, none⟩) 1 1, .slice none 0 0, .int .i64 0, .slice none 0 0, .slice none 0 0, .slice none 0 0] 47)).heap[wr.heap.size]? = some (.cells #[.int .i64 j] 3)) := holdE (holdE (hnewE wr _ _ rfl))
            have HBS : Hid (B0 ≤ (((wr.alloc (.cells #[.int .i64 j] 3)).alloc (.cells #[.int .i64 8, .slice (some ⟨wr.heap.size, 0, none⟩) 1 1, .slice none 0 0, .int .i64 0, .slice none 0 0, .slice none 0 0, .slice none 0 0] 47)).alloc (.cells #[.int .i64 8, .slice (some ⟨wr.heap.size, 0, none⟩) 1 1, .slice none 0 0, .int .i64 0, .slice none 0 0, .slice none 0 0, .slice none 0 0] 47)).heap.size) := by have h1 := kA.size; have h2 := (unhide HC).sz; unfold Hid; omega
            clear kA1 kA
            obtain ⟨i0, hin, hz0, hz1, hz2⟩ := info_parts infoNE
            go_wp2_with (at_builtin; go_must (refine wpList_append_own _ rfl _ _ 22 rfl B0 47 i0 (.agg #[.int .i64 0, .slice none 0 0, .slice none 0 0, .int .i64 0, .slice none 0 0, .slice none 0 0, .slice none 0 0]) 7 136 Try.underlying22 hin hz0 hz1 hz2 rfl (by decide) v (j + 1) xs rfl (unhide OWN) ⟨wr.heap.size + 2, 0, none⟩ 1 1 (nCE (ndI 8 [(j : Int)]) (some ⟨wr.heap.size, 0, none⟩) 1) rfl rfl (fun i u hi => cells_newE _ (nCE (ndI 8 [(j : Int)]) (some ⟨wr.heap.size, 0, none⟩) 1) 47 _ i u (by simp only [szAllE]) hi) (nCE_one _ _ _) (by unfold maxLen; omega) (by omega) (unhide HBS) ?_); intro v' w8 ho8 hg8 hnil8; obtain ⟨a4, k4, rfl⟩ := owns_formE ho8; have hbx8 := chn_box (unhide HC) (Nat.succ_pos _) (unhide HX) (unhide KA) hg8; have cb8 := hbx8.cell; have cf8 := hbx8.frozen; have HO8 := hide ho8; have HG8 := hide hg8; clear ho8 hg8 hnil8 hbx8)
            have hst := chn_more (c := 1) (unhide HC) (Nat.succ_pos _) (by omega) (unhide HX) (unhide HNR) (unhide KA) (Nat.le_refl _) (by rw [unhide HC1]; exact unhide hR1) (by rw [unhide HC1]; exact unhide HO8) (unhide HG8)
            exact ⟨⟨j + 1 + 1, by omega, by omega, by go_num, _, hst⟩, by simp [intOf]; omega⟩
        · have hc1 := chO_two ht
          have HC1 := hide hc1
          clear hc1
          have hjl : j + 1 < len := by
            have := ht
            rw [unhide HTW] at this
            simp at this
            exact this.1
          have hzv : zs.getD (j + 1) false = true := by
            have := ht
            rw [unhide HTW] at this
            simp at this
            simpa [List.getD] using this.2
          have hjI : (j : Int) + 1 < (len : Int) := by omega
          obtain ⟨b, off, rfl, hcell⟩ := (unhide H).at (by omega)
          have kk := ((unhide K1).trans (unhide HC).kp).trans ((Kp.alloc wr (.cells #[.int .i64 j] 3)).trans (Kp.alloc _ (.cells #[.int .i64 8, .slice (some ⟨wr.heap.size, 0, none⟩) 1 1, .slice none 0 0, .int .i64 0, .slice none 0 0, .slice none 0 0, .slice none 0 0] 47)))
          have cz := kk.cellT (hcell (j + 1) hjl)
          rw [hzv] at cz
          clear hcell kk
          have kA1 := ((Kp.alloc wr (.cells #[.int .i64 j] 3)).trans (Kp.alloc _ (.cells #[.int .i64 4, .slice (some ⟨wr.heap.size + 1 + 1, 0, none⟩) 2 2, .slice none 0 0, .int .i64 0, .slice none 0 0, .slice none 0 0, .slice none 0 0] 47))).trans (Kp.alloc _ (.cells #[.int .i64 j, .int .i64 j] 3))
          have hcb1 := kA1.cellT hcb
          have kA := kA1.trans (Kp.alloc _ (.cells #[.int .i64 4, .slice (some ⟨wr.heap.size + 1 + 1, 0, none⟩) 2 2, .slice none 0 0, .int .i64 0, .slice none 0 0, .slice none 0 0, .slice none 0 0] 47))
          have OWN := hide (owns_kpE (unhide HX) kA)
          have KA := hide kA
          have hR1 : Hid (((((wr.alloc (.cells #[.int .i64 j] 3)).alloc (.cells #[.int .i64 4, .slice (some ⟨wr.heap.size + 1 + 1, 0, none⟩) 2 2, .slice none 0 0, .int .i64 0, .slice none 0 0, .slice none 0 0, .slice none 0 0] 47)).alloc (.cells #[.int .i64 j, .int .i64 j] 3)).alloc (.cells #[.int .i64 4, .slice (some ⟨wr.heap.size + 1 + 1, 0, none⟩) 2 2, .slice none 0 0, .int .i64 0, .slice none 0 0, .slice none 0 0, .slice none 0 0] 47)).heap[wr.heap.size + 1 + 1]? = some (.cells #[.int .i64 j, .int .i64 j] 3)) := holdE (hnewE _ _ _ (by simp only [szAllE]))
          have HBS : Hid (B0 ≤ ((((wr.alloc (.cells #[.int .i64 j] 3)).alloc (.cells #[.int .i64 4, .slice (some ⟨wr.heap.size + 1 + 1, 0, none⟩) 2 2, .slice none 0 0, .int .i64 0, .slice none 0 0, .slice none 0 0, .slice none 0 0] 47)).alloc (.cells #[.int .i64 j, .int .i64 j] 3)).alloc (.cells #[.int .i64 4, .slice (some ⟨wr.heap.size + 1 + 1, 0, none⟩) 2 2, .slice none 0 0, .int .i64 0, .slice none 0 0, .slice none 0 0, .slice none 0 0] 47)).heap.size) := by have h1 := kA.size; have h2 := (unhide HC).sz; unfold Hid; omega
          clear kA1 kA
          obtain ⟨i0, hin, hz0, hz1, hz2⟩ := info_parts infoNE
          go_wp2_with (at_builtin; go_must (refine wpList_append_own _ rfl _ _ 22 rfl B0 47 i0 (.agg #[.int .i64 0, .slice none 0 0, .slice none 0 0, .int .i64 0, .slice none 0 0, .slice none 0 0, .slice none 0 0]) 7 136 Try.underlying22 hin hz0 hz1 hz2 rfl (by decide) v (j + 1) xs rfl (unhide OWN) ⟨wr.heap.size + 3, 0, none⟩ 1 1 (nCE (ndI 4 [(j : Int), (j : Int)]) (some ⟨wr.heap.size + 1 + 1, 0, none⟩) 2) rfl rfl (fun i u hi => cells_newE _ (nCE (ndI 4 [(j : Int), (j : Int)]) (some ⟨wr.heap.size + 1 + 1, 0, none⟩) 2) 47 _ i u (by simp only [szAllE]) hi) (nCE_one _ _ _) (by unfold maxLen; omega) (by omega) (unhide HBS) ?_); intro v' w8 ho8 hg8 hnil8; obtain ⟨a4, k4, rfl⟩ := owns_formE ho8; have hbx8 := chn_box (unhide HC) (Nat.succ_pos _) (unhide HX) (unhide KA) hg8; have cb8 := hbx8.cell; have cf8 := hbx8.frozen; have HO8 := hide ho8; have HG8 := hide hg8; clear ho8 hg8 hnil8 hbx8)
          have hst := chn_more (c := 2) (b := wr.heap.size + 1 + 1) (unhide HC) (Nat.succ_pos _) (by omega) (unhide HX) (unhide HNR) (unhide KA) (by omega) (by rw [unhide HC1]; exact unhide hR1) (by rw [unhide HC1]; exact unhide HO8) (unhide HG8)
          exact ⟨⟨j + 1 + 1, by omega, by omega, by go_num, _, hst⟩, by simp [intOf]; omega⟩
      · obtain rfl : q = km + 1 := by omega
        obtain ⟨g, cp, rfl, hN⟩ := (unhide HC).nodes (Nat.succ_pos _) (by omega)
        have HN := hide hN
        have hcb : wr.cell? ⟨B0 + 1, 0, none⟩ = some (.slice (some ⟨g, 0, none⟩) (km + 1) cp) := by rw [cellsE (unhide HC).box]; rfl
        have hr1 : ((r0 : Int)).tmod (1 + (km : Int)) = ((r0 % (km + 1) : Nat) : Int) := by
          have e : (1 + (km : Int)) = ((km + 1 : Nat) : Int) := by omega
          rw [e, Int.tmod_eq_emod_of_nonneg (by omega)]
          omega
        have hat := Nat.mod_lt r0 (Nat.succ_pos km)
        generalize hT : r0 % (km + 1) = t at *
        have KW := hide ((unhide K1).trans (unhide HC).kp)
        have hnl : ¬ (km : Int) + 1 < 1 + (km : Int) := by omega
        clear hN hT HX HNR
        go_wp2_with fail
        have CF := hide (fun w0 (kp : Kp wr w0) => (chn_from ((unhide HN).keep kp) hat hm1).mono (R' := fun e w' => ∃ B, e = .returned (.slice (some ⟨B, 0, none⟩) (km + 1) (km + 1)) ∧ Hid (BlkB w' B (fromL (innF (chW tw (km + 1))) (km + 1) t)) ∧ Hid (Kp w0 w') ∧ Hid (Kp wr w') ∧ w'.cell? ⟨B0 + 1, 0, none⟩ = some (.slice (some ⟨g, 0, none⟩) (km + 1) cp)) (by
          rintro e w' ⟨B, rfl, hB, k⟩
          exact ⟨B, rfl, hB, k, kp.trans (unhide k), (kp.trans (unhide k)).cellT hcb⟩))
        have CC := hide (fun w0 (kp : Kp wr w0) => (chn_counts ((unhide HN).keep kp) hat hm1).mono (R' := fun e w' => ∃ D xs, e = .returned (.slice (some ⟨D, 0, none⟩) (km + 1) (km + 1)) ∧ Hid (Blk w' 3 D xs) ∧ Hid (xs.length = km + 1 ∧ ∀ j, j < km + 1 → xs.getD j 0 = ((usersL (innF (chW tw (km + 1))) (km + 1) t j).length : Int)) ∧ Hid (Kp w0 w') ∧ Hid (Kp wr w') ∧ w'.cell? ⟨B0 + 1, 0, none⟩ = some (.slice (some ⟨g, 0, none⟩) (km + 1) cp)) (by
          rintro e w' ⟨D, xs, rfl, hB, hx, k⟩
          exact ⟨D, xs, rfl, hB, hx, k, kp.trans (unhide k), (kp.trans (unhide k)).cellT hcb⟩))
        go_region_held3 (fun w' => w'.cell? ⟨B0 + 1, 0, none⟩ = some (.slice (some ⟨g, 0, none⟩) (km + 1) cp)) (go_keep)
          (first
            | (go_at_call 10; refine ((unhide CF) _ ?_).mono ?_; (first | (exact unhide (by assumption)) | exact Kp.drew wr); rintro e x1 ⟨B, rfl, HFB, K1x, KX, cX⟩)
            | (go_at_call 12; refine ((unhide CC) _ ?_).mono ?_; (first | (exact unhide (by assumption)) | exact Kp.drew wr); rintro e x2 ⟨D, ys, rfl, HFC, HXS, K2x, KX, cX⟩))
        all_goals (first
          | (have G1 := hide ((unhide HFB).keep (unhide K2x)); have G3 := HFC; have GK : Hid (Kp wr x2) := KX; have cg := cX; clear K1x K2x KX cX CF CC HFB HFC; generalize x2 = wz at *)
          | (have G3 := hide ((unhide HFC).keep (unhide K1x)); have G1 := HFB; have GK : Hid (Kp wr x1) := KX; have cg := cX; clear K1x K2x KX cX CF CC HFB HFC; generalize x1 = wz at *))
        all_goals (
          have KY := hide ((unhide KW).trans (unhide GK))
          have HNZ := hide ((unhide HN).keep (unhide GK))
          have hFl : Hid ((fromL (innF (chW tw (km + 1))) (km + 1) t).length = km + 1) := fromL_length _ _ _
          clear hcb
          go_wp2_with fail
          go_loopw [14] (fun i w2 => ∃ k : Nat, k ≤ km + 1 ∧ i = .int .i64 k ∧ Hid (Kp wz w2)) (fun i _ => km + 1 - (intOf i).toNat)
          case atStart => exact ⟨0, Nat.zero_le _, rfl, Kp.refl _⟩
          case round =>
            obtain ⟨k, hk, rfl, KR⟩ := hrel
            by_cases hlt2 : k < km + 1
            · have hkI : (k : Int) < 1 + (km : Int) := by omega
              have cr := ((unhide G1).keep (unhide KR)).cell (i := k) (by rw [unhide hFl]; exact hlt2)
              rw [chW_from hat hlt2] at cr
              have ck := ((unhide G3).keep (unhide KR)).cell (i := k) (by rw [(unhide HXS).1]; exact hlt2)
              rw [(unhide HXS).2 k hlt2, chW_users hat hlt2] at ck
              have cgr := (unhide KR).cellT cg
              by_cases hka : k < t
              · have hkaI : (k : Int) < (t : Int) := by omega
                have hle : (k : Int) ≤ (t : Int) := by omega
                rw [decide_eq_true (by omega : k ≤ t)] at cr
                rw [if_pos hka] at ck
                obtain ⟨b3, off3, e3, hb3, hnd⟩ := (unhide HNZ).one (unhide KR) (i := k + 1) (by rw [chW_length]; omega)
                cases e3
                obtain ⟨a5, c5, d5, -⟩ := hnd.inn
                have hi : ((chW tw (km + 1)).getD (k + 1) ndnil).inn = (chO tw (k + 1)).inn := chW_inn (by omega)
                rw [hi] at d5
                simp only [Nat.zero_add] at d5
                have hil := chO_le tw (k + 1)
                have hk2I : (k : Int) + 1 < 1 + (km : Int) := by omega
                have hk3I : (k : Int) + 1 < (km : Int) + 1 := by omega
                clear hnd hi hb3
                generalize (chO tw (k + 1)).inn.length = il at *
                go_wp2_with fail
                go_roundw
                case rel => exact ⟨k + 1, by omega, by go_num, unhide KR⟩
                case measure => simp [intOf]; omega
              · have hkaI : ¬ (k : Int) < (t : Int) := by omega
                rw [if_neg hka] at ck
                by_cases hkt : k ≤ t
                · have hle : (k : Int) ≤ (t : Int) := by omega
                  rw [decide_eq_true hkt] at cr
                  go_wp2_with fail
                  go_roundw
                  case rel => exact ⟨k + 1, by omega, by go_num, unhide KR⟩
                  case measure => simp [intOf]; omega
                · have hle : ¬ (k : Int) ≤ (t : Int) := by omega
                  rw [decide_eq_false hkt] at cr
                  go_wp2_with fail
                  go_roundw
                  case rel => exact ⟨k + 1, by omega, by go_num, unhide KR⟩
                  case measure => simp [intOf]; omega
            · obtain rfl : k = km + 1 := by omega
              have K9 := hide ((unhide KY).trans (unhide KR))
              have hnl2 : ¬ (km : Int) + 1 < 1 + (km : Int) := by omega
              go_wp2_with fail
              go_ret
              exact ⟨by first | rfl | trivial | simp, unhide K9⟩)

end Go.Proofs.Ytefohemihiiceaa
