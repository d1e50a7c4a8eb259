
/- The law ReachTells. -/
import Derived.Test.YtefohemihiiceaaRchW
import Derived.Test.YtefohemihiiceaaRchD
import Derived.Deep.RegionHeld3
namespace Go.Proofs.Ytefohemihiiceaa
open Go.RowKit Go.Shelf

def UbAt (w : World) (ua : Option Addr) (us : List (Nat × Nat)) (L : Nat) : Prop := 0 < L → ∃ g, ua = some ⟨g, 0, none⟩ ∧ ∀ i, i < L → w.cell? ⟨g, i * 2, none⟩ = some (.int .i64 ((us.getD i (0, 0)).1 : Int)) ∧ w.cell? ⟨g, i * 2 + 1, none⟩ = some (.int .i64 ((us.getD i (0, 0)).2 : Int))
theorem UbAt.keep {w w' : World} {ua : Option Addr} {us : List (Nat × Nat)} {L : Nat} (h : UbAt w ua us L) (k : Kp w w') : UbAt w' ua us L := fun hp => by
  obtain ⟨g, e, hc⟩ := h hp
  exact ⟨g, e, fun i hi => ⟨k.cellT (hc i hi).1, k.cellT (hc i hi).2⟩⟩

set_option maxRecDepth 20000 in
set_option maxHeartbeats 16000000 in
theorem told11_any (a : Option Addr) (len cap : Nat) (root : Int) (w : World) (h : InNodes w a len cap) (hz : ZNodes w a len) (hr : I64 root) :
    Calls Try.prog 3 #[.agg #[.slice a len cap], .int .i64 root] w fun e w' => e = .returned (.bool true) ∧ Kp w w' := by
  have hzl := hz.1
  unfold Zlen at hzl
  have H := hide h
  have HZ := hide hz
  have HR := hide hr
  unfold I64 at hr
  clear h hz
  have K0 := hide (Kp.alloc w (.cells #[.slice a len cap] 24))
  have c0 : (w.alloc (.cells #[.slice a len cap] 24)).cell? ⟨w.heap.size, 0, none⟩ = some (.slice a len cap) := (Boxed.new w 24 (.slice a len cap)).cell
  have q : ∀ (w : World) (a : Option Addr) (n c n' c' : Nat), (binOp .eql 28 (.slice a n c) (.slice none n' c')).run Try.prog w = .ok (.bool a.isNone) w := fun w a n c n' c' => Lib.run_eql_slice_nil w _ _ a n c n' c' Try.underlying28
  go_enter Try.func3, Try.ntmps3
  go_wp2_with fail
  generalize World.alloc w _ = w1 at *
  refine Calls.mono (awake11_any w1) ?_
  rintro e w2 ⟨rfl, k2⟩
  have c2 := k2.cellT c0
  have K2 := hide ((unhide K0).trans k2)
  clear k2 c0 K0
  go_wp2_with fail
  have ka := Kp.alloc w2 (.cells #[.slice a len cap] 24)
  have hq := (Boxed.new w2 24 (.slice a len cap)).cell
  have c3 := ka.cellT c2
  have K3 := hide ((unhide K2).trans ka)
  clear ka K2 c2
  generalize w2.alloc (.cells #[.slice a len cap] 24) = w3 at *
  refine Calls.mono (small1_any w2.heap.size len cap a w3 hq ((unhide H).keepW (unhide K3)) ((unhide HZ).keepW (unhide H) (unhide K3))) ?_
  rintro e w4 ⟨⟨b, rfl, hb⟩, k4⟩
  have c4 := k4.cellT c3
  have HB := hide hb
  have K4 := hide ((unhide K3).trans k4)
  have K34 := hide k4
  clear hb k4 c3 hq
  cases b
  · go_wp2
    go_ret
    exact ⟨by first | rfl | trivial, unhide K4⟩
  · obtain ⟨hl, hsh⟩ := unhide HB rfl
    obtain ⟨ns, hn, hN, htot, hil⟩ := nodes_of ((unhide H).keepW (unhide K3)) hl hsh
    subst hn
    have HN := hide (hN.keep (unhide K34))
    have HTot := hide htot
    have HIL := hide hil
    clear hsh hN HB htot hil
    by_cases hfp : FromP ns root
    · have HP := hide hfp
      clear hfp K34 K3 H HZ
      obtain ⟨r, rfl⟩ : ∃ r : Nat, root = (r : Int) := ⟨root.toNat, by have := (unhide HP).2.1; omega⟩
      have hrl : r < ns.length := by have := (unhide HP).2.2; omega
      go_wp2_with fail
      have CF := hide (fun w0 (kp : Kp w4 w0) => (from_any a cap ns (r : Int) w0 ((unhide HN).keep kp) (unhide HR)).mono (R' := fun e w' => ∃ B, e = .returned (.slice (some ⟨B, 0, none⟩) ns.length ns.length) ∧ Hid (BlkB w' B (fromL (innF ns) ns.length r)) ∧ Hid (Kp w0 w') ∧ Hid (Kp w4 w') ∧ w'.cell? ⟨w.heap.size, 0, none⟩ = some (.slice a ns.length cap)) (by
        rintro e w' ⟨hf, k⟩
        obtain ⟨B, rfl, hB⟩ := retF_known hf (unhide HP)
        exact ⟨B, rfl, hB, k, kp.trans k, (kp.trans k).cellT c4⟩))
      have CU := hide (fun w0 (kp : Kp w4 w0) => (users_any a cap ns (r : Int) w0 ((unhide HN).keep kp) (unhide HR) (unhide HTot)).mono (R' := fun e w' => ∃ C base vs, e = .returned (.slice (some ⟨C, 0, none⟩) ns.length ns.length) ∧ Hid (RowsU w' 39 36 base C ns.length vs (fun j => usersL (innF ns) ns.length r j)) ∧ Hid (Kp w0 w') ∧ Hid (Kp w4 w') ∧ w'.cell? ⟨w.heap.size, 0, none⟩ = some (.slice a ns.length cap)) (by
        rintro e w' ⟨hf, k⟩
        obtain ⟨C, base, vs, rfl, hB⟩ := retU_known hf (unhide HP)
        exact ⟨C, base, vs, rfl, hB, k, kp.trans k, (kp.trans k).cellT c4⟩))
      have CC := hide (fun w0 (kp : Kp w4 w0) => (counts_any a cap ns (r : Int) w0 ((unhide HN).keep kp) (unhide HR) (unhide HTot)).mono (R' := fun e w' => ∃ D xs, e = .returned (.slice (some ⟨D, 0, none⟩) ns.length ns.length) ∧ Hid (Blk w' 3 D xs) ∧ Hid (xs.length = ns.length ∧ ∀ j, j < ns.length → xs.getD j 0 = ((usersL (innF ns) ns.length r j).length : Int)) ∧ Hid (Kp w0 w') ∧ Hid (Kp w4 w') ∧ w'.cell? ⟨w.heap.size, 0, none⟩ = some (.slice a ns.length cap)) (by
        rintro e w' ⟨hf, k⟩
        obtain ⟨D, xs, rfl, hB, h1, h2⟩ := retC_known hf (unhide HP)
        exact ⟨D, xs, rfl, hB, ⟨h1, h2⟩, k, kp.trans k, (kp.trans k).cellT c4⟩))
      go_region_held3 (fun w' => w'.cell? ⟨w.heap.size, 0, none⟩ = some (.slice a ns.length cap)) (go_keep)
        (first
          | (go_at_call 10; refine ((unhide CF) _ ?_).mono ?_; (first | (exact unhide (by assumption)) | exact Kp.drew w4); rintro e x1 ⟨B, rfl, HFB, K1, KX, cX⟩)
          | (go_at_call 11; refine ((unhide CU) _ ?_).mono ?_; (first | (exact unhide (by assumption)) | exact Kp.drew w4); rintro e x2 ⟨C, base, vs, rfl, HFU, K2, KX, cX⟩)
          | (go_at_call 12; refine ((unhide CC) _ ?_).mono ?_; (first | (exact unhide (by assumption)) | exact Kp.drew w4); rintro e x3 ⟨D, xs, rfl, HFC, HXS, K3, KX, cX⟩))
      all_goals (first
        | (have G1 := hide ((unhide HFB).keep ((unhide K2).trans (unhide K3))); have G2 := hide ((unhide HFU).keep (unhide K3)); have G3 := HFC; have GK := KX; have cg := cX; clear K1 K2 K3 HFB HFU HFC CF CU CC; generalize x3 = wz at *)
        | (have G1 := hide ((unhide HFB).keep ((unhide K3).trans (unhide K2))); have G3 := hide ((unhide HFC).keep (unhide K2)); have G2 := HFU; have GK := KX; have cg := cX; clear K1 K2 K3 HFB HFU HFC CF CU CC; generalize x2 = wz at *)
        | (have G2 := hide ((unhide HFU).keep ((unhide K1).trans (unhide K3))); have G1 := hide ((unhide HFB).keep (unhide K3)); have G3 := HFC; have GK := KX; have cg := cX; clear K1 K2 K3 HFB HFU HFC CF CU CC; generalize x3 = wz at *)
        | (have G2 := hide ((unhide HFU).keep ((unhide K3).trans (unhide K1))); have G3 := hide ((unhide HFC).keep (unhide K1)); have G1 := HFB; have GK := KX; have cg := cX; clear K1 K2 K3 HFB HFU HFC CF CU CC; generalize x1 = wz at *)
        | (have G3 := hide ((unhide HFC).keep ((unhide K1).trans (unhide K2))); have G1 := hide ((unhide HFB).keep (unhide K2)); have G2 := HFU; have GK := KX; have cg := cX; clear K1 K2 K3 HFB HFU HFC CF CU CC; generalize x2 = wz at *)
        | (have G3 := hide ((unhide HFC).keep ((unhide K2).trans (unhide K1))); have G2 := hide ((unhide HFU).keep (unhide K1)); have G1 := HFB; have GK := KX; have cg := cX; clear K1 K2 K3 HFB HFU HFC CF CU CC; generalize x1 = wz at *))
      all_goals (
        have HN7 := hide ((unhide HN).keep (unhide GK))
        have CP := hide (fun w0 (kp : Kp wz w0) => (rfrom_any a cap ns (r : Int) w0 ((unhide HN7).keep kp) (unhide HR)).mono (R' := fun e w' => ∃ B, e = .returned (.slice (some ⟨B, 0, none⟩) ns.length ns.length) ∧ Hid (BlkB w' B (fromL (innF ns) ns.length r)) ∧ Hid (Kp w0 w') ∧ Hid (Kp wz w') ∧ w'.cell? ⟨w.heap.size, 0, none⟩ = some (.slice a ns.length cap)) (by
          rintro e w' ⟨hf, k⟩
          obtain ⟨B, rfl, hB⟩ := retF_known hf (unhide HP)
          exact ⟨B, rfl, hB, k, kp.trans k, (kp.trans k).cellT cg⟩))
        have CQ := hide (fun w0 (kp : Kp wz w0) => (rusers_any a cap ns (r : Int) w0 ((unhide HN7).keep kp) (unhide HR) (unhide HTot)).mono (R' := fun e w' => ∃ C base vs, e = .returned (.slice (some ⟨C, 0, none⟩) ns.length ns.length) ∧ Hid (RowsU w' 40 37 base C ns.length vs (fun j => usersL (innF ns) ns.length r j)) ∧ Hid (Kp w0 w') ∧ Hid (Kp wz w') ∧ w'.cell? ⟨w.heap.size, 0, none⟩ = some (.slice a ns.length cap)) (by
          rintro e w' ⟨hf, k⟩
          obtain ⟨C, base, vs, rfl, hB⟩ := retU_known hf (unhide HP)
          exact ⟨C, base, vs, rfl, hB, k, kp.trans k, (kp.trans k).cellT cg⟩))
        go_wp2_with fail
        go_region_held3 (fun w' => w'.cell? ⟨w.heap.size, 0, none⟩ = some (.slice a ns.length cap)) (go_keep)
          (first
            | (go_at_call 13; refine ((unhide CP) _ ?_).mono ?_; (first | (exact unhide (by assumption)) | exact Kp.drew wz); rintro e y1 ⟨B2, rfl, HFP, K1, KX, cX⟩)
            | (go_at_call 14; refine ((unhide CQ) _ ?_).mono ?_; (first | (exact unhide (by assumption)) | exact Kp.drew wz); rintro e y2 ⟨C2, base2, vs2, rfl, HFQ, K2, KX, cX⟩))
        all_goals (first
          | (have M1 := hide ((unhide HFP).keep (unhide K2)); have M2 := HFQ; have MK : Hid (Kp wz y2) := KX; clear K1 K2 KX cX CP CQ HFP HFQ; generalize y2 = wy at *)
          | (have M2 := hide ((unhide HFQ).keep (unhide K1)); have M1 := HFP; have MK : Hid (Kp wz y1) := KX; clear K1 K2 KX cX CP CQ HFP HFQ; generalize y1 = wy at *)))
      all_goals (
        have hFl : (fromL (innF ns) ns.length r).length = ns.length := fromL_length _ _ _
        have HFl := hide hFl
        have KY := hide (((unhide K4).trans (unhide GK)).trans (unhide MK))
        have L1 := hide ((unhide G1).keep (unhide MK))
        have L2 := hide ((unhide G2).keep (unhide MK))
        have L3 := hide ((unhide G3).keep (unhide MK))
        clear hFl HN7 q G1 G2 G3 cg
        go_wp2_with fail
        go_loopw [10] (fun i wr => ∃ k : Nat, k ≤ ns.length ∧ i = .int .i64 k ∧ Hid (Kp wy wr)) (fun i _ => ns.length - (intOf i).toNat)
        case atStart => exact ⟨0, Nat.zero_le _, rfl, Kp.refl _⟩
        case round =>
          obtain ⟨k, hk, rfl, KR⟩ := hrel
          by_cases hlt : k < ns.length
          · have hkI : (k : Int) < (ns.length : Int) := by omega
            have ck := ((unhide L3).keep (unhide KR)).cell (i := k) (by rw [(unhide HXS).1]; exact hlt)
            rw [(unhide HXS).2 k hlt] at ck
            have cr := ((unhide L1).keep (unhide KR)).cell (i := k) (by rw [unhide HFl]; exact hlt)
            have cp := ((unhide M1).keep (unhide KR)).cell (i := k) (by rw [unhide HFl]; exact hlt)
            obtain ⟨ua, uc, hu, hua⟩ := ((unhide L2).keep (unhide KR)).row (k := k) hlt rfl
            obtain ⟨qa, qc, hq, hqa⟩ := ((unhide M2).keep (unhide KR)).row (k := k) hlt rfl
            have HUA : Hid (UbAt wr ua (usersL (innF ns) ns.length r k) (usersL (innF ns) ns.length r k).length) := hua
            have HQA : Hid (UbAt wr qa (usersL (innF ns) ns.length r k) (usersL (innF ns) ns.length r k).length) := hqa
            have hul := uM_le (innF ns) (fun i => (fromL (innF ns) ns.length r).getD i false) ns.length k 0 (Nat.zero_le _)
            have hul2 : (usersL (innF ns) ns.length r k).length ≤ 100000000 := Nat.le_trans hul (unhide HTot)
            clear hul hua hqa
            generalize (usersL (innF ns) ns.length r k).length = L at *
            generalize (fromL (innF ns) ns.length r).getD k false = rb at *
            go_wp2
            go_quiet (fail)
            have KQ := Kp.drewN wr nq
            have KR2 := hide ((unhide KR).trans KQ)
            have hu2 := KQ.cellT hu
            have hq2 := KQ.cellT hq
            have HUA2 := hide ((unhide HUA).keep KQ)
            have HQA2 := hide ((unhide HQA).keep KQ)
            clear KQ hu hq ck cr cp HUA HQA
            generalize wr.drewN nq = w7 at *
            go_wp2
            go_loopw [11] (fun i w8 => ∃ m : Nat, m ≤ L ∧ i = .int .i64 m ∧ Hid (Kp w7 w8)) (fun i _ => L - (intOf i).toNat)
            case atStart => exact ⟨0, Nat.zero_le _, rfl, Kp.refl _⟩
            case round =>
              obtain ⟨m, hm, rfl, K8⟩ := hrel
              have hu3 := (unhide K8).cellT hu2
              have hq3 := (unhide K8).cellT hq2
              clear hu2 hq2
              by_cases hml : m < L
              · have hmI : (m : Int) < (L : Int) := by omega
                obtain ⟨g, rfl, hg⟩ := unhide HUA2 (by omega)
                obtain ⟨g', rfl, hg'⟩ := unhide HQA2 (by omega)
                have p0 := (unhide K8).cellT (hg m hml).1
                have p1 := (unhide K8).cellT (hg m hml).2
                have p2 := (unhide K8).cellT (hg' m hml).1
                have p3 := (unhide K8).cellT (hg' m hml).2
                generalize (usersL (innF ns) ns.length r k).getD m (0, 0) = A at *
                obtain ⟨A1, A2⟩ := A
                dsimp only at p0 p1 p2 p3
                clear hg hg' HUA2 HQA2
                go_wp2
                go_quiet (fail)
                have KQ2 := hide ((unhide K8).trans (Kp.drewN wr nq))
                clear hu3 hq3 p0 p1 p2 p3
                generalize wr.drewN nq = w9 at *
                go_wp2
                go_roundw
                case rel => exact ⟨m + 1, by omega, by go_num, unhide KQ2⟩
                case measure => simp [intOf]; omega
              · obtain rfl : m = L := by omega
                go_wp2
                go_roundw
                case rel => exact ⟨k + 1, by omega, by go_num, (unhide KR2).trans (unhide K8)⟩
                case measure => simp [intOf]; omega
          · obtain rfl : k = ns.length := by omega
            have K9 := hide ((unhide KY).trans (unhide KR))
            go_wp2
            go_ret
            exact ⟨by first | rfl | trivial | simp, unhide K9⟩)
    · have HNP := hide hfp
      clear hfp K34 K3 H HZ
      go_wp2_with fail
      have CF := hide (fun w0 (kp : Kp w4 w0) => (from_any a cap ns root w0 ((unhide HN).keep kp) (unhide HR)).mono (R' := fun e w' => e = .returned (.slice none 0 0) ∧ Hid (Kp w0 w') ∧ Hid (Kp w4 w') ∧ w'.cell? ⟨w.heap.size, 0, none⟩ = some (.slice a ns.length cap)) (by
        rintro e w' ⟨hf, k⟩
        exact ⟨retF_null hf (unhide HNP), k, kp.trans k, (kp.trans k).cellT c4⟩))
      have CU := hide (fun w0 (kp : Kp w4 w0) => (users_any a cap ns root w0 ((unhide HN).keep kp) (unhide HR) (unhide HTot)).mono (R' := fun e w' => (∃ a8, e = .returned (.slice a8 0 0)) ∧ Hid (Kp w0 w') ∧ Hid (Kp w4 w') ∧ w'.cell? ⟨w.heap.size, 0, none⟩ = some (.slice a ns.length cap)) (by
        rintro e w' ⟨hf, k⟩
        exact ⟨retU_null hf (unhide HNP), k, kp.trans k, (kp.trans k).cellT c4⟩))
      have CC := hide (fun w0 (kp : Kp w4 w0) => (counts_any a cap ns root w0 ((unhide HN).keep kp) (unhide HR) (unhide HTot)).mono (R' := fun e w' => (∃ a8, e = .returned (.slice a8 0 0)) ∧ Hid (Kp w0 w') ∧ Hid (Kp w4 w') ∧ w'.cell? ⟨w.heap.size, 0, none⟩ = some (.slice a ns.length cap)) (by
        rintro e w' ⟨hf, k⟩
        exact ⟨retC_null hf (unhide HNP), k, kp.trans k, (kp.trans k).cellT c4⟩))
      go_region_held3 (fun w' => w'.cell? ⟨w.heap.size, 0, none⟩ = some (.slice a ns.length cap)) (go_keep)
        (first
          | (go_at_call 10; refine ((unhide CF) _ ?_).mono ?_; (first | (exact unhide (by assumption)) | exact Kp.drew w4); rintro e x1 ⟨rfl, K1, KX, cX⟩)
          | (go_at_call 11; refine ((unhide CU) _ ?_).mono ?_; (first | (exact unhide (by assumption)) | exact Kp.drew w4); rintro e x2 ⟨⟨a8, rfl⟩, K2, KX, cX⟩)
          | (go_at_call 12; refine ((unhide CC) _ ?_).mono ?_; (first | (exact unhide (by assumption)) | exact Kp.drew w4); rintro e x3 ⟨⟨a9, rfl⟩, K3, KX, cX⟩))
      all_goals (first
        | (have GK : Hid (Kp w4 x1) := KX; have cg := cX; clear K1 K2 K3 KX cX CF CU CC; generalize x1 = wz at *)
        | (have GK : Hid (Kp w4 x2) := KX; have cg := cX; clear K1 K2 K3 KX cX CF CU CC; generalize x2 = wz at *)
        | (have GK : Hid (Kp w4 x3) := KX; have cg := cX; clear K1 K2 K3 KX cX CF CU CC; generalize x3 = wz at *))
      all_goals (
        have HN7 := hide ((unhide HN).keep (unhide GK))
        have CP := hide (fun w0 (kp : Kp wz w0) => (rfrom_any a cap ns root w0 ((unhide HN7).keep kp) (unhide HR)).mono (R' := fun e w' => e = .returned (.slice none 0 0) ∧ Hid (Kp w0 w') ∧ Hid (Kp wz w') ∧ w'.cell? ⟨w.heap.size, 0, none⟩ = some (.slice a ns.length cap)) (by
          rintro e w' ⟨hf, k⟩
          exact ⟨retF_null hf (unhide HNP), k, kp.trans k, (kp.trans k).cellT cg⟩))
        have CQ := hide (fun w0 (kp : Kp wz w0) => (rusers_any a cap ns root w0 ((unhide HN7).keep kp) (unhide HR) (unhide HTot)).mono (R' := fun e w' => (∃ a8, e = .returned (.slice a8 0 0)) ∧ Hid (Kp w0 w') ∧ Hid (Kp wz w') ∧ w'.cell? ⟨w.heap.size, 0, none⟩ = some (.slice a ns.length cap)) (by
          rintro e w' ⟨hf, k⟩
          exact ⟨retU_null hf (unhide HNP), k, kp.trans k, (kp.trans k).cellT cg⟩))
        go_wp2_with fail
        go_region_held3 (fun w' => w'.cell? ⟨w.heap.size, 0, none⟩ = some (.slice a ns.length cap)) (go_keep)
          (first
            | (go_at_call 13; refine ((unhide CP) _ ?_).mono ?_; (first | (exact unhide (by assumption)) | exact Kp.drew wz); rintro e y1 ⟨rfl, K1, KX, cX⟩)
            | (go_at_call 14; refine ((unhide CQ) _ ?_).mono ?_; (first | (exact unhide (by assumption)) | exact Kp.drew wz); rintro e y2 ⟨⟨a7, rfl⟩, K2, KX, cX⟩))
        all_goals (first
          | (have MK : Hid (Kp wz y1) := KX; clear K1 K2 KX cX CP CQ; generalize y1 = wy at *)
          | (have MK : Hid (Kp wz y2) := KX; clear K1 K2 KX cX CP CQ; generalize y2 = wy at *)))
      all_goals (
        have KY := hide (((unhide K4).trans (unhide GK)).trans (unhide MK))
        clear HN7 q
        go_wp2_with fail
        go_loopw [10] (fun i wr => i = .int .i64 0 ∧ Hid (Kp w wr)) (fun _ _ => 0)
        case atStart => exact ⟨rfl, unhide KY⟩
        case round =>
          obtain ⟨rfl, KR⟩ := hrel
          go_wp2
          go_ret
          exact ⟨by first | rfl | trivial | simp, unhide KR⟩)

end Go.Proofs.Ytefohemihiiceaa
