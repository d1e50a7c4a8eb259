
/- The law ReachCounts. -/
import Derived.Test.YtefohemihiiceaaRchW
import Derived.Test.YtefohemihiiceaaRchL
import Derived.Deep.RegionHeld3
namespace Go.Proofs.Ytefohemihiiceaa
open Go.RowKit Go.Shelf

def UaAt (w : World) (ua : Option Addr) (us : List (Nat × Nat)) (L : Nat) : Prop := 0 < L → ∃ g, ua = some ⟨g, 0, none⟩ ∧ ∀ i, i < L → w.cell? ⟨g, i * 2, none⟩ = some (.int .i64 ((us.getD i (0, 0)).1 : Int)) ∧ w.cell? ⟨g, i * 2 + 1, none⟩ = some (.int .i64 ((us.getD i (0, 0)).2 : Int))
theorem UaAt.keep {w w' : World} {ua : Option Addr} {us : List (Nat × Nat)} {L : Nat} (h : UaAt w ua us L) (k : Kp w w') : UaAt w' ua us L := fun hp => by
  obtain ⟨g, e, hc⟩ := h hp
  exact ⟨g, e, fun i hi => ⟨k.cellT (hc i hi).1, k.cellT (hc i hi).2⟩⟩

set_option maxRecDepth 20000 in
set_option maxHeartbeats 16000000 in
theorem counted_any (a : Option Addr) (len cap : Nat) (root : Int) (w : World) (h : InNodes w a len cap) (hz : ZNodes w a len) (hr : I64 root) :
    Calls Try.prog 5 #[.agg #[.slice a len cap], .int .i64 root] w fun e w' => e = .returned (.bool true) ∧ Kp w w' := by
  have hzl := hz.1
  unfold Zlen at hzl
  have H := hide h
  have HZ := hide hz
  have HR := hide hr
  unfold I64 at hr
  clear h hz
  have K0 := hide (Kp.alloc w (.cells #[.slice a len cap] 24))
  have c0 : (w.alloc (.cells #[.slice a len cap] 24)).cell? ⟨w.heap.size, 0, none⟩ = some (.slice a len cap) := (Boxed.new w 24 (.slice a len cap)).cell
  have q : ∀ (w : World) (a : Option Addr) (n c n' c' : Nat), (binOp .eql 28 (.slice a n c) (.slice none n' c')).run Try.prog w = .ok (.bool a.isNone) w := fun w a n c n' c' => Lib.run_eql_slice_nil w _ _ a n c n' c' Try.underlying28
  go_enter Try.func5, Try.ntmps5
  go_wp2_with fail
  generalize World.alloc w _ = w1 at *
  refine Calls.mono (awake11_any w1) ?_
  rintro e w2 ⟨rfl, k2⟩
  have c2 := k2.cellT c0
  have K2 := hide ((unhide K0).trans k2)
  clear k2 c0 K0
  go_wp2_with fail
  have ka := Kp.alloc w2 (.cells #[.slice a len cap] 24)
  have hq := (Boxed.new w2 24 (.slice a len cap)).cell
  have c3 := ka.cellT c2
  have K3 := hide ((unhide K2).trans ka)
  clear ka K2 c2
  generalize w2.alloc (.cells #[.slice a len cap] 24) = w3 at *
  refine Calls.mono (small1_any w2.heap.size len cap a w3 hq ((unhide H).keepW (unhide K3)) ((unhide HZ).keepW (unhide H) (unhide K3))) ?_
  rintro e w4 ⟨⟨b, rfl, hb⟩, k4⟩
  have c4 := k4.cellT c3
  have HB := hide hb
  have K4 := hide ((unhide K3).trans k4)
  have K34 := hide k4
  clear hb k4 c3 hq
  cases b
  · go_wp2
    go_ret
    exact ⟨by first | rfl | trivial, unhide K4⟩
  · obtain ⟨hl, hsh⟩ := unhide HB rfl
    obtain ⟨ns, hn, hN, htot, hil⟩ := nodes_of ((unhide H).keepW (unhide K3)) hl hsh
    subst hn
    have HN := hide (hN.keep (unhide K34))
    have HTot := hide htot
    have HIL := hide hil
    clear hsh hN HB htot hil
    go_wp2_with fail
    refine Calls.mono (rfrom_any a cap ns root w4 (unhide HN) (unhide HR)) ?_
    rintro e w6 ⟨hf, k6⟩
    have c6 := k6.cellT c4
    have K6 := hide ((unhide K4).trans k6)
    have HN6 := hide ((unhide HN).keep k6)
    rcases retF_any hf with ⟨hp, rfl⟩ | ⟨hp, B0, rfl, -⟩
    · clear hf k6 c4 hp K4 HN
      go_wp2
      go_ret
      exact ⟨by first | rfl | trivial, unhide K6⟩
    · have HP := hide hp
      obtain ⟨r, rfl⟩ : ∃ r : Nat, root = (r : Int) := ⟨root.toNat, by have := hp.2.1; omega⟩
      have hrl : r < ns.length := by have := hp.2.2; omega
      clear hf k6 c4 hp K4 HN K34 K3 H HZ
      go_wp2_with fail
      have CF := hide (fun w0 (kp : Kp w6 w0) => (from_any a cap ns (r : Int) w0 ((unhide HN6).keep kp) (unhide HR)).mono (R' := fun e w' => ∃ B, e = .returned (.slice (some ⟨B, 0, none⟩) ns.length ns.length) ∧ Hid (BlkB w' B (fromL (innF ns) ns.length r)) ∧ Hid (Kp w0 w') ∧ Hid (Kp w6 w') ∧ w'.cell? ⟨w.heap.size, 0, none⟩ = some (.slice a ns.length cap)) (by
        rintro e w' ⟨hf, k⟩
        obtain ⟨B, rfl, hB⟩ := retF_known hf (unhide HP)
        exact ⟨B, rfl, hB, k, kp.trans k, (kp.trans k).cellT c6⟩))
      have CU := hide (fun w0 (kp : Kp w6 w0) => (users_any a cap ns (r : Int) w0 ((unhide HN6).keep kp) (unhide HR) (unhide HTot)).mono (R' := fun e w' => ∃ C base vs, e = .returned (.slice (some ⟨C, 0, none⟩) ns.length ns.length) ∧ Hid (RowsU w' 39 36 base C ns.length vs (fun j => usersL (innF ns) ns.length r j)) ∧ Hid (Kp w0 w') ∧ Hid (Kp w6 w') ∧ w'.cell? ⟨w.heap.size, 0, none⟩ = some (.slice a ns.length cap)) (by
        rintro e w' ⟨hf, k⟩
        obtain ⟨C, base, vs, rfl, hB⟩ := retU_known hf (unhide HP)
        exact ⟨C, base, vs, rfl, hB, k, kp.trans k, (kp.trans k).cellT c6⟩))
      have CC := hide (fun w0 (kp : Kp w6 w0) => (counts_any a cap ns (r : Int) w0 ((unhide HN6).keep kp) (unhide HR) (unhide HTot)).mono (R' := fun e w' => ∃ D xs, e = .returned (.slice (some ⟨D, 0, none⟩) ns.length ns.length) ∧ Hid (Blk w' 3 D xs) ∧ Hid (xs.length = ns.length ∧ ∀ j, j < ns.length → xs.getD j 0 = ((usersL (innF ns) ns.length r j).length : Int)) ∧ Hid (Kp w0 w') ∧ Hid (Kp w6 w') ∧ w'.cell? ⟨w.heap.size, 0, none⟩ = some (.slice a ns.length cap)) (by
        rintro e w' ⟨hf, k⟩
        obtain ⟨D, xs, rfl, hB, h1, h2⟩ := retC_known hf (unhide HP)
        exact ⟨D, xs, rfl, hB, ⟨h1, h2⟩, k, kp.trans k, (kp.trans k).cellT c6⟩))
      go_region_held3 (fun w' => w'.cell? ⟨w.heap.size, 0, none⟩ = some (.slice a ns.length cap)) (go_keep)
        (first
          | (go_at_call 10; refine ((unhide CF) _ ?_).mono ?_; (first | (exact unhide (by assumption)) | exact Kp.drew w6); rintro e x1 ⟨B, rfl, HFB, K1, KX, cX⟩)
          | (go_at_call 11; refine ((unhide CU) _ ?_).mono ?_; (first | (exact unhide (by assumption)) | exact Kp.drew w6); rintro e x2 ⟨C, base, vs, rfl, HFU, K2, KX, cX⟩)
          | (go_at_call 12; refine ((unhide CC) _ ?_).mono ?_; (first | (exact unhide (by assumption)) | exact Kp.drew w6); rintro e x3 ⟨D, xs, rfl, HFC, HXS, K3, KX, cX⟩))
      all_goals (first
        | (have G1 := hide ((unhide HFB).keep ((unhide K2).trans (unhide K3))); have G2 := hide ((unhide HFU).keep (unhide K3)); have G3 := HFC; have GK := KX; have cg := cX; clear K1 K2 K3 HFB HFU HFC CF CU CC; generalize x3 = wz at *)
        | (have G1 := hide ((unhide HFB).keep ((unhide K3).trans (unhide K2))); have G3 := hide ((unhide HFC).keep (unhide K2)); have G2 := HFU; have GK := KX; have cg := cX; clear K1 K2 K3 HFB HFU HFC CF CU CC; generalize x2 = wz at *)
        | (have G2 := hide ((unhide HFU).keep ((unhide K1).trans (unhide K3))); have G1 := hide ((unhide HFB).keep (unhide K3)); have G3 := HFC; have GK := KX; have cg := cX; clear K1 K2 K3 HFB HFU HFC CF CU CC; generalize x3 = wz at *)
        | (have G2 := hide ((unhide HFU).keep ((unhide K3).trans (unhide K1))); have G3 := hide ((unhide HFC).keep (unhide K1)); have G1 := HFB; have GK := KX; have cg := cX; clear K1 K2 K3 HFB HFU HFC CF CU CC; generalize x1 = wz at *)
        | (have G3 := hide ((unhide HFC).keep ((unhide K1).trans (unhide K2))); have G1 := hide ((unhide HFB).keep (unhide K2)); have G2 := HFU; have GK := KX; have cg := cX; clear K1 K2 K3 HFB HFU HFC CF CU CC; generalize x2 = wz at *)
        | (have G3 := hide ((unhide HFC).keep ((unhide K2).trans (unhide K1))); have G2 := hide ((unhide HFU).keep (unhide K1)); have G1 := HFB; have GK := KX; have cg := cX; clear K1 K2 K3 HFB HFU HFC CF CU CC; generalize x1 = wz at *))
      all_goals (
        skip
        have hSN := (unhide HP).1
        have hFl : (fromL (innF ns) ns.length r).length = ns.length := fromL_length _ _ _
        have HSN := hide hSN
        clear hSN q cX
        go_wp2_with fail)
      all_goals (
        go_loopw [10, 8, 9] (fun i s t wr => ∃ k S T : Nat, k ≤ ns.length ∧ i = .int .i64 k ∧ s = .int .i64 S ∧ t = .int .i64 T ∧ S ≤ k * 100000000 ∧ T ≤ k * 8192 ∧ Hid (S = sumR k (fun j => (usersL (innF ns) ns.length r j).length)) ∧ Hid (T = sumR k (fun i => if (fromL (innF ns) ns.length r).getD i false = true then (innF ns i).length else 0)) ∧ Hid (Kp wz wr)) (fun i _ _ _ => ns.length - (intOf i).toNat)
        case atStart => exact ⟨0, 0, 0, Nat.zero_le _, rfl, rfl, rfl, by omega, by omega, rfl, rfl, Kp.refl _⟩
        case round =>
          obtain ⟨k, S, T, hk, rfl, rfl, rfl, hS, hT, ES, ET, KR⟩ := hrel
          have hS2 : S ≤ 400000000000 := by have : k * 100000000 ≤ 4000 * 100000000 := Nat.mul_le_mul (by omega) (Nat.le_refl _); omega
          have hT2 : T ≤ 32768000 := by have : k * 8192 ≤ 4000 * 8192 := Nat.mul_le_mul (by omega) (Nat.le_refl _); omega
          have cgr := (unhide KR).cellT cg
          by_cases hlt : k < ns.length
          · have hkI : (k : Int) < (ns.length : Int) := by omega
            have hpos := usersL_pos (root := r) (unhide HSN) hlt
            have habv := fromL_above (root := r) (unhide HSN) k hlt
            have hroot := fromL_root (root := r) (unhide HSN) hrl
            have ck := ((unhide G3).keep (unhide KR)).cell (i := k) (by rw [(unhide HXS).1]; exact hlt)
            rw [(unhide HXS).2 k hlt] at ck
            have cr := ((unhide G1).keep (unhide KR)).cell (i := k) (by omega)
            obtain ⟨ua, uc, hu, hua⟩ := ((unhide G2).keep (unhide KR)).row (k := k) hlt rfl
            have HUA : Hid (UaAt wr ua (usersL (innF ns) ns.length r k) (usersL (innF ns) ns.length r k).length) := hua
            have HNX := hide (fun m (hm : m + 1 < (usersL (innF ns) ns.length r k).length) => usersL_next hm)
            have hul := uM_le (innF ns) (fun i => (fromL (innF ns) ns.length r).getD i false) ns.length k 0 (Nat.zero_le _)
            have hul2 : (usersL (innF ns) ns.length r k).length ≤ 100000000 := Nat.le_trans hul (unhide HTot)
            have hes := sumR_succ k (fun j => (usersL (innF ns) ns.length r j).length)
            have het := sumR_succ k (fun i => if (fromL (innF ns) ns.length r).getD i false = true then (innF ns i).length else 0)
            rw [← unhide ES] at hes
            rw [← unhide ET] at het
            have HES := hide hes
            obtain ⟨b, off, rfl, hb, hnd⟩ := (unhide HN6).one (Kp.refl w6) hlt
            obtain ⟨a1, c1, d1, -⟩ := hnd.inn
            have d2 := ((unhide GK).trans (unhide KR)).cellT d1
            have hi : innF ns k = (ns.getD k ndnil).inn := rfl
            rw [← hi] at d2
            have hil := unhide HIL k
            clear hul hes hua hnd d1 hi hb
            generalize (innF ns k).length = il at *
            generalize hUL : (usersL (innF ns) ns.length r k).length = L at *
            have HUL := hide hUL
            clear hUL
            have hLI : (0 < L ∧ (0 : Int) < (L : Int)) ∨ (L = 0 ∧ ¬ (0 : Int) < (L : Int)) := by omega
            cases hv : (fromL (innF ns) ns.length r).getD k false
            · rw [hv] at cr het hpos
              have hkr : ¬ k = r := fun e => by rw [e, hroot] at hv; cases hv
              have hL0 : L = 0 := by
                apply Classical.byContradiction
                intro hn
                exact absurd (hpos.2 (.inr (by omega))) (by decide)
              clear hLI HNX hul2
              subst hL0
              have e0 : ((0 : Nat) : Int) = 0 := rfl
              rw [e0] at ck
              have HET : Hid (sumR (k + 1) (fun i => if (fromL (innF ns) ns.length r).getD i false = true then (innF ns i).length else 0) = T) := by unfold Hid; rw [het, if_neg (by decide), Nat.add_zero]
              clear het e0
              have e1 : ((k : Int) == (r : Int)) = false := beq_eq_false_iff_ne.2 (by omega)
              clear hpos habv hroot hv
              by_cases hgt : r < k
              · have hgtI : (r : Int) < (k : Int) := by omega
                go_wp2
                go_quiet (fail)
                have KQ := Kp.drewN wr nq
                have KR2 := hide ((unhide KR).trans KQ)
                have hu2 := KQ.cellT hu
                clear KQ hu ck cr cgr d2 HUA
                generalize wr.drewN nq = w7 at *
                go_wp2
                go_loopw [11] (fun i w8 => i = .int .i64 1 ∧ Hid (Kp w7 w8)) (fun _ _ => 0)
                case atStart => exact ⟨rfl, Kp.refl _⟩
                case round =>
                  obtain ⟨rfl, K8⟩ := hrel
                  have hu3 := (unhide K8).cellT hu2
                  go_wp2
                  go_roundw
                  case rel => exact ⟨k + 1, S, T, by omega, by go_num, by go_num, rfl, Nat.le_trans hS (Nat.mul_le_mul (Nat.le_succ k) (Nat.le_refl _)), Nat.le_trans hT (Nat.mul_le_mul (Nat.le_succ k) (Nat.le_refl _)), (unhide HES).symm, (unhide HET).symm, (unhide KR2).trans (unhide K8)⟩
                  case measure => simp [intOf]; omega
              · have hgtI : ¬ (r : Int) < (k : Int) := by omega
                have hgt' : decide ((r : Int) < (k : Int)) = false := decide_eq_false hgtI
                go_wp2
                go_quiet (fail)
                have KQ := Kp.drewN wr nq
                have KR2 := hide ((unhide KR).trans KQ)
                have hu2 := KQ.cellT hu
                clear KQ hu ck cr cgr d2 HUA
                generalize wr.drewN nq = w7 at *
                go_wp2
                go_loopw [11] (fun i w8 => i = .int .i64 1 ∧ Hid (Kp w7 w8)) (fun _ _ => 0)
                case atStart => exact ⟨rfl, Kp.refl _⟩
                case round =>
                  obtain ⟨rfl, K8⟩ := hrel
                  have hu3 := (unhide K8).cellT hu2
                  go_wp2
                  go_roundw
                  case rel => exact ⟨k + 1, S, T, by omega, by go_num, by go_num, rfl, Nat.le_trans hS (Nat.mul_le_mul (Nat.le_succ k) (Nat.le_refl _)), Nat.le_trans hT (Nat.mul_le_mul (Nat.le_succ k) (Nat.le_refl _)), (unhide HES).symm, (unhide HET).symm, (unhide KR2).trans (unhide K8)⟩
                  case measure => simp [intOf]; omega
            · rw [hv] at cr het hpos
              have HET : Hid (sumR (k + 1) (fun i => if (fromL (innF ns) ns.length r).getD i false = true then (innF ns i).length else 0) = T + il) := by unfold Hid; rw [het, if_pos rfl]
              clear het
              have hle : ¬ r < k := fun h => by rw [habv h] at hv; cases hv
              have hgtI : ¬ (r : Int) < (k : Int) := by omega
              have hgt' : decide ((r : Int) < (k : Int)) = false := decide_eq_false hgtI
              by_cases hkr : k = r
              · have e1 : ((k : Int) == (r : Int)) = true := beq_iff_eq.2 (by omega)
                clear hkr hpos habv hroot hv hLI
                go_wp2
                go_quiet (fail)
                have KQ := Kp.drewN wr nq
                have KR2 := hide ((unhide KR).trans KQ)
                have hu2 := KQ.cellT hu
                have HUA2 := hide ((unhide HUA).keep KQ)
                clear KQ hu ck cr cgr d2 HUA
                generalize wr.drewN nq = w7 at *
                go_wp2
                go_loopw [11] (fun i w8 => ∃ m : Nat, m ≤ L ∧ i = .int .i64 ((m : Int) + 1) ∧ Hid (Kp w7 w8)) (fun i _ => L + 1 - (intOf i).toNat)
                case atStart => exact ⟨0, Nat.zero_le _, rfl, Kp.refl _⟩
                case round =>
                  obtain ⟨m, hm, rfl, K8⟩ := hrel
                  have hu3 := (unhide K8).cellT hu2
                  by_cases hml : m + 1 < L
                  · have hmI : (m : Int) + 1 < (L : Int) := by omega
                    obtain ⟨g, rfl, hg⟩ := unhide HUA2 (by omega)
                    have p0 := (unhide K8).cellT (hg m (by omega)).1
                    have p1 := (unhide K8).cellT (hg m (by omega)).2
                    have p2 := (unhide K8).cellT (hg (m + 1) hml).1
                    have p3 := (unhide K8).cellT (hg (m + 1) hml).2
                    have hnx := unhide HNX m hml
                    unfold UsB at hnx
                    generalize (usersL (innF ns) ns.length r k).getD m (0, 0) = A at *
                    generalize (usersL (innF ns) ns.length r k).getD (m + 1) (0, 0) = Z at *
                    obtain ⟨A1, A2⟩ := A
                    obtain ⟨Z1, Z2⟩ := Z
                    dsimp only at p0 p1 p2 p3 hnx
                    have hnI : ((Z1 : Int) < (A1 : Int)) ∨ ((A1 : Int) = (Z1 : Int) ∧ (A2 : Int) < (Z2 : Int)) := by omega
                    have q0_0 := (Kp.drew wr).cellT hu3
                    have q0_1 := (Kp.drew wr).cellT p0
                    have q0_2 := (Kp.drew wr).cellT p1
                    have q0_3 := (Kp.drew wr).cellT p2
                    have q0_4 := (Kp.drew wr).cellT p3
                    have q1_0 := ((Kp.alloc wr (.cells #[.int .i64 0, .int .i64 0] 39)).trans (Kp.drew _)).cellT hu3
                    have q1_1 := ((Kp.alloc wr (.cells #[.int .i64 0, .int .i64 0] 39)).trans (Kp.drew _)).cellT p0
                    have q1_2 := ((Kp.alloc wr (.cells #[.int .i64 0, .int .i64 0] 39)).trans (Kp.drew _)).cellT p1
                    have q1_3 := ((Kp.alloc wr (.cells #[.int .i64 0, .int .i64 0] 39)).trans (Kp.drew _)).cellT p2
                    have q1_4 := ((Kp.alloc wr (.cells #[.int .i64 0, .int .i64 0] 39)).trans (Kp.drew _)).cellT p3
                    have q2_0 := ((Kp.alloc wr (.cells #[.int .i64 A1, .int .i64 A2] 39)).trans (Kp.drew _)).cellT hu3
                    have q2_1 := ((Kp.alloc wr (.cells #[.int .i64 A1, .int .i64 A2] 39)).trans (Kp.drew _)).cellT p0
                    have q2_2 := ((Kp.alloc wr (.cells #[.int .i64 A1, .int .i64 A2] 39)).trans (Kp.drew _)).cellT p1
                    have q2_3 := ((Kp.alloc wr (.cells #[.int .i64 A1, .int .i64 A2] 39)).trans (Kp.drew _)).cellT p2
                    have q2_4 := ((Kp.alloc wr (.cells #[.int .i64 A1, .int .i64 A2] 39)).trans (Kp.drew _)).cellT p3
                    have q3_0 := ((Kp.alloc wr (.cells #[.int .i64 Z1, .int .i64 Z2] 39)).trans (Kp.drew _)).cellT hu3
                    have q3_1 := ((Kp.alloc wr (.cells #[.int .i64 Z1, .int .i64 Z2] 39)).trans (Kp.drew _)).cellT p0
                    have q3_2 := ((Kp.alloc wr (.cells #[.int .i64 Z1, .int .i64 Z2] 39)).trans (Kp.drew _)).cellT p1
                    have q3_3 := ((Kp.alloc wr (.cells #[.int .i64 Z1, .int .i64 Z2] 39)).trans (Kp.drew _)).cellT p2
                    have q3_4 := ((Kp.alloc wr (.cells #[.int .i64 Z1, .int .i64 Z2] 39)).trans (Kp.drew _)).cellT p3
                    have q4_0 := (((Kp.alloc wr (.cells #[.int .i64 0, .int .i64 0] 39)).trans (Kp.alloc _ (.cells #[.int .i64 0, .int .i64 0] 39))).trans (Kp.drew _)).cellT hu3
                    have q4_1 := (((Kp.alloc wr (.cells #[.int .i64 0, .int .i64 0] 39)).trans (Kp.alloc _ (.cells #[.int .i64 0, .int .i64 0] 39))).trans (Kp.drew _)).cellT p0
                    have q4_2 := (((Kp.alloc wr (.cells #[.int .i64 0, .int .i64 0] 39)).trans (Kp.alloc _ (.cells #[.int .i64 0, .int .i64 0] 39))).trans (Kp.drew _)).cellT p1
                    have q4_3 := (((Kp.alloc wr (.cells #[.int .i64 0, .int .i64 0] 39)).trans (Kp.alloc _ (.cells #[.int .i64 0, .int .i64 0] 39))).trans (Kp.drew _)).cellT p2
                    have q4_4 := (((Kp.alloc wr (.cells #[.int .i64 0, .int .i64 0] 39)).trans (Kp.alloc _ (.cells #[.int .i64 0, .int .i64 0] 39))).trans (Kp.drew _)).cellT p3
                    have q5_0 := (((Kp.alloc wr (.cells #[.int .i64 0, .int .i64 0] 39)).trans (Kp.alloc _ (.cells #[.int .i64 A1, .int .i64 A2] 39))).trans (Kp.drew _)).cellT hu3
                    have q5_1 := (((Kp.alloc wr (.cells #[.int .i64 0, .int .i64 0] 39)).trans (Kp.alloc _ (.cells #[.int .i64 A1, .int .i64 A2] 39))).trans (Kp.drew _)).cellT p0
                    have q5_2 := (((Kp.alloc wr (.cells #[.int .i64 0, .int .i64 0] 39)).trans (Kp.alloc _ (.cells #[.int .i64 A1, .int .i64 A2] 39))).trans (Kp.drew _)).cellT p1
                    have q5_3 := (((Kp.alloc wr (.cells #[.int .i64 0, .int .i64 0] 39)).trans (Kp.alloc _ (.cells #[.int .i64 A1, .int .i64 A2] 39))).trans (Kp.drew _)).cellT p2
                    have q5_4 := (((Kp.alloc wr (.cells #[.int .i64 0, .int .i64 0] 39)).trans (Kp.alloc _ (.cells #[.int .i64 A1, .int .i64 A2] 39))).trans (Kp.drew _)).cellT p3
                    have q6_0 := (((Kp.alloc wr (.cells #[.int .i64 0, .int .i64 0] 39)).trans (Kp.alloc _ (.cells #[.int .i64 Z1, .int .i64 Z2] 39))).trans (Kp.drew _)).cellT hu3
                    have q6_1 := (((Kp.alloc wr (.cells #[.int .i64 0, .int .i64 0] 39)).trans (Kp.alloc _ (.cells #[.int .i64 Z1, .int .i64 Z2] 39))).trans (Kp.drew _)).cellT p0
                    have q6_2 := (((Kp.alloc wr (.cells #[.int .i64 0, .int .i64 0] 39)).trans (Kp.alloc _ (.cells #[.int .i64 Z1, .int .i64 Z2] 39))).trans (Kp.drew _)).cellT p1
                    have q6_3 := (((Kp.alloc wr (.cells #[.int .i64 0, .int .i64 0] 39)).trans (Kp.alloc _ (.cells #[.int .i64 Z1, .int .i64 Z2] 39))).trans (Kp.drew _)).cellT p2
                    have q6_4 := (((Kp.alloc wr (.cells #[.int .i64 0, .int .i64 0] 39)).trans (Kp.alloc _ (.cells #[.int .i64 Z1, .int .i64 Z2] 39))).trans (Kp.drew _)).cellT p3
                    have q7_0 := (((Kp.alloc wr (.cells #[.int .i64 A1, .int .i64 A2] 39)).trans (Kp.alloc _ (.cells #[.int .i64 0, .int .i64 0] 39))).trans (Kp.drew _)).cellT hu3
                    have q7_1 := (((Kp.alloc wr (.cells #[.int .i64 A1, .int .i64 A2] 39)).trans (Kp.alloc _ (.cells #[.int .i64 0, .int .i64 0] 39))).trans (Kp.drew _)).cellT p0
                    have q7_2 := (((Kp.alloc wr (.cells #[.int .i64 A1, .int .i64 A2] 39)).trans (Kp.alloc _ (.cells #[.int .i64 0, .int .i64 0] 39))).trans (Kp.drew _)).cellT p1
                    have q7_3 := (((Kp.alloc wr (.cells #[.int .i64 A1, .int .i64 A2] 39)).trans (Kp.alloc _ (.cells #[.int .i64 0, .int .i64 0] 39))).trans (Kp.drew _)).cellT p2
                    have q7_4 := (((Kp.alloc wr (.cells #[.int .i64 A1, .int .i64 A2] 39)).trans (Kp.alloc _ (.cells #[.int .i64 0, .int .i64 0] 39))).trans (Kp.drew _)).cellT p3
                    have q8_0 := (((Kp.alloc wr (.cells #[.int .i64 Z1, .int .i64 Z2] 39)).trans (Kp.alloc _ (.cells #[.int .i64 0, .int .i64 0] 39))).trans (Kp.drew _)).cellT hu3
                    have q8_1 := (((Kp.alloc wr (.cells #[.int .i64 Z1, .int .i64 Z2] 39)).trans (Kp.alloc _ (.cells #[.int .i64 0, .int .i64 0] 39))).trans (Kp.drew _)).cellT p0
                    have q8_2 := (((Kp.alloc wr (.cells #[.int .i64 Z1, .int .i64 Z2] 39)).trans (Kp.alloc _ (.cells #[.int .i64 0, .int .i64 0] 39))).trans (Kp.drew _)).cellT p1
                    have q8_3 := (((Kp.alloc wr (.cells #[.int .i64 Z1, .int .i64 Z2] 39)).trans (Kp.alloc _ (.cells #[.int .i64 0, .int .i64 0] 39))).trans (Kp.drew _)).cellT p2
                    have q8_4 := (((Kp.alloc wr (.cells #[.int .i64 Z1, .int .i64 Z2] 39)).trans (Kp.alloc _ (.cells #[.int .i64 0, .int .i64 0] 39))).trans (Kp.drew _)).cellT p3
                    have q9_0 := (((Kp.alloc wr (.cells #[.int .i64 A1, .int .i64 A2] 39)).trans (Kp.alloc _ (.cells #[.int .i64 Z1, .int .i64 Z2] 39))).trans (Kp.drew _)).cellT hu3
                    have q9_1 := (((Kp.alloc wr (.cells #[.int .i64 A1, .int .i64 A2] 39)).trans (Kp.alloc _ (.cells #[.int .i64 Z1, .int .i64 Z2] 39))).trans (Kp.drew _)).cellT p0
                    have q9_2 := (((Kp.alloc wr (.cells #[.int .i64 A1, .int .i64 A2] 39)).trans (Kp.alloc _ (.cells #[.int .i64 Z1, .int .i64 Z2] 39))).trans (Kp.drew _)).cellT p1
                    have q9_3 := (((Kp.alloc wr (.cells #[.int .i64 A1, .int .i64 A2] 39)).trans (Kp.alloc _ (.cells #[.int .i64 Z1, .int .i64 Z2] 39))).trans (Kp.drew _)).cellT p2
                    have q9_4 := (((Kp.alloc wr (.cells #[.int .i64 A1, .int .i64 A2] 39)).trans (Kp.alloc _ (.cells #[.int .i64 Z1, .int .i64 Z2] 39))).trans (Kp.drew _)).cellT p3
                    have q10_0 := (((Kp.alloc wr (.cells #[.int .i64 Z1, .int .i64 Z2] 39)).trans (Kp.alloc _ (.cells #[.int .i64 A1, .int .i64 A2] 39))).trans (Kp.drew _)).cellT hu3
                    have q10_1 := (((Kp.alloc wr (.cells #[.int .i64 Z1, .int .i64 Z2] 39)).trans (Kp.alloc _ (.cells #[.int .i64 A1, .int .i64 A2] 39))).trans (Kp.drew _)).cellT p0
                    have q10_2 := (((Kp.alloc wr (.cells #[.int .i64 Z1, .int .i64 Z2] 39)).trans (Kp.alloc _ (.cells #[.int .i64 A1, .int .i64 A2] 39))).trans (Kp.drew _)).cellT p1
                    have q10_3 := (((Kp.alloc wr (.cells #[.int .i64 Z1, .int .i64 Z2] 39)).trans (Kp.alloc _ (.cells #[.int .i64 A1, .int .i64 A2] 39))).trans (Kp.drew _)).cellT p2
                    have q10_4 := (((Kp.alloc wr (.cells #[.int .i64 Z1, .int .i64 Z2] 39)).trans (Kp.alloc _ (.cells #[.int .i64 A1, .int .i64 A2] 39))).trans (Kp.drew _)).cellT p3
                    clear hg hu2 hnx
                    go_wp2
                    go_region
                    all_goals (
                      clear q0_0 q0_1 q0_2 q0_3 q0_4 q1_0 q1_1 q1_2 q1_3 q1_4 q2_0 q2_1 q2_2 q2_3 q2_4 q3_0 q3_1 q3_2 q3_3 q3_4 q4_0 q4_1 q4_2 q4_3 q4_4 q5_0 q5_1 q5_2 q5_3 q5_4 q6_0 q6_1 q6_2 q6_3 q6_4 q7_0 q7_1 q7_2 q7_3 q7_4 q8_0 q8_1 q8_2 q8_3 q8_4 q9_0 q9_1 q9_2 q9_3 q9_4 q10_0 q10_1 q10_2 q10_3 q10_4 hu3 p0 p1 p2 p3
                      have hAZ : ¬ (A1 : Int) < (Z1 : Int) := by omega
                      rcases hnI with hnI | ⟨hn1, hn2⟩
                      · have hne : ((A1 : Int) == (Z1 : Int)) = false := beq_eq_false_iff_ne.2 (by omega)
                        go_wp2
                        refine ⟨⟨m + 1, by omega, by go_num, (unhide K8).trans (((Kp.alloc _ _).trans (Kp.alloc _ _)).trans (Kp.drew _))⟩, ?_⟩
                        simp [intOf]; omega
                      · rw [hn1] at hAZ ⊢
                        have hge : ¬ (Z2 : Int) ≤ (A2 : Int) := by omega
                        go_wp2
                        refine ⟨⟨m + 1, by omega, by go_num, (unhide K8).trans (((Kp.alloc _ _).trans (Kp.alloc _ _)).trans (Kp.drew _))⟩, ?_⟩
                        simp [intOf]; omega)
                  · go_wp2
                    go_roundw
                    case rel => exact ⟨k + 1, S + L, T + il, by omega, by go_num, by go_num, by go_num, by omega, by omega, (unhide HES).symm, (unhide HET).symm, (unhide KR2).trans (unhide K8)⟩
                    case measure => simp [intOf] <;> omega
              · have e1 : ((k : Int) == (r : Int)) = false := beq_eq_false_iff_ne.2 (by omega)
                have hLp : 0 < L := by
                  rcases hpos.1 rfl with h | h
                  · exact absurd h.symm hkr
                  · exact h
                have hLpI : (0 : Int) < (L : Int) := by omega
                clear hpos habv hroot hv hLI
                go_wp2
                go_quiet (fail)
                have KQ := Kp.drewN wr nq
                have KR2 := hide ((unhide KR).trans KQ)
                have hu2 := KQ.cellT hu
                have HUA2 := hide ((unhide HUA).keep KQ)
                clear KQ hu ck cr cgr d2 HUA
                generalize wr.drewN nq = w7 at *
                go_wp2
                go_loopw [11] (fun i w8 => ∃ m : Nat, m ≤ L ∧ i = .int .i64 ((m : Int) + 1) ∧ Hid (Kp w7 w8)) (fun i _ => L + 1 - (intOf i).toNat)
                case atStart => exact ⟨0, Nat.zero_le _, rfl, Kp.refl _⟩
                case round =>
                  obtain ⟨m, hm, rfl, K8⟩ := hrel
                  have hu3 := (unhide K8).cellT hu2
                  by_cases hml : m + 1 < L
                  · have hmI : (m : Int) + 1 < (L : Int) := by omega
                    obtain ⟨g, rfl, hg⟩ := unhide HUA2 (by omega)
                    have p0 := (unhide K8).cellT (hg m (by omega)).1
                    have p1 := (unhide K8).cellT (hg m (by omega)).2
                    have p2 := (unhide K8).cellT (hg (m + 1) hml).1
                    have p3 := (unhide K8).cellT (hg (m + 1) hml).2
                    have hnx := unhide HNX m hml
                    unfold UsB at hnx
                    generalize (usersL (innF ns) ns.length r k).getD m (0, 0) = A at *
                    generalize (usersL (innF ns) ns.length r k).getD (m + 1) (0, 0) = Z at *
                    obtain ⟨A1, A2⟩ := A
                    obtain ⟨Z1, Z2⟩ := Z
                    dsimp only at p0 p1 p2 p3 hnx
                    have hnI : ((Z1 : Int) < (A1 : Int)) ∨ ((A1 : Int) = (Z1 : Int) ∧ (A2 : Int) < (Z2 : Int)) := by omega
                    have q0_0 := (Kp.drew wr).cellT hu3
                    have q0_1 := (Kp.drew wr).cellT p0
                    have q0_2 := (Kp.drew wr).cellT p1
                    have q0_3 := (Kp.drew wr).cellT p2
                    have q0_4 := (Kp.drew wr).cellT p3
                    have q1_0 := ((Kp.alloc wr (.cells #[.int .i64 0, .int .i64 0] 39)).trans (Kp.drew _)).cellT hu3
                    have q1_1 := ((Kp.alloc wr (.cells #[.int .i64 0, .int .i64 0] 39)).trans (Kp.drew _)).cellT p0
                    have q1_2 := ((Kp.alloc wr (.cells #[.int .i64 0, .int .i64 0] 39)).trans (Kp.drew _)).cellT p1
                    have q1_3 := ((Kp.alloc wr (.cells #[.int .i64 0, .int .i64 0] 39)).trans (Kp.drew _)).cellT p2
                    have q1_4 := ((Kp.alloc wr (.cells #[.int .i64 0, .int .i64 0] 39)).trans (Kp.drew _)).cellT p3
                    have q2_0 := ((Kp.alloc wr (.cells #[.int .i64 A1, .int .i64 A2] 39)).trans (Kp.drew _)).cellT hu3
                    have q2_1 := ((Kp.alloc wr (.cells #[.int .i64 A1, .int .i64 A2] 39)).trans (Kp.drew _)).cellT p0
                    have q2_2 := ((Kp.alloc wr (.cells #[.int .i64 A1, .int .i64 A2] 39)).trans (Kp.drew _)).cellT p1
                    have q2_3 := ((Kp.alloc wr (.cells #[.int .i64 A1, .int .i64 A2] 39)).trans (Kp.drew _)).cellT p2
                    have q2_4 := ((Kp.alloc wr (.cells #[.int .i64 A1, .int .i64 A2] 39)).trans (Kp.drew _)).cellT p3
                    have q3_0 := ((Kp.alloc wr (.cells #[.int .i64 Z1, .int .i64 Z2] 39)).trans (Kp.drew _)).cellT hu3
                    have q3_1 := ((Kp.alloc wr (.cells #[.int .i64 Z1, .int .i64 Z2] 39)).trans (Kp.drew _)).cellT p0
                    have q3_2 := ((Kp.alloc wr (.cells #[.int .i64 Z1, .int .i64 Z2] 39)).trans (Kp.drew _)).cellT p1
                    have q3_3 := ((Kp.alloc wr (.cells #[.int .i64 Z1, .int .i64 Z2] 39)).trans (Kp.drew _)).cellT p2
                    have q3_4 := ((Kp.alloc wr (.cells #[.int .i64 Z1, .int .i64 Z2] 39)).trans (Kp.drew _)).cellT p3
                    have q4_0 := (((Kp.alloc wr (.cells #[.int .i64 0, .int .i64 0] 39)).trans (Kp.alloc _ (.cells #[.int .i64 0, .int .i64 0] 39))).trans (Kp.drew _)).cellT hu3
                    have q4_1 := (((Kp.alloc wr (.cells #[.int .i64 0, .int .i64 0] 39)).trans (Kp.alloc _ (.cells #[.int .i64 0, .int .i64 0] 39))).trans (Kp.drew _)).cellT p0
                    have q4_2 := (((Kp.alloc wr (.cells #[.int .i64 0, .int .i64 0] 39)).trans (Kp.alloc _ (.cells #[.int .i64 0, .int .i64 0] 39))).trans (Kp.drew _)).cellT p1
                    have q4_3 := (((Kp.alloc wr (.cells #[.int .i64 0, .int .i64 0] 39)).trans (Kp.alloc _ (.cells #[.int .i64 0, .int .i64 0] 39))).trans (Kp.drew _)).cellT p2
                    have q4_4 := (((Kp.alloc wr (.cells #[.int .i64 0, .int .i64 0] 39)).trans (Kp.alloc _ (.cells #[.int .i64 0, .int .i64 0] 39))).trans (Kp.drew _)).cellT p3
                    have q5_0 := (((Kp.alloc wr (.cells #[.int .i64 0, .int .i64 0] 39)).trans (Kp.alloc _ (.cells #[.int .i64 A1, .int .i64 A2] 39))).trans (Kp.drew _)).cellT hu3
                    have q5_1 := (((Kp.alloc wr (.cells #[.int .i64 0, .int .i64 0] 39)).trans (Kp.alloc _ (.cells #[.int .i64 A1, .int .i64 A2] 39))).trans (Kp.drew _)).cellT p0
                    have q5_2 := (((Kp.alloc wr (.cells #[.int .i64 0, .int .i64 0] 39)).trans (Kp.alloc _ (.cells #[.int .i64 A1, .int .i64 A2] 39))).trans (Kp.drew _)).cellT p1
                    have q5_3 := (((Kp.alloc wr (.cells #[.int .i64 0, .int .i64 0] 39)).trans (Kp.alloc _ (.cells #[.int .i64 A1, .int .i64 A2] 39))).trans (Kp.drew _)).cellT p2
                    have q5_4 := (((Kp.alloc wr (.cells #[.int .i64 0, .int .i64 0] 39)).trans (Kp.alloc _ (.cells #[.int .i64 A1, .int .i64 A2] 39))).trans (Kp.drew _)).cellT p3
                    have q6_0 := (((Kp.alloc wr (.cells #[.int .i64 0, .int .i64 0] 39)).trans (Kp.alloc _ (.cells #[.int .i64 Z1, .int .i64 Z2] 39))).trans (Kp.drew _)).cellT hu3
                    have q6_1 := (((Kp.alloc wr (.cells #[.int .i64 0, .int .i64 0] 39)).trans (Kp.alloc _ (.cells #[.int .i64 Z1, .int .i64 Z2] 39))).trans (Kp.drew _)).cellT p0
                    have q6_2 := (((Kp.alloc wr (.cells #[.int .i64 0, .int .i64 0] 39)).trans (Kp.alloc _ (.cells #[.int .i64 Z1, .int .i64 Z2] 39))).trans (Kp.drew _)).cellT p1
                    have q6_3 := (((Kp.alloc wr (.cells #[.int .i64 0, .int .i64 0] 39)).trans (Kp.alloc _ (.cells #[.int .i64 Z1, .int .i64 Z2] 39))).trans (Kp.drew _)).cellT p2
                    have q6_4 := (((Kp.alloc wr (.cells #[.int .i64 0, .int .i64 0] 39)).trans (Kp.alloc _ (.cells #[.int .i64 Z1, .int .i64 Z2] 39))).trans (Kp.drew _)).cellT p3
                    have q7_0 := (((Kp.alloc wr (.cells #[.int .i64 A1, .int .i64 A2] 39)).trans (Kp.alloc _ (.cells #[.int .i64 0, .int .i64 0] 39))).trans (Kp.drew _)).cellT hu3
                    have q7_1 := (((Kp.alloc wr (.cells #[.int .i64 A1, .int .i64 A2] 39)).trans (Kp.alloc _ (.cells #[.int .i64 0, .int .i64 0] 39))).trans (Kp.drew _)).cellT p0
                    have q7_2 := (((Kp.alloc wr (.cells #[.int .i64 A1, .int .i64 A2] 39)).trans (Kp.alloc _ (.cells #[.int .i64 0, .int .i64 0] 39))).trans (Kp.drew _)).cellT p1
                    have q7_3 := (((Kp.alloc wr (.cells #[.int .i64 A1, .int .i64 A2] 39)).trans (Kp.alloc _ (.cells #[.int .i64 0, .int .i64 0] 39))).trans (Kp.drew _)).cellT p2
                    have q7_4 := (((Kp.alloc wr (.cells #[.int .i64 A1, .int .i64 A2] 39)).trans (Kp.alloc _ (.cells #[.int .i64 0, .int .i64 0] 39))).trans (Kp.drew _)).cellT p3
                    have q8_0 := (((Kp.alloc wr (.cells #[.int .i64 Z1, .int .i64 Z2] 39)).trans (Kp.alloc _ (.cells #[.int .i64 0, .int .i64 0] 39))).trans (Kp.drew _)).cellT hu3
                    have q8_1 := (((Kp.alloc wr (.cells #[.int .i64 Z1, .int .i64 Z2] 39)).trans (Kp.alloc _ (.cells #[.int .i64 0, .int .i64 0] 39))).trans (Kp.drew _)).cellT p0
                    have q8_2 := (((Kp.alloc wr (.cells #[.int .i64 Z1, .int .i64 Z2] 39)).trans (Kp.alloc _ (.cells #[.int .i64 0, .int .i64 0] 39))).trans (Kp.drew _)).cellT p1
                    have q8_3 := (((Kp.alloc wr (.cells #[.int .i64 Z1, .int .i64 Z2] 39)).trans (Kp.alloc _ (.cells #[.int .i64 0, .int .i64 0] 39))).trans (Kp.drew _)).cellT p2
                    have q8_4 := (((Kp.alloc wr (.cells #[.int .i64 Z1, .int .i64 Z2] 39)).trans (Kp.alloc _ (.cells #[.int .i64 0, .int .i64 0] 39))).trans (Kp.drew _)).cellT p3
                    have q9_0 := (((Kp.alloc wr (.cells #[.int .i64 A1, .int .i64 A2] 39)).trans (Kp.alloc _ (.cells #[.int .i64 Z1, .int .i64 Z2] 39))).trans (Kp.drew _)).cellT hu3
                    have q9_1 := (((Kp.alloc wr (.cells #[.int .i64 A1, .int .i64 A2] 39)).trans (Kp.alloc _ (.cells #[.int .i64 Z1, .int .i64 Z2] 39))).trans (Kp.drew _)).cellT p0
                    have q9_2 := (((Kp.alloc wr (.cells #[.int .i64 A1, .int .i64 A2] 39)).trans (Kp.alloc _ (.cells #[.int .i64 Z1, .int .i64 Z2] 39))).trans (Kp.drew _)).cellT p1
                    have q9_3 := (((Kp.alloc wr (.cells #[.int .i64 A1, .int .i64 A2] 39)).trans (Kp.alloc _ (.cells #[.int .i64 Z1, .int .i64 Z2] 39))).trans (Kp.drew _)).cellT p2
                    have q9_4 := (((Kp.alloc wr (.cells #[.int .i64 A1, .int .i64 A2] 39)).trans (Kp.alloc _ (.cells #[.int .i64 Z1, .int .i64 Z2] 39))).trans (Kp.drew _)).cellT p3
                    have q10_0 := (((Kp.alloc wr (.cells #[.int .i64 Z1, .int .i64 Z2] 39)).trans (Kp.alloc _ (.cells #[.int .i64 A1, .int .i64 A2] 39))).trans (Kp.drew _)).cellT hu3
                    have q10_1 := (((Kp.alloc wr (.cells #[.int .i64 Z1, .int .i64 Z2] 39)).trans (Kp.alloc _ (.cells #[.int .i64 A1, .int .i64 A2] 39))).trans (Kp.drew _)).cellT p0
                    have q10_2 := (((Kp.alloc wr (.cells #[.int .i64 Z1, .int .i64 Z2] 39)).trans (Kp.alloc _ (.cells #[.int .i64 A1, .int .i64 A2] 39))).trans (Kp.drew _)).cellT p1
                    have q10_3 := (((Kp.alloc wr (.cells #[.int .i64 Z1, .int .i64 Z2] 39)).trans (Kp.alloc _ (.cells #[.int .i64 A1, .int .i64 A2] 39))).trans (Kp.drew _)).cellT p2
                    have q10_4 := (((Kp.alloc wr (.cells #[.int .i64 Z1, .int .i64 Z2] 39)).trans (Kp.alloc _ (.cells #[.int .i64 A1, .int .i64 A2] 39))).trans (Kp.drew _)).cellT p3
                    clear hg hu2 hnx
                    go_wp2
                    go_region
                    all_goals (
                      clear q0_0 q0_1 q0_2 q0_3 q0_4 q1_0 q1_1 q1_2 q1_3 q1_4 q2_0 q2_1 q2_2 q2_3 q2_4 q3_0 q3_1 q3_2 q3_3 q3_4 q4_0 q4_1 q4_2 q4_3 q4_4 q5_0 q5_1 q5_2 q5_3 q5_4 q6_0 q6_1 q6_2 q6_3 q6_4 q7_0 q7_1 q7_2 q7_3 q7_4 q8_0 q8_1 q8_2 q8_3 q8_4 q9_0 q9_1 q9_2 q9_3 q9_4 q10_0 q10_1 q10_2 q10_3 q10_4 hu3 p0 p1 p2 p3
                      have hAZ : ¬ (A1 : Int) < (Z1 : Int) := by omega
                      rcases hnI with hnI | ⟨hn1, hn2⟩
                      · have hne : ((A1 : Int) == (Z1 : Int)) = false := beq_eq_false_iff_ne.2 (by omega)
                        go_wp2
                        refine ⟨⟨m + 1, by omega, by go_num, (unhide K8).trans (((Kp.alloc _ _).trans (Kp.alloc _ _)).trans (Kp.drew _))⟩, ?_⟩
                        simp [intOf]; omega
                      · rw [hn1] at hAZ ⊢
                        have hge : ¬ (Z2 : Int) ≤ (A2 : Int) := by omega
                        go_wp2
                        refine ⟨⟨m + 1, by omega, by go_num, (unhide K8).trans (((Kp.alloc _ _).trans (Kp.alloc _ _)).trans (Kp.drew _))⟩, ?_⟩
                        simp [intOf]; omega)
                  · go_wp2
                    go_roundw
                    case rel => exact ⟨k + 1, S + L, T + il, by omega, by go_num, by go_num, by go_num, by omega, by omega, (unhide HES).symm, (unhide HET).symm, (unhide KR2).trans (unhide K8)⟩
                    case measure => simp [intOf] <;> omega
          · obtain rfl : k = ns.length := by omega
            have hsum := usersL_sum (root := r) (unhide HSN)
            rw [← unhide ES, ← unhide ET] at hsum
            subst hsum
            have K9 := hide ((unhide K6).trans ((unhide GK).trans (unhide KR)))
            clear ES ET
            go_wp2
            go_ret
            exact ⟨by first | rfl | trivial | simp, unhide K9⟩)

end Go.Proofs.Ytefohemihiiceaa
