
/- SchedRuns: whoever steps, how many, who waits: as the document's scheduler does. -/
import Derived.Test.YtenbmfhhmbfgoaaSchRl
import Derived.BigRegion
import Derived.BigQuiet
import Derived.Deep.QuietTactic
namespace Go.Proofs.Ytenbmfhhmbfgoaa
open Go.RowKit

theorem wf_u16h {a : Int} (h : (Lit.int .u16 a).wf = true) : 0 ≤ a ∧ a < 65536 := by
  have := bounds_u16 h
  omega
theorem bys_of_colR {w : World} {a : Option Addr} {n cap : Nat} {z : Nat → Int} (h : InCol .u8 w a n z) (hn : n ≤ 1000000) : Bys w (.slice a n cap) ((List.range n).map z) := by
  have hl : ((List.range n).map z).length = n := by simp
  refine ⟨fun x hx => ?_, by omega, a, cap, by rw [hl], fun h0 => ?_⟩
  · obtain ⟨i, hi, rfl⟩ := List.mem_map.1 hx
    have hi2 := List.mem_range.1 hi
    obtain ⟨b, off, _, _, hc⟩ := h.2 (by omega)
    exact wf_by (hc i hi2).2
  · obtain ⟨b, off, rfl, hb, hc⟩ := h.2 (by omega)
    refine ⟨b, off, rfl, hb, fun i hi => ?_⟩
    rw [List.getD_eq_getElem?_getD, List.getElem?_map, List.getElem?_range (by omega)]
    exact (hc i (by omega)).1
theorem RB.start {W0 w3 : World} {ps : List Int} {pv : Value} {s : Nat} {F : Nat → Prop} {ds : List (Value × List (Value × List Int × Int))} (k0 : Kp W0 w3) (sc : Sc w3 s F ps newS) (hF : ∀ k, F k → W0.heap.size ≤ k) (hb : Bys W0 pv ps) :
    RB W0 ps pv s (w3.heap.size + 1) w3.heap.size ds 0 ((w3.alloc (.cells #[pv, .slice none 0 0, .int .i64 0, .slice none 0 0] 33)).alloc (.cells #[.slice none 0 0] 31)) := by
  have k1 := Kp.alloc w3 (.cells #[pv, .slice none 0 0, .int .i64 0, .slice none 0 0] 33)
  have m := MO.start (pv := pv) k0 hb
  have d := told_made (k0.trans k1) (sc.keep k1) hF
  rw [size_alloc] at d
  have hf := sc.fb
  refine ⟨[], [], newS, _, _, rfl, rfl, d, m.keep (Kp.alloc _ _), ?_⟩
  rintro k (e | e | e | e) f
  · have := hf k e; omega
  · omega
  · cases e
  · cases e

set_option maxRecDepth 200000 in
set_option maxHeartbeats 16000000 in
theorem runs_any (ds : List (Value × List (Value × List Int × Int))) (a0 : Option Addr) (cap0 : Nat) (a1 : Option Addr) (n1 cap1 : Nat) (z1 : Nat → Int) (a2 : Option Addr) (n2 cap2 : Nat) (z2 : Nat → Int) (w : World) (h0 : TasksAt w (.slice a0 ds.length cap0) ds) (h1 : InCol .u8 w a1 n1 z1) (h2 : InCol .u16 w a2 n2 z2) :
    Calls Try.prog 3 #[.slice a0 ds.length cap0, .slice a1 n1 cap1, .slice a2 n2 cap2] w fun e w' => e = .returned (.bool true) ∧ Kp w w' := by
  have HA := hide (awake15_any w)
  have hl0 := h0.1
  have hl1 := h1.1
  have hl2 := h2.1
  have HT := hide h0
  have HP : Hid (n1 ≤ 100 → Bys w (.slice a1 n1 cap1) ((List.range n1).map z1)) := fun h => bys_of_colR h1 (by omega)
  have HC := hide h2
  clear h0 h1 h2
  go_enter Try.func3, Try.ntmps3
  go_wp2_with fail
  refine (unhide HA).mono ?_
  clear HA
  rintro e w1 ⟨rfl, k1⟩
  have K1 := hide k1
  have HS := hide (smallD_any _ ds w1 ((unhide HT).keep k1))
  clear k1
  go_wp2_with fail
  refine (unhide HS).mono ?_
  clear HS
  rintro e w2 ⟨⟨b, rfl, hb⟩, k2⟩
  have K2 := hide ((unhide K1).trans k2)
  have HB := hide (unhide hb)
  clear k2 hb K1
  cases b
  · clear HB HT HP HC
    go_wp2_with fail
    go_ret
    exact ⟨rfl, unhide K2⟩
  · obtain ⟨h40, hcap⟩ := unhide HB rfl
    clear HB
    by_cases hp : n1 ≤ 100
    · have hpI : ¬ 100 < (n1 : Int) := by omega
      by_cases hc : n2 ≤ 20
      · have hcI : ¬ 20 < (n2 : Int) := by omega
        have HP2 := hide (unhide HP hp)
        generalize (List.range n1).map z1 = ps at *
        have HN := hide (snew_any (.slice a1 n1 cap1) _ w2 ((unhide HP2).keep (unhide K2)))
        clear HP
        go_wp2_with fail
        refine (unhide HN).mono ?_
        clear HN
        rintro e w3 ⟨s, F, rfl, sc, k3, hF⟩
        have K3 := hide ((unhide K2).trans k3)
        have B0 := hide (RB.start (ds := ds) (unhide K3) sc (fun k e => Nat.le_trans (unhide K2).size (hF k e)) (unhide HP2))
        clear sc k3 hF K2 K3 HP2
        go_upto_region 9 with fail
        generalize (w3.alloc (.cells #[.slice a1 n1 cap1, .slice none 0 0, .int .i64 0, .slice none 0 0] 33)).alloc (.cells #[.slice none 0 0] 31) = W at *
        generalize w3.heap.size + 1 = T at *
        generalize w3.heap.size = M at *
        go_wp2
        go_loopw [10] (fun i wr => ∃ k : Nat, k ≤ ds.length ∧ i = .int .i64 k ∧ Hid (RB w ps (.slice a1 n1 cap1) s T M ds k wr)) (fun i _ => ds.length - (intOf i).toNat)
        case atStart => exact ⟨0, Nat.zero_le _, rfl, unhide B0⟩
        case round =>
          obtain ⟨k, hk, rfl, HBo⟩ := hrel
          by_cases hlt : k < ds.length
          · have hltI : (k : Int) < (ds.length : Int) := by omega
            obtain ⟨-, a', cap', e, hh⟩ := unhide HT
            cases e
            obtain ⟨bb, off, rfl, hbb, hcc⟩ := hh (by omega)
            obtain ⟨c1, c2, -, -⟩ := hcc k hlt
            have kw : Kp w wr := by
              obtain ⟨_, _, _, _, _, _, _, r⟩ := (unhide HBo).at_
              exact r.d.kp
            have q1 := cell_of kw c1
            have HGo := hide ((unhide HBo).go hlt (by omega) c2 (by omega))
            obtain ⟨-, al, capl, eL, -⟩ := id c2
            have C1 := hide c1
            clear hh hcc c1 c2 kw hbb HBo
            generalize (ds.getD k dz).1 = Lv at *
            generalize (ds.getD k dz).2.length = nl at *
            subst eL
            unfold taskF at HGo
            go_wp2_with fail
            refine (unhide HGo).mono ?_
            clear HGo
            rintro e w6 ⟨rfl, K6, HG2⟩
            have HG3 := hide (unhide HG2)
            have q2 := cell_of (unhide K6) (unhide C1)
            clear HG2 q1 K6
            go_wp2_with fail
            refine (unhide HG3).mono ?_
            clear HG3
            rintro e w7 ⟨rfl, hbo⟩
            have HBo := hide hbo
            clear hbo
            go_wp2_with fail
            go_roundw
            case rel => exact ⟨k + 1, by omega, by go_num, unhide HBo⟩
            case measure => simp [intOf]; omega
          · obtain rfl : k = ds.length := by omega
            obtain ⟨A0, hrc⟩ := (unhide HBo).done
            clear hk hlt
            have HR0 := hide hrc
            clear hrc HBo
            generalize (⟨List.replicate ds.length 0, []⟩ : DC) = c0 at *
            go_wp2_with fail
            go_loopw [16] (fun i wr => ∃ (j : Nat) (c : DC) (A : SS), j ≤ n2 ∧ i = .int .i64 j ∧ Hid (RC w ps (.slice a1 n1 cap1) s T M ds c A wr)) (fun i _ => n2 - (intOf i).toNat)
            case atStart => exact ⟨0, c0, A0, Nat.zero_le _, rfl, unhide HR0⟩
            case round =>
              obtain ⟨j, c, A, hj, rfl, HR⟩ := hrel
              by_cases hjl : j < n2
              · have hjI : (j : Int) < (n2 : Int) := by omega
                obtain ⟨bm, offm, rfl, hbm, hcm⟩ := (unhide HC).2 (by omega)
                obtain ⟨q0, qw⟩ := hcm j hjl
                have qz := wf_u16h qw
                obtain ⟨z, hz⟩ : ∃ z : Nat, z2 j = (z : Int) := ⟨(z2 j).toNat, by omega⟩
                rw [hz] at q0 qz
                have q1 := cell_of (unhide HR).kp q0
                have Q0 := hide q0
                have CR := hide ((unhide HR).run (most := z) (by omega))
                clear hcm qw hz hbm q0 HR
                generalize runF ps (stepD ds) z (c, A) = X at *
                obtain ⟨n, E, c1, A1⟩ := X
                simp only at CR
                have hz2 : (z : Int) < 65536 := by omega
                clear qz
                go_wp2_with fail
                refine (unhide CR).mono ?_
                clear CR
                rintro e w6 ⟨rfl, K6, CR2⟩
                have CR3 := hide (unhide CR2)
                have q2 := cell_of (unhide K6) (unhide Q0)
                clear CR2 K6 q1
                go_wp2_with fail
                refine (unhide CR3).mono ?_
                clear CR3
                rintro e w7 ⟨rfl, hr7⟩
                have HR := hide hr7
                clear hr7 q2
                obtain ⟨ok, hts, htl, ⟨ta, tc, oa, oc, t0, t1, -⟩, co, cm, cn, cw⟩ := (unhide HR).reads
                have CO := hide co
                have CM := hide cm
                have CN := hide cn
                have CW := hide cw
                have OK := hide ok
                have HTS := hide hts
                have hab : A1.ab.length ≤ 128 := Nat.le_trans (rise_length _ ok.abr ok.abb) ok.lts
                have hwt : A1.wt.length ≤ 128 := Nat.le_trans (rise_length _ ok.wtr ok.wtb) ok.lts
                clear co cm cn cw ok hts
                generalize c1.told.length = tl at *
                go_upto_region 22 with fail
                go_quiet (first | (go_at_call 17; exact Calls.quiet_of (unhide CO _)) | (go_at_call 18; exact Calls.quiet_of_same (unhide CM _)) | (go_at_call 19; exact Calls.quiet_of_same (unhide CN _)))
                have CW2 := hide (unhide CW _ (Kp.drewN w7 nq))
                have HR2 := hide ((unhide HR).keep (Kp.drewN w7 nq))
                clear CO CM CN CW HR t0 t1
                generalize w7.drewN nq = w8 at *
                go_wp2_with fail
                refine (unhide CW2).mono ?_
                clear CW2
                rintro e w9 ⟨u, rfl, HU⟩
                have HR9 := hide ((unhide HR2).keep (unhide HU).2.1)
                obtain ⟨ua, uc, eu, HUc⟩ := (unhide HU).1.opn rfl
                have HFr : Hid (∀ q o, ua = some ⟨q, o, none⟩ → w8.heap.size ≤ q) := fun q o e => (unhide HU).2.2 ⟨q, o, none⟩ A1.wt.length uc (by rw [eu, e])
                have K89 := hide (unhide HU).2.1
                subst eu
                clear HU
                obtain ⟨ma, mc, m1, hm⟩ := (unhide HR9).tasks
                have HMt := hide hm
                have HRL := hide (fun t => rl_step (unhide OK) t)
                have HEnd : Hid ((RL A1.wt ds.length).length = A1.wt.length) := by
                  unfold Hid
                  rw [RL_all (unhide OK).wtr (by have := (unhide OK).wtb; rw [unhide HTS] at this; exact this)]
                clear hm
                generalize hwn : A1.wt.length = wn at *
                have HWN := hide hwn
                clear hwn
                go_wp2_with fail
                go_loopw [22, 23] (fun jv i wr => ∃ t : Nat, t ≤ ds.length ∧ i = .int .i64 t ∧ jv = .int .i64 ((RL A1.wt t).length : Int) ∧ wr = w9) (fun _ i _ => ds.length - (intOf i).toNat)
                case atStart => exact ⟨0, Nat.zero_le _, rfl, rfl, rfl⟩
                case round =>
                  obtain ⟨t, ht, rfl, rfl, rfl⟩ := hrel
                  have hrl := RL_len A1.wt t
                  by_cases htl2 : t < ds.length
                  · have htI : (t : Int) < (ds.length : Int) := by omega
                    obtain ⟨g, rfl, hg⟩ := unhide HMt (by omega)
                    obtain ⟨B, p1, p2⟩ := hg t htl2
                    clear hg
                    obtain ⟨hr1, hr2⟩ := unhide HRL t
                    by_cases h2 : stA A1 t = 2
                    · obtain ⟨x1, x2, x3⟩ := hr1 h2
                      rw [h2] at p2
                      obtain ⟨ub, uo, rfl, hub, huc⟩ := unhide HUc (by omega)
                      have y0 := huc (RL A1.wt t).length (by omega)
                      rw [x3] at y0
                      have X1 := hide x1
                      clear huc x1 x3 hr1 hr2 h2 hub
                      generalize (RL A1.wt t).length = r at *
                      have x2I : (r : Int) < (wn : Int) := by omega
                      clear HRL HEnd HMt HUc HFr OK HTS HT HC HR0 HR2 HR9 K89 Q0 B0 HWN
                      have hb1 : decide ((wn : Int) ≤ (r : Int)) = false := decide_eq_false (by omega)
                      have hb2 : decide (wn ≤ r) = false := decide_eq_false (by omega)
                      have hb3 : ((t : Int) != (t : Int)) = false := by simp
                      have hb4 : (t != t) = false := by simp
                      go_wp2
                      go_roundw
                      case rel => exact ⟨t + 1, by omega, by go_num, by rw [unhide X1]; go_num, trivial⟩
                      case measure => simp [intOf]; omega
                    · have X1 := hide (hr2 h2)
                      clear hr1 hr2
                      generalize (RL A1.wt t).length = r at *
                      generalize stA A1 t = st at *
                      have hb : (st != 2) = true := by simpa using h2
                      clear HRL HEnd HMt HUc HFr OK HTS HT HC HR0 HR2 HR9 K89 Q0 B0 HWN
                      go_wp2
                      go_roundw
                      case rel => exact ⟨t + 1, by omega, by go_num, by rw [unhide X1], trivial⟩
                      case measure => simp [intOf]; omega
                  · obtain rfl : t = ds.length := by omega
                    rw [unhide HEnd]
                    have hb1 : ((wn : Int) != (wn : Int)) = false := by simp
                    have hb2 : (wn != wn) = false := by simp
                    by_cases hw0 : wn = 0
                    · have HR8 := hide (unhide HR9)
                      have hb3 : decide ((0 : Int) < (wn : Int)) = false := decide_eq_false (by omega)
                      have hb4 : decide (0 < wn) = false := decide_eq_false (by omega)
                      clear HRL HEnd HMt HUc HFr OK HTS HR2 HR9 K89 HWN htl2 ht
                      go_wp2
                      go_roundw
                      case rel => exact ⟨j + 1, c1, A1, by omega, by go_num, unhide HR8⟩
                      case measure => simp [intOf]; omega
                    · have hb3 : decide ((0 : Int) < (wn : Int)) = true := decide_eq_true (by omega)
                      have hb4 : decide (0 < wn) = true := decide_eq_true (by omega)
                      have hw0I : (0 : Int) < (wn : Int) := by omega
                      obtain ⟨ub, uo, rfl, hub, huc⟩ := unhide HUc (by omega)
                      have y0 := huc 0 (by omega)
                      rw [Nat.add_zero] at y0
                      have CK := hide ((unhide HR2).wake (A1.wt.getD 0 0) (unhide K89))
                      have HF8 := hide (unhide HFr ub uo rfl)
                      clear huc hub HRL HEnd HMt HUc HFr OK HTS HR2 HR9 K89 HWN htl2 ht
                      generalize A1.wt.getD 0 0 = x at *
                      clear hw0
                      go_upto_if 182 with fail
                      go_upto_if 185 with fail
                      go_wp2_with fail
                      refine (unhide CK).mono ?_
                      clear CK
                      rintro e w10 ⟨bo, rfl, HKq, CK2⟩
                      have CK3 := hide (unhide CK2)
                      have y1 := unhide HKq ub uo _ (unhide HF8) y0
                      clear CK2 HKq y0 m1
                      go_wp2_with fail
                      refine (unhide CK3).mono ?_
                      clear CK3
                      rintro e w11 ⟨bo2, rfl, HR11⟩
                      go_wp2_with fail
                      go_roundw
                      case rel => exact ⟨j + 1, c1, _, by omega, by go_num, HR11⟩
                      case measure => simp [intOf]; omega
              · obtain rfl : j = n2 := by omega
                obtain ⟨-, -, htl, ⟨ta, tc, oa, oc, t0, t1, ht⟩, -, -, -, -⟩ := (unhide HR).reads
                have HT4 := hide ht
                have K6 := hide (unhide HR).kp
                have hb0 : decide ((j : Int) < (j : Int)) = false := decide_eq_false (by omega)
                clear ht HR hjl
                generalize c.told = t at *
                go_wp2_with fail
                go_loopw [24] (fun i wr2 => ∃ q : Nat, q ≤ t.length ∧ i = .int .i64 q ∧ Hid (Kp wr wr2)) (fun i _ => t.length - (intOf i).toNat)
                case atStart => exact ⟨0, Nat.zero_le _, rfl, Kp.refl _⟩
                case round wr2 =>
                  obtain ⟨q, hq, rfl, KR⟩ := hrel
                  have p0 := cell_of (unhide KR) t0
                  have p1 := cell_of (unhide KR) t1
                  by_cases hqt : q < t.length
                  · have hqI : (q : Int) < (t.length : Int) := by omega
                    obtain ⟨g, g', rfl, rfl, y1⟩ := unhide HT4 (by omega)
                    have p2 := cell_of (unhide KR) (y1 q hqt).1
                    have p3 := cell_of (unhide KR) (y1 q hqt).2
                    have hb1 : decide ((q : Int) < (t.length : Int)) = true := decide_eq_true hqI
                    clear y1
                    generalize t.getD q 0 = v at *
                    have hb2 : (v != v) = false := by simp
                    go_wp2_with fail
                    go_quiet (fail)
                    go_wp2_with fail
                    go_roundw
                    case rel => exact ⟨q + 1, by omega, by go_num, (unhide KR).trans (Kp.drewN _ _)⟩
                    case measure => simp [intOf]; omega
                  · obtain rfl : q = t.length := by omega
                    have hb1 : decide ((t.length : Int) < (t.length : Int)) = false := decide_eq_false (by omega)
                    clear hqt hq
                    go_wp2_with fail
                    go_ret
                    exact ⟨rfl, (unhide K6).trans (unhide KR)⟩
      · have hcI : 20 < (n2 : Int) := by omega
        clear HP HT HC
        go_wp2_with fail
        go_ret
        exact ⟨rfl, unhide K2⟩
    · have hpI : 100 < (n1 : Int) := by omega
      clear HP HT HC
      go_wp2_with fail
      go_ret
      exact ⟨rfl, unhide K2⟩

end Go.Proofs.Ytenbmfhhmbfgoaa
