
/- The law GraphChecks: any graphs, any leaves: the first error, and where it is. -/
import Derived.Test.YtliddjpcbhdplaaRgB
import Derived.Test.YtliddjpcbhdplaaGrV
import Derived.Test.YtliddjpcbhdplaaGrK
namespace Go.Proofs.Ytliddjpcbhdplaa
open Go.RowKit

theorem edgesN_le {ns : List Nd} {K : Nat} (h : ∀ i, i < ns.length → (ns.getD i ndnil).inn.length ≤ K) : ∀ j, j ≤ ns.length → edgesN (ns.take j) ≤ j * K
  | 0, _ => by
    rw [List.take_zero]
    exact Nat.zero_le _
  | j + 1, hj => by
    rw [edgesN_take (by omega)]
    have h1 := edgesN_le h j (by omega)
    have h2 := h j (by omega)
    rw [Nat.add_mul, Nat.one_mul]
    omega

set_option maxRecDepth 20000 in
set_option maxHeartbeats 8000000 in
theorem checks_walk (a0 a2 : Option Addr) (len0 cap0 len2 cap2 : Nat) (w : World) (h0 : InGraphs w a0 len0 cap0) (y0 : ZGraphs w a0 len0) (h2 : InRows .i64 w a2 len2 cap2) :
    Calls Try.prog 3 #[.slice a0 len0 cap0, .slice a2 len2 cap2] w fun e w' => e = .returned (.bool true) ∧ Kp w w' := by
  have H0 := hide h0
  have Y0 := hide y0
  have H2 := hide h2
  clear h0 y0 h2
  go_enter Try.func3, Try.ntmps3
  go_wp2_with fail
  refine (awake10_any w).mono ?_
  rintro e w1 ⟨rfl, k1⟩
  have K1 := hide k1
  clear k1
  go_wp2_with fail
  refine (smallL_any len0 cap0 a0 w1 ((unhide H0).keepW (unhide K1)) ((unhide Y0).keepW (unhide H0) (unhide K1))).mono ?_
  rintro e w2 ⟨⟨b0, rfl, hs0⟩, k2⟩
  have K2 := hide ((unhide K1).trans k2)
  have K12 := hide k2
  have HS0 := hide hs0
  clear k2 hs0
  cases b0 with
  | false =>
    go_wp2
    go_ret
    exact ⟨rfl, unhide K2⟩
  | true =>
    obtain ⟨hl0, hall⟩ := unhide HS0 rfl
    have HALL := hide hall
    have HG0 : Hid (∃ gs : List (List Nd), gs.length = len0 ∧ Graphs w1 (.slice a0 len0 cap0) gs) := graphs_of ((unhide H0).keepW (unhide K1)) hl0 hall
    clear HS0 hall
    go_wp2_with fail
    refine (short_any len2 cap2 a2 w2 ((unhide H2).keepW (unhide K2))).mono ?_
    rintro e w4 ⟨⟨b2, rfl, hs2⟩, k4⟩
    have K4 := hide ((unhide K2).trans k4)
    have HS2 := hide hs2
    have K24 := hide k4
    clear k4 hs2
    cases b2 with
    | false =>
      go_wp2
      go_ret
      exact ⟨rfl, unhide K4⟩
    | true =>
      obtain ⟨hl2, _⟩ := unhide HS2 rfl
      have HG2 : Hid (∃ ls : List (List Int), ls.length = len2 ∧ Rows2 w2 (.slice a2 len2 cap2) ls) := rows_of ((unhide H2).keepW (unhide K2)) hl2 (unhide HS2 rfl).2
      clear HS2
      obtain ⟨gs, hgl, hgs⟩ := unhide HG0
      obtain ⟨lv, hvl, hlv⟩ := unhide HG2
      have K14 := hide ((unhide K12).trans (unhide K24))
      have HA1 := hide hgs
      have HA : Hid (Graphs w4 (.slice a0 len0 cap0) gs) := hgs.keep (unhide K14)
      have HR : Hid (Rows2 w4 (.slice a2 len2 cap2) lv) := hlv.keep (unhide K24)
      have C1 := check_any a2 cap2 lv a0 cap0 gs w4 (by rw [hvl]; exact unhide HR) (by rw [hgl]; exact unhide HA)
      rw [hvl, hgl] at C1
      have HC1 := hide C1
      clear hgs hlv HG0 HG2 H0 Y0 H2 C1 K12 K24
      go_wp2_with fail
      refine (unhide HC1).mono ?_
      rintro e w5 ⟨rfl, k5⟩
      have K5 := hide ((unhide K4).trans k5)
      have K45 := hide k5
      clear k5 HC1
      have C2 := rcheck_any a2 cap2 lv a0 cap0 gs w5 (by rw [hvl]; exact (unhide HR).keep (unhide K45)) (by rw [hgl]; exact (unhide HA).keep (unhide K45))
      rw [hvl, hgl] at C2
      have HC2 := hide C2
      clear C2
      go_wp2_with fail
      refine (unhide HC2).mono ?_
      rintro e w6 ⟨rfl, k6⟩
      have K6 := hide ((unhide K5).trans k6)
      have K16 := hide ((unhide K14).trans ((unhide K45).trans k6))
      clear k6 HC2
      generalize chE lv gs = E at *
      generalize chG lv gs = G at *
      generalize chA lv gs = A at *
      by_cases hz : len0 = 0
      · subst hz
        go_wp2
        go_loopw [12, 11] (fun i s wr => i = .int .i64 0 ∧ s = .int .i64 0 ∧ Hid (Kp w6 wr)) (fun _ _ _ => 0)
        case atStart => exact ⟨rfl, rfl, Kp.refl _⟩
        case round =>
          obtain ⟨rfl, rfl, KR⟩ := hrel
          go_wp2
          go_ret
          exact ⟨rfl, (unhide K6).trans (unhide KR)⟩
      · have hpI : (0 : Int) < (len0 : Int) := by omega
        have hzb : ((len0 : Int) == 0) = false := beq_eq_false_iff_ne.2 (by omega)
        obtain ⟨b, off, a', c', rfl, hb, cg0, hnd⟩ := (unhide HA1).one (Kp.refl w1) (i := 0) (by omega)
        have hns := unhide HALL 0 (by omega) b off rfl a' _ c' cg0
        obtain ⟨hn4, hsh⟩ := hns
        have HSH := hide hsh
        have HN := hide hnd
        have HCG := hide cg0
        have hbd : ∀ i, i < (gs.getD 0 []).length → ((gs.getD 0 []).getD i ndnil).inn.length ≤ 8192 := fun i hi => by
          obtain ⟨b2, off2, rfl, _, hn⟩ := hnd.one (Kp.refl w1) hi
          obtain ⟨a1, c1, hc1, _⟩ := hn.inn
          exact hsh b2 off2 rfl i 1 hi (by omega) a1 _ c1 (by rw [← Nat.add_assoc]; exact hc1)
        have HBD := hide hbd
        clear hnd hsh cg0 hbd hb HALL HA1 HA HR
        generalize gs.getD 0 [] = ns at *
        have HLE : Hid (∀ j, j ≤ ns.length → edgesN (ns.take j) ≤ j * 8192) := fun j hj => edgesN_le (unhide HBD) j hj
        have HTA : Hid (edgesN (ns.take ns.length) = edgesN ns) := by unfold Hid; rw [List.take_length]
        have HEE : Hid (edgesN ns ≤ 1000000000000) := by
          have h1 := unhide HLE ns.length (Nat.le_refl _)
          rw [unhide HTA] at h1
          show edgesN ns ≤ _
          omega
        rw [Nat.add_zero] at HCG
        go_wp2
        go_loopw [12, 11] (fun i s wr => ∃ j : Nat, j ≤ ns.length ∧ i = .int .i64 j ∧ s = .int .i64 (edgesN (ns.take j) : Int) ∧ Hid (Kp w6 wr)) (fun i _ _ => ns.length - (intOf i).toNat)
        case atStart => exact ⟨0, Nat.zero_le _, rfl, rfl, Kp.refl _⟩
        case round =>
          obtain ⟨j, hj, rfl, rfl, KR⟩ := hrel
          have cg := ((unhide K16).trans (unhide KR)).cellT (unhide HCG)
          have hle := unhide HLE j hj
          by_cases hjl : j < ns.length
          · have hjI : (j : Int) < (ns.length : Int) := by omega
            obtain ⟨b2, off2, rfl, hb2, hnd⟩ := (unhide HN).one ((unhide K16).trans (unhide KR)) hjl
            obtain ⟨a1, c1, x1, _⟩ := hnd.inn
            have hbj := unhide HBD j hjl
            have HT := hide (edgesN_take hjl)
            clear hnd
            generalize (ns.getD j ndnil).inn.length = q at *
            generalize hS : edgesN (ns.take j) = SS at *
            go_wp2
            go_roundw
            case rel => exact ⟨j + 1, by omega, by go_num, by rw [unhide HT]; go_num, unhide KR⟩
            case measure => simp [intOf]; omega
          · obtain rfl : j = ns.length := by omega
            have HC := hide (edges_any a' c' ns wr ((unhide HN).keep ((unhide K16).trans (unhide KR))) (unhide HEE))
            rw [unhide HTA]
            clear hle
            go_wp2_with fail
            refine (unhide HC).mono ?_
            rintro e w9 ⟨rfl, k9⟩
            have K9 := hide (((unhide K6).trans (unhide KR)).trans k9)
            clear k9 HC
            go_wp2
            go_ret
            exact ⟨rfl, unhide K9⟩

end Go.Proofs.Ytliddjpcbhdplaa
