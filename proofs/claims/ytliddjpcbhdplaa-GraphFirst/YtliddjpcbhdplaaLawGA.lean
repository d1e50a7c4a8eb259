
/- The law GraphFirst: of many faults the first one is told; what stands behind it changes nothing. -/
import Derived.Test.YtliddjpcbhdplaaGrX
namespace Go.Proofs.Ytliddjpcbhdplaa
open Go.RowKit

theorem inGraphs_none {w : World} {a : Option Addr} {len cap : Nat} (h : InGraphs w a len cap) : a = none → len = 0 ∧ cap = 0 := by
  rcases h with ⟨_, h1, h2⟩ | ⟨x, rfl, _⟩
  · exact fun _ => ⟨h1, h2⟩
  · exact fun e => by cases e

/-- what GraphFirst asks of the answers -/
def FirstP (n : Nat) (G A E H M F : Int) : Prop :=
  (E = 0 → F = 0 ∨ (n : Int) ≤ H) ∧ (E = 6 → F = 0 ∨ (F ≠ 0 ∧ (G < H ∨ (H = G ∧ A ≤ M)))) ∧ (E ≠ 0 → E ≠ 6 → F ≠ 0 ∧ H = G ∧ M = A ∧ F = E)

set_option maxRecDepth 20000 in
set_option maxHeartbeats 8000000 in
theorem first_walk (a0 a1 a2 : Option Addr) (len0 cap0 len1 cap1 len2 cap2 : Nat) (w : World) (h0 : InGraphs w a0 len0 cap0) (y0 : ZGraphs w a0 len0) (h1 : InGraphs w a1 len1 cap1) (y1 : ZGraphs w a1 len1) (h2 : InRows .i64 w a2 len2 cap2) :
    Calls Try.prog 5 #[.slice a0 len0 cap0, .slice a1 len1 cap1, .slice a2 len2 cap2] w fun e w' => e = .returned (.bool true) ∧ Kp w w' := by
  have H0 := hide h0
  have Y0 := hide y0
  have H1 := hide h1
  have Y1 := hide y1
  have H2 := hide h2
  have N0 := hide (inGraphs_none h0)
  have N1 := hide (inGraphs_none h1)
  clear h0 y0 h1 y1 h2
  go_enter Try.func5, Try.ntmps5
  go_wp2_with fail
  refine (awake10_any w).mono ?_
  rintro e w1 ⟨rfl, k1⟩
  have K1 := hide k1
  clear k1
  go_wp2_with fail
  refine (smallL_any len0 cap0 a0 w1 ((unhide H0).keepW (unhide K1)) ((unhide Y0).keepW (unhide H0) (unhide K1))).mono ?_
  rintro e w2 ⟨⟨b0, rfl, hs0⟩, k2⟩
  have K2 := hide ((unhide K1).trans k2)
  have K12 := hide k2
  have HS0 := hide hs0
  clear k2 hs0
  cases b0 with
  | false =>
    go_wp2
    go_ret
    exact ⟨rfl, unhide K2⟩
  | true =>
    obtain ⟨hl0, _⟩ := unhide HS0 rfl
    have HG0 : Hid (∃ gs : List (List Nd), gs.length = len0 ∧ Graphs w1 (.slice a0 len0 cap0) gs) := graphs_of ((unhide H0).keepW (unhide K1)) hl0 (unhide HS0 rfl).2
    clear HS0
    go_wp2_with fail
    refine (smallL_any len1 cap1 a1 w2 ((unhide H1).keepW (unhide K2)) ((unhide Y1).keepW (unhide H1) (unhide K2))).mono ?_
    rintro e w3 ⟨⟨b1, rfl, hs1⟩, k3⟩
    have K3 := hide ((unhide K2).trans k3)
    have HS1 := hide hs1
    have K23 := hide k3
    clear k3 hs1
    cases b1 with
    | false =>
      go_wp2
      go_ret
      exact ⟨rfl, unhide K3⟩
    | true =>
      obtain ⟨hl1, _⟩ := unhide HS1 rfl
      have HG1 : Hid (∃ gs : List (List Nd), gs.length = len1 ∧ Graphs w2 (.slice a1 len1 cap1) gs) := graphs_of ((unhide H1).keepW (unhide K2)) hl1 (unhide HS1 rfl).2
      clear HS1
      go_wp2_with fail
      refine (short_any len2 cap2 a2 w3 ((unhide H2).keepW (unhide K3))).mono ?_
      rintro e w4 ⟨⟨b2, rfl, hs2⟩, k4⟩
      have K4 := hide ((unhide K3).trans k4)
      have HS2 := hide hs2
      have K34 := hide k4
      clear k4 hs2
      cases b2 with
      | false =>
        go_wp2
        go_ret
        exact ⟨rfl, unhide K4⟩
      | true =>
        obtain ⟨hl2, _⟩ := unhide HS2 rfl
        have HG2 : Hid (∃ ls : List (List Int), ls.length = len2 ∧ Rows2 w3 (.slice a2 len2 cap2) ls) := rows_of ((unhide H2).keepW (unhide K3)) hl2 (unhide HS2 rfl).2
        clear HS2
        by_cases h16 : len0 + len1 ≤ 16
        · have h16I : ¬ (16 : Int) < (len0 : Int) + (len1 : Int) := by omega
          obtain ⟨gs, hgl, hgs⟩ := unhide HG0
          obtain ⟨hs, hhl, hhs⟩ := unhide HG1
          obtain ⟨lv, hvl, hlv⟩ := unhide HG2
          have K24 := hide ((unhide K23).trans (unhide K34))
          have K14 := hide ((unhide K12).trans (unhide K24))
          have HA : Hid (Graphs w4 (.slice a0 len0 cap0) gs) := hgs.keep (unhide K14)
          have HB : Hid (Graphs w4 (.slice a1 len1 cap1) hs) := hhs.keep (unhide K24)
          have HR : Hid (Rows2 w4 (.slice a2 len2 cap2) lv) := hlv.keep (unhide K34)
          have LAW := first_law lv gs hs (by rw [List.length_append]; omega)
          rw [hgl] at LAW
          obtain ⟨xs, hxv, hxl, hxc⟩ := (unhide HA).vals hgl
          obtain ⟨ys, hyv, hyl, hyc⟩ := (unhide HB).vals hhl
          have HX := hide hxv
          have HY := hide hyv
          have HXC := hide hxc
          have HYC := hide hyc
          have C1 := check_any a2 cap2 lv a0 cap0 gs w4 (by rw [hvl]; exact unhide HR) (by rw [hgl]; exact unhide HA)
          rw [hvl, hgl] at C1
          have HC1 := hide C1
          clear hgs hhs hlv hxv hyv hxc hyc HG0 HG1 HG2 H0 Y0 H1 Y1 H2 C1 K1 K2 K3 K12 K23 K34 K24 K14
          go_wp2_with fail
          refine (unhide HC1).mono ?_
          rintro e w5 ⟨rfl, k5⟩
          have K5 := hide ((unhide K4).trans k5)
          have K45 := hide k5
          clear k5 HC1
          have F0 : Hid (xs.length = len0 * 1) := by rw [Nat.mul_one]; exact hxl
          have F1 : Hid (ys.length = len1 * 1) := by rw [Nat.mul_one]; exact hyl
          have HXC5 : Hid (∀ ad, a0 = some ad → ∀ j u, xs[j]? = some u → (w5.alloc (.cells #[] 34)).cell? (ad.add j) = some u) := fun ad e j u hj => ((unhide K45).trans (Kp.alloc _ _)).cellT (unhide HXC ad e j u hj)
          go_wp2_with (first
            | (have hq7 := HO7; clear hq7; at_builtin; go_must (refine wpList_append_list _ rfl _ _ 22 34 rfl (.agg #[.slice none 0 0]) 1 24 infoGr rfl (by decide) (by decide) Try.underlying22 w5 w5.heap.size g7 len0 k7 xs rfl (unhide HO7) a1 len1 cap1 ys rfl (unhide F1) (unhide N1) (fun ad e j u hj => ((unhide K45).trans (unhide K57)).cellT (unhide HYC ad e j u hj)) (GVals.one (unhide HY)) (by omega) (unhide B7) (unhide K57) (Nat.le_refl _) ?_); intro g8 k8 w8 ho8 hg8 hk8 hb8; have HO8 := hide ho8; have K58 := hide hk8; clear ho8 hg8 hk8 hb8)
            | (at_builtin; go_must (refine wpList_append_list _ rfl _ _ 22 34 rfl (.agg #[.slice none 0 0]) 1 24 infoGr rfl (by decide) (by decide) Try.underlying22 w5 w5.heap.size w5.heap.size 0 0 [] rfl own_none a0 len0 cap0 xs rfl (unhide F0) (unhide N0) (unhide HXC5) (GVals.one (unhide HX)) (by omega) (by simp) (Kp.alloc _ _) (Nat.le_refl _) ?_); intro g7 k7 w7 ho7 hg7 hk7 hb7; rw [Nat.zero_add, List.nil_append] at ho7; have HO7 := hide ho7; have K57 := hide hk7; have B7 := hide hb7; clear ho7 hg7 hk7 hb7))
          have K48 := hide ((unhide K45).trans (unhide K58))
          have HV := hide (((unhide HX).append (unhide HY)).keep (unhide K48))
          have hgl9 : (gs ++ hs).length = len0 + len1 := by rw [List.length_append, hgl, hhl]
          have HG9 := hide (own_graphs (unhide HO8) (unhide HV) hgl9 (by omega))
          have C2 := check_any a2 cap2 lv (some ⟨g8, 0, none⟩) k8 (gs ++ hs) w8 (by rw [hvl]; exact (unhide HR).keep (unhide K48)) (by rw [hgl9]; exact unhide HG9)
          rw [hvl, hgl9] at C2
          refine Calls.mono C2 ?_
          rintro e w9 ⟨rfl, k9⟩
          have K9 := hide (((unhide K5).trans (unhide K58)).trans k9)
          clear k9 C2 HG9 HV K48 HO8 K58 B7 K57 HO7 HXC5 F0 F1 K5 K45 HXC HYC HX HY HA HB HR N0 N1 hxl hyl hgl9
          generalize chE lv (gs ++ hs) = F at *
          generalize chG lv (gs ++ hs) = H at *
          generalize chA lv (gs ++ hs) = M at *
          generalize chE lv gs = E at *
          generalize chG lv gs = G at *
          generalize chA lv gs = A at *
          obtain ⟨L1, L2, L3⟩ := LAW
          by_cases e0 : E = 0
          · subst e0
            by_cases f0 : F = 0
            · subst f0
              go_wp2
              go_ret
              exact ⟨rfl, unhide K9⟩
            · have hH := (L1 rfl).resolve_left f0
              have f0b : (F == 0) = false := beq_eq_false_iff_ne.2 f0
              go_wp2
              go_ret
              exact ⟨rfl, unhide K9⟩
          · have e0b : (E == 0) = false := beq_eq_false_iff_ne.2 e0
            by_cases e6 : E = 6
            · subst e6
              by_cases f0 : F = 0
              · subst f0
                go_wp2
                go_ret
                exact ⟨rfl, unhide K9⟩
              · have f0b : (F == 0) = false := beq_eq_false_iff_ne.2 f0
                rcases (L2 rfl).resolve_left f0 with ⟨_, hGH | ⟨hHG, hAM⟩⟩
                · clear L1 L2 L3
                  go_wp2
                  go_ret
                  exact ⟨rfl, unhide K9⟩
                · subst hHG
                  clear L1 L2 L3
                  go_wp2
                  go_ret
                  exact ⟨rfl, unhide K9⟩
            · have e6b : (E == 6) = false := beq_eq_false_iff_ne.2 e6
              obtain ⟨f0, rfl, rfl, rfl⟩ := L3 e0 e6
              clear L1 L2 L3
              have f0n : (F != 0) = true := bne_iff_ne.2 f0
              go_wp2
              go_ret
              exact ⟨rfl, unhide K9⟩
        · have h16I : (16 : Int) < (len0 : Int) + (len1 : Int) := by omega
          go_wp2
          go_ret
          exact ⟨rfl, unhide K4⟩

end Go.Proofs.Ytliddjpcbhdplaa
