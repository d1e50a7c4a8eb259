
/- The document's own Check. -/
import Derived.Test.YtliddjpcbhdplaaRgA
namespace Go.Proofs.Ytliddjpcbhdplaa
open Go.RowKit

set_option maxRecDepth 20000 in
set_option maxHeartbeats 8000000 in
theorem rcheck_any (la : Option Addr) (lc : Nat) (lv : List (List Int)) (a : Option Addr) (c : Nat) (gs : List (List Nd)) (w : World) (hl : Rows2 w (.slice la lv.length lc) lv) (hg : Graphs w (.slice a gs.length c) gs) :
    Calls Try.prog 11 #[.slice a gs.length c, .slice la lv.length lc] w fun e w' => e = .returned (.tuple #[.int .i64 (chG lv gs), .int .i64 (chA lv gs), .int .i64 (chE lv gs)]) ∧ Kp w w' := by
  have hr1 := hl.room
  have hr2 := hg.room
  have HL := hide hl
  have HG := hide hg
  clear hl hg
  by_cases hb : badC lv gs = true
  · have EA : Hid (chG lv gs = 0 ∧ chA lv gs = 0 ∧ chE lv gs = 13) := by
      refine ⟨by unfold chG; rw [hb]; rfl, by unfold chA; rw [hb]; rfl, by unfold chE; rw [hb]; rfl⟩
    rw [(unhide EA).1, (unhide EA).2.1, (unhide EA).2.2]
    by_cases h1 : 16 < gs.length
    · have h1I : (16 : Int) < (gs.length : Int) := by omega
      have h1D : decide ((16 : Int) < (gs.length : Int)) = true := decide_eq_true h1I
      clear hb EA
      generalize gs.length = m at *
      generalize lv.length = q at *
      go_enter Try.func11, Try.ntmps11
      go_wp2
      go_ret3
      exact ⟨rfl, Kp.refl _⟩
    · have h2 : 32 < lv.length := by unfold badC at hb; rw [decide_eq_false h1] at hb; simpa using hb
      have h1I : ¬ (16 : Int) < (gs.length : Int) := by omega
      have h1D : decide ((16 : Int) < (gs.length : Int)) = false := decide_eq_false h1I
      have h2I : (32 : Int) < (lv.length : Int) := by omega
      clear hb EA
      generalize gs.length = m at *
      generalize lv.length = q at *
      go_enter Try.func11, Try.ntmps11
      go_wp2
      go_ret3
      exact ⟨rfl, Kp.refl _⟩
  · have hb' := eq_false_of_ne_true hb
    have h1 : ¬ 16 < gs.length := fun h => by unfold badC at hb; rw [decide_eq_true h] at hb; exact hb rfl
    have h2 : ¬ 32 < lv.length := fun h => by unfold badC at hb; rw [decide_eq_true h] at hb; simp at hb
    have h1I : ¬ (16 : Int) < (gs.length : Int) := by omega
    have h1D : decide ((16 : Int) < (gs.length : Int)) = false := decide_eq_false h1I
    have h2I : ¬ (32 : Int) < (lv.length : Int) := by omega
    have EA : Hid (chG lv gs = fixN (grF lv gs) gs.length ∧ chA lv gs = (if fnz (grF lv gs) gs.length = 0 then 0 else fstA (gs.length : Int) lv (gs.getD (fixN (grF lv gs) gs.length) [])) ∧ chE lv gs = fnz (grF lv gs) gs.length) := by
      refine ⟨by unfold chG; rw [hb']; rfl, by unfold chA; rw [hb']; rfl, by unfold chE; rw [hb']; rfl⟩
    clear hb hb'
    go_enter Try.func11, Try.ntmps11
    go_wp2
    go_loopw [7] (fun i wr => ∃ k : Nat, k ≤ gs.length ∧ i = .int .i64 k ∧ Hid (∀ i, i < k → grF lv gs i = 0) ∧ Hid (Kp w wr)) (fun i _ => gs.length - (intOf i).toNat)
    case atStart => exact ⟨0, Nat.zero_le _, rfl, by unfold Hid; omega, Kp.refl _⟩
    case round =>
      obtain ⟨k, hk, rfl, HA, KR⟩ := hrel
      by_cases hlt : k < gs.length
      · have hltI : (k : Int) < (gs.length : Int) := by omega
        obtain ⟨b, off, a', c', rfl, hb, cg0, hnd⟩ := (unhide HG).one (Kp.refl w) hlt
        have hnr := hnd.room
        have HN := hide hnd
        have HCG := hide cg0
        have cg := (unhide KR).cellT cg0
        have HF : Hid (fstE (gs.length : Int) lv (gs.getD k []) = grF lv gs k) := rfl
        have EC : Hid (grF lv gs k ≠ 0 → chG lv gs = k ∧ chA lv gs = fstA (gs.length : Int) lv (gs.getD k []) ∧ chE lv gs = grF lv gs k) := fun h => by
          have e1 := fixN_at (unhide HA) h hlt
          have e2 := fnz_at (unhide HA) h hlt
          obtain ⟨q1, q2, q3⟩ := unhide EA
          refine ⟨by rw [q1, e1], ?_, by rw [q3, e2]⟩
          rw [q2, e2, if_neg h, e1]
        have HZ : Hid (grF lv gs k = 0 → ∀ i, i < k + 1 → grF lv gs i = 0) := fun hz i hi => by
          by_cases e : i = k
          · subst e; exact hz
          · exact unhide HA i (by omega)
        clear hnd cg0 hb
        generalize gs.getD k [] = ns at *
        by_cases hbad : badL ns = true
        · have EF : Hid (fstE (gs.length : Int) lv ns = 13 ∧ fstA (gs.length : Int) lv ns = 0) := ⟨by unfold fstE; rw [hbad]; rfl, by unfold fstA; rw [hbad]; rfl⟩
          have EG := hide (unhide EC (by rw [← unhide HF, (unhide EF).1]; decide))
          by_cases hn0 : ns.length = 0
          · have hn0I : ((ns.length : Int) == 0) = true := by rw [hn0]; rfl
            generalize ns.length = m at *
            subst hn0
            go_wp2
            go_ret3
            exact ⟨ret_three (unhide EG).1.symm (by rw [(unhide EG).2.1, (unhide EF).2]) (by rw [(unhide EG).2.2, ← unhide HF, (unhide EF).1]), unhide KR⟩
          · have hn1 : 256 < ns.length := by unfold badL at hbad; rw [decide_eq_false hn0] at hbad; simpa using hbad
            have hn0I : ((ns.length : Int) == 0) = false := beq_eq_false_iff_ne.2 (by omega)
            have hn1I : (256 : Int) < (ns.length : Int) := by omega
            generalize ns.length = m at *
            go_wp2
            go_ret3
            exact ⟨ret_three (unhide EG).1.symm (by rw [(unhide EG).2.1, (unhide EF).2]) (by rw [(unhide EG).2.2, ← unhide HF, (unhide EF).1]), unhide KR⟩
        · have hbad' := eq_false_of_ne_true hbad
          have hn0 : ¬ ns.length = 0 := fun h => by unfold badL at hbad; rw [decide_eq_true h] at hbad; exact hbad rfl
          have hn1 : ¬ 256 < ns.length := fun h => by unfold badL at hbad; rw [decide_eq_true h] at hbad; simp at hbad
          have hn0I : ((ns.length : Int) == 0) = false := beq_eq_false_iff_ne.2 (by omega)
          have hn1I : ¬ (256 : Int) < (ns.length : Int) := by omega
          have EF : Hid (fstE (gs.length : Int) lv ns = fnz (ndF (gs.length : Int) lv ns) ns.length ∧ fstA (gs.length : Int) lv ns = fixN (ndF (gs.length : Int) lv ns) ns.length) := ⟨by unfold fstE; rw [hbad']; rfl, by unfold fstA; rw [hbad']; rfl⟩
          clear hbad hbad' EA HA
          have KR1 := KR
          go_wp2
          go_loopw [8] (fun i wr => ∃ j : Nat, j ≤ ns.length ∧ i = .int .i64 j ∧ Hid (∀ i, i < j → ndF (gs.length : Int) lv ns i = 0) ∧ Hid (Kp w wr)) (fun i _ => ns.length - (intOf i).toNat)
          case atStart => exact ⟨0, Nat.zero_le _, rfl, fun i hi => absurd hi (Nat.not_lt_zero _), unhide KR1⟩
          case round =>
            clear cg
            obtain ⟨j, hj, rfl, HJ, KJ⟩ := hrel
            have cg := (unhide KJ).cellT (unhide HCG)
            by_cases hjl : j < ns.length
            · have hjI : (j : Int) < (ns.length : Int) := by omega
              obtain ⟨b2, off2, rfl, hb2, hnd⟩ := (unhide HN).one (unhide KJ) hjl
              have x0 := hnd.op
              have x3 := hnd.no
              obtain ⟨a1, a2, a4, a5, a6, c1, c2, c4, c5, c6, hnr2, x1, x2, x4, x5, x6⟩ := hnd.slices
              have HNR := hide hnr2
              have HE : Hid (ndF (gs.length : Int) lv ns j = ndE (gs.length : Int) lv (j : Int) (ns.getD j ndnil)) := rfl
              clear hnd hnr2
              generalize ns.getD j ndnil = n at *
              have HC := hide (rnode_any (gs.length : Int) la lc lv (j : Int) ⟨by omega, by omega⟩ ⟨by omega, by omega⟩ a1 a2 a4 a5 a6 c1 c2 c4 c5 c6 n _ ((unhide HL).keep (unhide KJ)) (unhide HNR))
              go_wp2_with fail
              refine (unhide HC).mono ?_
              rw [← unhide HE]
              rintro e w4 ⟨rfl, k4⟩
              have K4 := hide ((unhide KJ).trans k4)
              clear k4 HC x0 x1 x2 x3 x4 x5 x6
              by_cases hz : ndF (gs.length : Int) lv ns j = 0
              · have HJ2 : Hid (∀ i, i < j + 1 → ndF (gs.length : Int) lv ns i = 0) := zstep (unhide HJ) hz
                rw [hz]
                clear hz
                go_wp2
                go_roundw
                case rel => exact ⟨j + 1, by omega, by go_num, unhide HJ2, unhide K4⟩
                case measure => simp [intOf]; omega
              · have hzb : (ndF (gs.length : Int) lv ns j != 0) = true := bne_iff_ne.2 hz
                have EF2 : Hid (fstE (gs.length : Int) lv ns = ndF (gs.length : Int) lv ns j ∧ fstA (gs.length : Int) lv ns = (j : Int)) := by
                  obtain ⟨q1, q2⟩ := unhide EF
                  exact ⟨by rw [q1, fnz_at (unhide HJ) hz hjl], by rw [q2, fixN_at (unhide HJ) hz hjl]⟩
                have EG := hide (unhide EC (by rw [← unhide HF, (unhide EF2).1]; exact hz))
                have EG2 : Hid (chA lv (gs) = (j : Int) ∧ chE lv gs = ndF (gs.length : Int) lv ns j) := ⟨by rw [(unhide EG).2.1, (unhide EF2).2], by rw [(unhide EG).2.2, ← unhide HF, (unhide EF2).1]⟩
                clear EF EF2 EC hz HE
                generalize ndF (gs.length : Int) lv ns j = z at *
                go_wp2
                go_ret3
                exact ⟨ret_three (unhide EG).1.symm (unhide EG2).1.symm (unhide EG2).2.symm, unhide K4⟩
            · obtain rfl : j = ns.length := by omega
              have HZ2 := hide (unhide HZ (by rw [← unhide HF, (unhide EF).1, fnz_zero (unhide HJ)]))
              go_wp2
              go_roundw
              case rel => exact ⟨k + 1, by omega, by go_num, unhide HZ2, unhide KJ⟩
              case measure => simp [intOf]; omega
      · obtain rfl : k = gs.length := by omega
        have EZ : Hid (chG lv gs = 0 ∧ chA lv gs = 0 ∧ chE lv gs = 0) := by
          obtain ⟨q1, q2, q3⟩ := unhide EA
          exact ⟨by rw [q1, fixN_zero (unhide HA)]; rfl, by rw [q2, fnz_zero (unhide HA)]; rfl, by rw [q3, fnz_zero (unhide HA)]⟩
        go_wp2
        go_ret3
        exact ⟨ret_three (unhide EZ).1.symm (unhide EZ).2.1.symm (unhide EZ).2.2.symm, unhide KR⟩

end Go.Proofs.Ytliddjpcbhdplaa
