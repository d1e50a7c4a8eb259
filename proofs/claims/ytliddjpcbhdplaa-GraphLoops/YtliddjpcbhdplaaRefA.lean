
/- Contracts of the document's own functions on sizes, and of those that tell whether two rows are one. -/
import Derived.Test.YtliddjpcbhdplaaProg
import Derived.Test.YtliddjpcbhdplaaPure
import Derived.Test.YtliddjpcbhdplaaBase
import Derived.Deep.QuietTactic
import Derived.BigQuiet
namespace Go.Proofs.Ytliddjpcbhdplaa
open Go.RowKit

set_option maxHeartbeats 400000 in
theorem rsize_any (v : Value) (xs : List Int) (w : World) (h : Ints w v xs) :
    Calls Try.prog 50 #[v] w fun e w' => e = .returned (.tuple #[.int .i64 (szN xs), .int .i64 (szE xs)]) ∧ Kp w w' := by
  have hr := h.room
  have HG := hide (fun k hk => h.getD (k := k) hk)
  obtain ⟨a, cap, rfl, hv⟩ := h.val
  have HV := hide hv
  clear h hv
  by_cases h4 : xs.length ≤ 4
  · have h4' : ¬ (4 < (xs.length : Int)) := by omega
    go_enter Try.func50, Try.ntmps50
    go_wp2
    go_loop [4] (fun i => ∃ k : Nat, k ≤ xs.length ∧ i = .int .i64 k ∧ ∀ j, j < k → decide (1 ≤ xs.getD j 0) = true) (fun i => xs.length - (intOf i).toNat)
    case atStart => exact ⟨0, Nat.zero_le _, rfl, by omega⟩
    case round =>
      obtain ⟨k, hk, rfl, hall⟩ := hrel
      have HA := hide hall
      clear hall
      by_cases hlt : k < xs.length
      · obtain ⟨b, off, rfl, hb, hc⟩ := unhide HV (by omega)
        have hck := hc k hlt
        have hx2 := unhide HG k hlt
        clear hc
        by_cases hx : xs.getD k 0 < 1
        · have HB : Hid (goodB xs = false) := by
            unfold Hid goodB
            rw [Bool.and_eq_false_iff]
            right
            rw [decide_eq_false_iff_not]
            intro h
            have := h k hlt
            simp only [decide_eq_true_eq] at this
            omega
          generalize xs.getD k 0 = x at *
          go_wp2
          go_ret2
          exact ⟨ret_two (szN_bad (unhide HB)).symm (szE_bad (unhide HB)).symm, Kp.refl _⟩
        · have HB : Hid (∀ j, j < k + 1 → decide (1 ≤ xs.getD j 0) = true) := by
            intro j hj
            by_cases e : j = k
            · subst e; simp only [decide_eq_true_eq]; omega
            · exact unhide HA j (by omega)
          generalize xs.getD k 0 = x at *
          go_wp2
          go_round
          case rel => exact ⟨k + 1, by omega, by go_num, unhide HB⟩
          case measure => simp [intOf]; omega
      · have HB : Hid (goodB xs = true) := by
          unfold Hid goodB
          simp only [Bool.and_eq_true, decide_eq_true_eq]
          exact ⟨h4, fun j hj => by simpa using unhide HA j (by omega)⟩
        have HP := hide ((goodB_iff xs).1 (unhide HB)).2
        clear HA
        go_wp2
        go_loopw [5, 6] (fun p i wr => ∃ k : Nat, k ≤ xs.length ∧ i = .int .i64 k ∧ p = .int .i64 (prodL (xs.take k)) ∧ prodL (xs.take k) ≤ 4096 ∧ Kp w wr) (fun _ i _ => xs.length - (intOf i).toNat)
        case atStart => exact ⟨0, Nat.zero_le _, rfl, rfl, by simp [prodL], Kp.refl _⟩
        case round =>
          obtain ⟨k2, hk2, rfl, rfl, hle, hkp⟩ := hrel
          have h1 := prodL_pos ((unhide HP).take k2)
          by_cases hlt2 : k2 < xs.length
          · obtain ⟨b, off, rfl, hb, hc⟩ := unhide HV (by omega)
            have hck := (Below.cell hkp (p := ⟨b, off + k2, none⟩) hb).trans (hc k2 hlt2)
            clear hc
            have hx := (unhide HP).getD hlt2
            have hx2 := unhide HG k2 hlt2
            have E := hide (prodL_take hlt2)
            have N1 := hide (prod_over (k := k2) (unhide HP) hlt2)
            have N2 := hide (prod_under (k := k2) (unhide HP))
            generalize prodL (xs.take k2) = p at *
            generalize xs.getD k2 0 = x at *
            by_cases hov : 4096 / p < x
            · have HN := hide (unhide N1 hov)
              clear N1 N2 E
              go_wp2
              go_quiet (fail)
              go_wp2
              go_ret2
              refine ⟨ret_two ?_ ?_, hkp.trans (Kp.drewN _ _)⟩
              · rw [szN_good (unhide HB)]; exact (prN_no (unhide HN)).symm
              · rw [szE_good (unhide HB)]; exact (prE_no (unhide HN)).symm
            · have hno := unhide N2 hov
              clear N1 N2
              have h2 := mul_one_le h1 hx
              go_wp2
              go_quiet (fail)
              go_wp2
              go_roundw
              case rel => exact ⟨k2 + 1, by omega, by go_num, by rw [unhide E], by rw [unhide E]; exact hno, hkp.trans (Kp.drewN _ _)⟩
              case measure => simp [intOf]; omega
          · have E : Hid (xs.take k2 = xs) := List.take_of_length_le (by omega)
            go_wp2
            go_ret2
            rw [unhide E] at hle ⊢
            refine ⟨ret_two ?_ ?_, hkp⟩
            · rw [szN_good (unhide HB)]; exact (prN_yes hle).symm
            · rw [szE_good (unhide HB)]; exact (prE_yes hle).symm
  · have h4' : (4 < (xs.length : Int)) := by omega
    go_enter Try.func50, Try.ntmps50
    go_wp2
    go_ret2
    have hg : goodB xs = false := by unfold goodB; simp; omega
    exact ⟨ret_two (szN_bad hg).symm (szE_bad hg).symm, Kp.refl _⟩

set_option maxHeartbeats 400000 in
theorem rmay_any (v : Value) (xs : List Int) (w : World) (h : Ints w v xs) :
    Calls Try.prog 34 #[v] w fun e w' => e = .returned (.bool (mayB xs)) ∧ Kp w w' := by
  have H := hide h
  clear h
  go_enter Try.func34, Try.ntmps34
  go_wp2_with fail
  refine (rsize_any _ xs w (unhide H)).mono ?_
  rintro e w1 ⟨rfl, hk1⟩
  go_wp2
  go_ret
  exact ⟨ret_bool (szE_zero xs), hk1⟩

end Go.Proofs.Ytliddjpcbhdplaa
