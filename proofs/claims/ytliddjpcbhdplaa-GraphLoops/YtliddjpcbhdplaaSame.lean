
/- Contracts of the functions that tell whether two rows of integers are one. -/
import Derived.Test.YtliddjpcbhdplaaProg
import Derived.Test.YtliddjpcbhdplaaPure
import Derived.Test.YtliddjpcbhdplaaBase
import Derived.Deep.QuietTactic
import Derived.BigQuiet
namespace Go.Proofs.Ytliddjpcbhdplaa
open Go.RowKit

def sameB (xs ys : List Int) : Bool := decide (xs = ys)

theorem same_len {xs ys : List Int} (h : xs.length ≠ ys.length) : sameB xs ys = false := by
  unfold sameB; rw [decide_eq_false_iff_not]; intro e; exact h (by rw [e])
theorem same_at {xs ys : List Int} {k : Nat} (h : xs.getD k 0 ≠ ys.getD k 0) : sameB xs ys = false := by
  unfold sameB; rw [decide_eq_false_iff_not]; intro e; exact h (by rw [e])
theorem same_all {xs ys : List Int} (hl : xs.length = ys.length) (h : ∀ j, j < xs.length → xs.getD j 0 = ys.getD j 0) : sameB xs ys = true := by
  unfold sameB
  rw [decide_eq_true_eq]
  apply List.ext_getElem hl
  intro i h1 h2
  have := h i h1
  rw [getD_at h1, getD_at h2] at this
  exact this

set_option maxHeartbeats 400000 in
theorem equal_any (v u : Value) (xs ys : List Int) (w : World) (h : Ints w v xs) (h' : Ints w u ys) :
    Calls Try.prog 80 #[v, u] w fun e w' => e = .returned (.bool (sameB xs ys)) ∧ Kp w w' := by
  have hr := h.room
  have hr' := h'.room
  obtain ⟨a, cap, rfl, hv⟩ := h.val
  obtain ⟨a', cap', rfl, hv'⟩ := h'.val
  have HV := hide hv
  have HV' := hide hv'
  clear h hv h' hv'
  by_cases hl : xs.length = ys.length
  · have hl1 : ((xs.length : Int) != (ys.length : Int)) = false := by rw [hl]; simp
    have HL := hide hl
    have hl2 : xs.length ≤ ys.length := by omega
    have hl3 : ys.length ≤ xs.length := by omega
    clear hl
    go_enter Try.func80, Try.ntmps80
    go_wp2
    go_loopw [13] (fun i wr => ∃ k : Nat, k ≤ xs.length ∧ i = .int .i64 k ∧ Kp w wr ∧ ∀ j, j < k → xs.getD j 0 = ys.getD j 0) (fun i _ => xs.length - (intOf i).toNat)
    case atStart => exact ⟨0, Nat.zero_le _, rfl, Kp.refl _, by omega⟩
    case round =>
      obtain ⟨k, hk, rfl, hkp, hall⟩ := hrel
      have HA := hide hall
      clear hall
      by_cases hlt : k < xs.length
      · obtain ⟨b, off, rfl, hb, hc⟩ := unhide HV (by omega)
        obtain ⟨b', off', rfl, hb', hc'⟩ := unhide HV' (by omega)
        have hck := (Below.cell hkp (p := ⟨b, off + k, none⟩) hb).trans (hc k hlt)
        have hck' := (Below.cell hkp (p := ⟨b', off' + k, none⟩) hb').trans (hc' k (by omega))
        clear hc hc'
        by_cases hx : xs.getD k 0 = ys.getD k 0
        · have HB : Hid (∀ j, j < k + 1 → xs.getD j 0 = ys.getD j 0) := by
            intro j hj
            by_cases e : j = k
            · subst e; exact hx
            · exact unhide HA j (by omega)
          rw [← hx] at hck'
          clear hx
          generalize xs.getD k 0 = x at *
          go_wp2
          go_quiet (fail)
          go_wp2
          go_roundw
          case rel => exact ⟨k + 1, by omega, by go_num, hkp.trans (Kp.drewN _ _), unhide HB⟩
          case measure => simp [intOf]; omega
        · have HB := hide (same_at hx)
          generalize xs.getD k 0 = x at *
          generalize ys.getD k 0 = y at *
          have hne : (x != y) = true := by simpa using hx
          clear hx
          go_wp2
          go_quiet (fail)
          go_wp2
          go_ret
          exact ⟨ret_bool (unhide HB).symm, hkp.trans (Kp.drewN _ _)⟩
      · have HB := hide (same_all (unhide HL) (fun j hj => unhide HA j (by omega)))
        go_wp2
        go_ret
        exact ⟨ret_bool (unhide HB).symm, hkp⟩
  · have HB := hide (same_len hl)
    have hl1 : ((xs.length : Int) != (ys.length : Int)) = true := by simpa using fun h => hl (by omega)
    clear hl
    go_enter Try.func80, Try.ntmps80
    go_wp2
    go_ret
    exact ⟨ret_bool (unhide HB).symm, Kp.refl _⟩

set_option maxHeartbeats 400000 in
theorem same_any (v u : Value) (xs ys : List Int) (w : World) (h : Ints w v xs) (h' : Ints w u ys) :
    Calls Try.prog 78 #[v, u] w fun e w' => e = .returned (.bool (sameB xs ys)) ∧ Kp w w' := by
  have H := hide h
  have H' := hide h'
  clear h h'
  go_enter Try.func78, Try.ntmps78
  go_wp2_with fail
  refine (equal_any _ _ xs ys w (unhide H) (unhide H')).mono ?_
  rintro e w1 ⟨rfl, hk1⟩
  go_wp2
  go_ret
  exact ⟨rfl, hk1⟩

end Go.Proofs.Ytliddjpcbhdplaa
