
/- Contracts of the functions on places: where one stands, which one stands there. -/
import Derived.Test.YtnmpbjjppdkomaaStri
import Derived.Test.YtnmpbjjppdkomaaSame
namespace Go.Proofs.Ytnmpbjjppdkomaa
open Go.RowKit

/-- is the k-th number of the place within the shape's? -/
def inB (s a : List Int) (k : Nat) : Bool := decide (0 ≤ a.getD k 0) && decide (a.getD k 0 < s.getD k 0)
theorem insB_eq (s a : List Int) : decide (∀ k, k < s.length → inB s a k = true) = insB s a := rfl

set_option maxHeartbeats 400000 in
theorem rindex_any (v u : Value) (s a : List Int) (w : World) (h : Ints w v s) (h' : Ints w u a) :
    Calls Try.prog 47 #[v, u] w fun e w' => e = .returned (.int .i64 (ixN s a)) ∧ Kp w w' := by
  have hr := h.room
  have hr' := h'.room
  have H := hide h
  have HG' := hide (fun k hk => h'.getD (k := k) hk)
  obtain ⟨p, cap, rfl, hv⟩ := h.val
  obtain ⟨p', cap', rfl, hv'⟩ := h'.val
  have HV := hide hv
  have HV' := hide hv'
  clear h hv h' hv'
  cases hm : mayB s
  · have E := hide (ixN_no (a := a) (.inl hm))
    have HM := hide hm
    clear hm
    go_enter Try.func47, Try.ntmps47
    go_wp2_with fail
    refine (rmay_any _ s w (unhide H)).mono ?_
    rw [unhide HM]
    rintro e w1 ⟨rfl, hk1⟩
    go_wp2
    go_ret
    exact ⟨ret_int (unhide E).symm, hk1⟩
  · have HM := hide hm
    by_cases hl : a.length = s.length
    · have hl1 : ((a.length : Int) != (s.length : Int)) = false := by rw [hl]; simp
      have HL := hide hl
      have hl2 : a.length ≤ s.length := by omega
      have hl3 : s.length ≤ a.length := by omega
      clear hl hm
      go_enter Try.func47, Try.ntmps47
      go_wp2_with fail
      refine (rmay_any _ s w (unhide H)).mono ?_
      rw [unhide HM]
      rintro e w1 ⟨rfl, hk1⟩
      go_wp2
      go_loopw [5, 6] (fun t i wr => ∃ k : Nat, k ≤ s.length ∧ i = .int .i64 k ∧ t = .int .i64 (idx (s.take k) (a.take k)) ∧ Kp w wr ∧ ∀ j, j < k → 0 ≤ a.getD j 0 ∧ a.getD j 0 < s.getD j 0) (fun _ i _ => s.length - (intOf i).toNat)
      case atStart => exact ⟨0, Nat.zero_le _, rfl, by simp [idx], hk1, by omega⟩
      case round =>
        obtain ⟨k, hk, rfl, rfl, hkp, hall⟩ := hrel
        have b1 := idx_bounds (s := s.take k) (a := a.take k) (by simp [unhide HL]) (inside_take hk (unhide HL) hall)
        have b3 := may_prod (unhide HM)
        have hP := (may_good (unhide HM)).2
        have HA := hide hall
        clear hall
        by_cases hlt : k < s.length
        · obtain ⟨b, off, rfl, hb, hc⟩ := unhide HV (by omega)
          obtain ⟨b', off', rfl, hb', hc'⟩ := unhide HV' (by omega)
          have hck := (Below.cell hkp (p := ⟨b, off + k, none⟩) hb).trans (hc k (by omega))
          have hck' := (Below.cell hkp (p := ⟨b', off' + k, none⟩) hb').trans (hc' k (by omega))
          have b2 := hP.getD hlt
          have b4 := prodL_take_le hP k
          have b5 := prodL_take_le hP (k + 1)
          rw [prodL_take hlt] at b5
          have b6 := getD_le_prodL hP hlt
          have b7 := unhide HG' k (by omega)
          have T := hide (idx_take (unhide HL) hlt)
          clear hc hc'
          by_cases hx : 0 ≤ a.getD k 0
          · by_cases hy : a.getD k 0 < s.getD k 0
            · have HB : Hid (∀ j, j < k + 1 → 0 ≤ a.getD j 0 ∧ a.getD j 0 < s.getD j 0) := by
                intro j hj
                by_cases e : j = k
                · subst e; exact ⟨hx, hy⟩
                · exact unhide HA j (by omega)
              generalize a.getD k 0 = x at *
              generalize s.getD k 0 = m at *
              generalize idx (s.take k) (a.take k) = n at *
              have c1 : 0 ≤ n * m := Int.mul_nonneg b1.1 (by omega)
              have c2 : n * m ≤ prodL (s.take k) * m := Int.mul_le_mul_of_nonneg_right (by omega) (by omega)
              have c3 : n * m ≤ 4096 := by omega
              have c4 : n ≤ 4096 := by omega
              have hx' : decide (x < 0) = false := by simp; omega
              have hy' : decide (m ≤ x) = false := by simp; omega
              obtain ⟨c5, _⟩ := b1
              clear b4 b5 c2 b7
              go_wp2
              go_quiet (fail)
              go_wp2
              go_quiet (fail)
              go_wp2
              go_roundw
              case rel => exact ⟨k + 1, by omega, by go_num, by rw [unhide T], hkp.trans (Kp.drewN _ _), unhide HB⟩
              case measure => simp [intOf]; omega
            · have E : Hid (ixN s a = -1) := ixN_no (.inr (.inr (by rw [← Bool.not_eq_true, insB_iff]; intro hi; exact hy (hi k hlt).2)))
              generalize a.getD k 0 = x at *
              generalize s.getD k 0 = m at *
              have hx' : decide (x < 0) = false := by simp; omega
              have hy' : decide (m ≤ x) = true := by simp; omega
              clear b1 b4 b5 T
              go_wp2
              go_quiet (fail)
              go_wp2
              go_ret
              exact ⟨ret_int (unhide E).symm, hkp.trans (Kp.drewN _ _)⟩
          · have E : Hid (ixN s a = -1) := ixN_no (.inr (.inr (by rw [← Bool.not_eq_true, insB_iff]; intro hi; exact hx (hi k hlt).1)))
            generalize a.getD k 0 = x at *
            generalize s.getD k 0 = m at *
            have hx' : decide (x < 0) = true := by simp; omega
            clear b1 b4 b5 T
            go_wp2
            go_quiet (fail)
            go_wp2
            go_ret
            exact ⟨ret_int (unhide E).symm, hkp.trans (Kp.drewN _ _)⟩
        · have F : Hid (idx (s.take k) (a.take k) = ixN s a) := by
            rw [List.take_of_length_le (l := s) (by omega), List.take_of_length_le (l := a) (by omega)]
            exact (ixN_yes (unhide HM) (unhide HL) ((insB_iff s a).2 (fun j hj => unhide HA j (by omega)))).symm
          clear b1
          go_wp2
          go_ret
          exact ⟨ret_int (unhide F), hkp⟩
    · have E := hide (ixN_no (s := s) (a := a) (.inr (.inl hl)))
      have hl1 : ((a.length : Int) != (s.length : Int)) = true := by simpa using fun h => hl (by omega)
      clear hl hm
      go_enter Try.func47, Try.ntmps47
      go_wp2_with fail
      refine (rmay_any _ s w (unhide H)).mono ?_
      rw [unhide HM]
      rintro e w1 ⟨rfl, hk1⟩
      go_wp2
      go_ret
      exact ⟨ret_int (unhide E).symm, hk1⟩

end Go.Proofs.Ytnmpbjjppdkomaa
