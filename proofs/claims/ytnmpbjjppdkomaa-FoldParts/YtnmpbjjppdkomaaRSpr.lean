
/- Contracts of the functions that broadcast one shape to another: the document's; and of those that tell whether one is broadcast into the other. -/
import Derived.Test.YtnmpbjjppdkomaaSpr
namespace Go.Proofs.Ytnmpbjjppdkomaa
open Go.RowKit

set_option maxHeartbeats 1000000 in
theorem rspread_any (v u : Value) (a b : List Int) (w : World) (h : Ints w v a) (h' : Ints w u b) :
    Calls Try.prog 32 #[v, u] w fun e w' => ∃ r, e = .returned (.tuple #[r, .int .i64 (sprE a b)]) ∧ Ints w' r (sprL a b) ∧ Fresh w r ∧ Kp w w' := by
  have hr := h.room
  have hr' := h'.room
  have H := hide h
  have H' := hide h'
  obtain ⟨p, cap, rfl, hv⟩ := h.val
  obtain ⟨p', cap', rfl, hv'⟩ := h'.val
  have HV := hide hv
  have HV' := hide hv'
  clear h hv h' hv'
  cases hm : mayB a
  · have E := hide (spr_no (a := a) (b := b) (.inl hm))
    have HM := hide hm
    clear hm
    go_enter Try.func32, Try.ntmps32
    go_wp2_with fail
    refine (rmay_any _ a w (unhide H)).mono ?_
    rw [unhide HM]
    rintro e w1 ⟨rfl, hk1⟩
    go_wp2
    go_ret2
    exact ⟨_, ret_vi (unhide E).1.symm, by rw [(unhide E).2]; exact Ints.nil _, Fresh.nil _ _ _, hk1⟩
  · have HM := hide hm
    clear hm
    cases hm' : mayB b
    · have E := hide (spr_no (a := a) (b := b) (.inr (.inl hm')))
      have HM' := hide hm'
      clear hm'
      go_enter Try.func32, Try.ntmps32
      go_wp2_with fail
      refine (rmay_any _ a w (unhide H)).mono ?_
      rw [unhide HM]
      rintro e w1 ⟨rfl, hk1⟩
      go_wp2_with fail
      refine (rmay_any _ b w1 ((unhide H').keep hk1)).mono ?_
      rw [unhide HM']
      rintro e w2 ⟨rfl, hk2⟩
      go_wp2
      go_ret2
      exact ⟨_, ret_vi (unhide E).1.symm, by rw [(unhide E).2]; exact Ints.nil _, Fresh.nil _ _ _, hk1.trans hk2⟩
    · have HM' := hide hm'
      clear hm'
      obtain ⟨n, hn⟩ : ∃ n, n = max a.length b.length := ⟨_, rfl⟩
      have hn8 : n * 8 ≤ 140737488351232 := by omega
      have HN := hide hn
      have hmk := mk_ints n hn8
      have HPa := hide (fun k => fe_pos (may_good (unhide HM)).2 k)
      have HPb := hide (fun k => fe_pos (may_good (unhide HM')).2 k)
      rcases (show (a.length < b.length ∧ ((b.length : Int) = (n : Int))) ∨ (b.length ≤ a.length ∧ ((a.length : Int) = (n : Int))) by omega) with ⟨hc, hcn⟩ | ⟨hc, hcn⟩
      all_goals
        have HC := hide hcn
        clear hcn hn
        go_enter Try.func32, Try.ntmps32
        go_wp2_with fail
        refine (rmay_any _ a w (unhide H)).mono ?_
        rw [unhide HM]
        rintro e w1 ⟨rfl, hk1⟩
        go_wp2_with fail
        refine (rmay_any _ b w1 ((unhide H').keep hk1)).mono ?_
        rw [unhide HM']
        rintro e w4 ⟨rfl, hk2⟩
        have HK4 := hide (hk1.trans hk2)
        have hcc := unhide HC
        have hmk' := hmk
        rw [← hcc] at hmk'
        clear hk1 hk2 hcc hmk
        go_wp2
        rw [unhide HC]
        clear HC hc
        obtain ⟨B, hB⟩ : ∃ B, B = w4.heap.size := ⟨_, rfl⟩
        have HB0 := hide (Blk.made w4 3 n)
        have HW0 := hide (Kp.alloc w4 (.cells (madeCells #[.int .i64 0] n) 3))
        have HBB := hide hB
        rw [← hB] at HB0 ⊢
        clear hB hmk'
        generalize w4.alloc (.cells (madeCells #[.int .i64 0] n) 3) = w5 at *
        have HBw : Hid (w.heap.size ≤ B) := by rw [unhide HBB]; exact (unhide HK4).size
        have HK5 := hide ((unhide HK4).trans (unhide HW0))
        clear HW0 HBB HK4
        go_loopw [8] (fun c wr => ∃ k : Nat, k ≤ n ∧ c = .int .i64 ((k : Int) + 1) ∧ Blk wr 3 B (List.replicate (n - k) 0 ++ joinR a b k) ∧ Kx B w5 wr ∧ ∀ j, j < k → agB (fe a j) (fe b j) = true) (fun c _ => n + 1 - (intOf c).toNat)
        case atStart => exact ⟨0, Nat.zero_le _, rfl, by simpa [joinR] using unhide HB0, Kx.refl _ _, by omega⟩
        case round =>
          obtain ⟨k, hk, rfl, hblk, hkx, hall⟩ := hrel
          have HBL := hide hblk
          have HKX := hide hkx
          have HA := hide hall
          have HKw := hide (Kx.after (unhide HK5) hkx (unhide HBw))
          clear hblk hkx hall
          by_cases hlt : k < n
          · have hidx : (n : Int) - ((k : Int) + 1) = ((n - 1 - k : Nat) : Int) := by omega
            have hidl : n - 1 - k < n := by omega
            have hcell := Blk.cell (unhide HBL) (i := n - 1 - k) (by simp [joinR_length]; omega)
            have hfro := Blk.frozen (unhide HBL) (n - 1 - k)
            have HS : Hid (∀ m, max (fe a k) (fe b k) = m → Blk (wr.setCell ⟨B, n - 1 - k, none⟩ (.int .i64 m)) 3 B (List.replicate (n - (k + 1)) 0 ++ joinR a b (k + 1))) := by
              intro m hm
              have := Blk.set (unhide HBL) (n - 1 - k) (max (fe a k) (fe b k))
              rw [joinR_succ a b hlt, hm] at this
              exact this
            have hpa := unhide HPa k
            have hpb := unhide HPb k
            have HPA := hide hpa
            have HPB := hide hpb
            clear HBL hpa hpb
            generalize (List.replicate (n - k) 0 ++ joinR a b k).getD (n - 1 - k) 0 = old at *
            generalize n - 1 - k = j0 at *
            by_cases ha : k < a.length <;> by_cases hb : k < b.length
            · obtain ⟨ba, oa, rfl, hba, hca⟩ := unhide HV (by omega)
              have hcka := ((unhide HKX).cell (p := ⟨ba, oa + (a.length - 1 - k), none⟩) (Nat.lt_of_lt_of_le hba (unhide HK5).size) (by have := unhide HBw; show ba ≠ B; omega)).trans ((Below.cell (unhide HK5) (p := ⟨ba, oa + (a.length - 1 - k), none⟩) hba).trans (hca _ (by omega)))
              have hia : (a.length : Int) - ((k : Int) + 1) = ((a.length - 1 - k : Nat) : Int) := by omega
              have hja : a.length - 1 - k < a.length := by omega
              have HX := hide (fe_in ha)
              have hwx := (unhide H).getD hja
              clear hca
              generalize a.getD (a.length - 1 - k) 0 = x at *
              generalize a.length - 1 - k = ja at *
              obtain ⟨bb, ob, rfl, hbb, hcb⟩ := unhide HV' (by omega)
              have hckb := ((unhide HKX).cell (p := ⟨bb, ob + (b.length - 1 - k), none⟩) (Nat.lt_of_lt_of_le hbb (unhide HK5).size) (by have := unhide HBw; show bb ≠ B; omega)).trans ((Below.cell (unhide HK5) (p := ⟨bb, ob + (b.length - 1 - k), none⟩) hbb).trans (hcb _ (by omega)))
              have hib : (b.length : Int) - ((k : Int) + 1) = ((b.length - 1 - k : Nat) : Int) := by omega
              have hjb : b.length - 1 - k < b.length := by omega
              have HY := hide (fe_in hb)
              have hwy := (unhide H').getD hjb
              clear hcb
              generalize b.getD (b.length - 1 - k) 0 = y at *
              generalize b.length - 1 - k = jb at *
              cases h1 : x != y
              · have h1' : x = y := by simpa using h1
                have HG : Hid (∀ j, j < k + 1 → agB (fe a j) (fe b j) = true) := by
                  intro j hj
                  by_cases e : j = k
                  · subst e; rw [unhide HX, unhide HY]; simp [agB, h1']
                  · exact unhide HA j (by omega)
                clear h1'
                go_wp2
                all_goals
                  go_roundw
                  case rel => exact ⟨k + 1, by omega, by go_num, unhide HS _ (by have h1 := unhide HX; have h2 := unhide HY; omega), (unhide HKX).set _ _, unhide HG⟩
                  case measure => simp [intOf]; omega
              · cases h2 : x != 1
                · have h2' : x = 1 := by simpa using h2
                  have HG : Hid (∀ j, j < k + 1 → agB (fe a j) (fe b j) = true) := by
                    intro j hj
                    by_cases e : j = k
                    · subst e; rw [unhide HX, unhide HY]; simp [agB, h2']
                    · exact unhide HA j (by omega)
                  clear h2'
                  go_wp2
                  all_goals
                    go_roundw
                    case rel => exact ⟨k + 1, by omega, by go_num, unhide HS _ (by have h1 := unhide HX; have h2 := unhide HY; omega), (unhide HKX).set _ _, unhide HG⟩
                    case measure => simp [intOf]; omega
                · cases h3 : y != 1
                  · have h3' : y = 1 := by simpa using h3
                    have HG : Hid (∀ j, j < k + 1 → agB (fe a j) (fe b j) = true) := by
                      intro j hj
                      by_cases e : j = k
                      · subst e; rw [unhide HX, unhide HY]; simp [agB, h3']
                      · exact unhide HA j (by omega)
                    clear h3'
                    go_wp2
                    all_goals
                      go_roundw
                      case rel => exact ⟨k + 1, by omega, by go_num, unhide HS _ (by have h1 := unhide HX; have h2 := unhide HY; omega), (unhide HKX).set _ _, unhide HG⟩
                      case measure => simp [intOf]; omega
                  · have E : Hid (sprE a b = 2 ∧ sprL a b = []) := by
                      refine spr_no (.inr (.inr ?_))
                      unfold agAll
                      rw [decide_eq_false_iff_not]
                      intro hal
                      have := hal k (by have := unhide HN; omega)
                      rw [unhide HX, unhide HY] at this
                      simp [agB] at this h1 h2 h3
                      omega
                    go_wp2
                    go_ret2
                    exact ⟨_, ret_vi (unhide E).1.symm, by rw [(unhide E).2]; exact Ints.nil _, Fresh.nil _ _ _, unhide HKw⟩
            · obtain ⟨ba, oa, rfl, hba, hca⟩ := unhide HV (by omega)
              have hcka := ((unhide HKX).cell (p := ⟨ba, oa + (a.length - 1 - k), none⟩) (Nat.lt_of_lt_of_le hba (unhide HK5).size) (by have := unhide HBw; show ba ≠ B; omega)).trans ((Below.cell (unhide HK5) (p := ⟨ba, oa + (a.length - 1 - k), none⟩) hba).trans (hca _ (by omega)))
              have hia : (a.length : Int) - ((k : Int) + 1) = ((a.length - 1 - k : Nat) : Int) := by omega
              have hja : a.length - 1 - k < a.length := by omega
              have HX := hide (fe_in ha)
              have hwx := (unhide H).getD hja
              clear hca
              generalize a.getD (a.length - 1 - k) 0 = x at *
              generalize a.length - 1 - k = ja at *
              have HY := hide (fe_out (xs := b) (k := k) (by omega))
              have HG : Hid (∀ j, j < k + 1 → agB (fe a j) (fe b j) = true) := by
                intro j hj
                by_cases e : j = k
                · subst e; rw [unhide HX, unhide HY]; simp [agB]
                · exact unhide HA j (by omega)
              cases h1 : x != 1
              · go_wp2
                all_goals
                  go_roundw
                  case rel => exact ⟨k + 1, by omega, by go_num, unhide HS _ (by have h1 := unhide HX; have h2 := unhide HY; omega), (unhide HKX).set _ _, unhide HG⟩
                  case measure => simp [intOf]; omega
              · go_wp2
                all_goals
                  go_roundw
                  case rel => exact ⟨k + 1, by omega, by go_num, unhide HS _ (by have h1 := unhide HX; have h2 := unhide HY; omega), (unhide HKX).set _ _, unhide HG⟩
                  case measure => simp [intOf]; omega
            · have HX := hide (fe_out (xs := a) (k := k) (by omega))
              obtain ⟨bb, ob, rfl, hbb, hcb⟩ := unhide HV' (by omega)
              have hckb := ((unhide HKX).cell (p := ⟨bb, ob + (b.length - 1 - k), none⟩) (Nat.lt_of_lt_of_le hbb (unhide HK5).size) (by have := unhide HBw; show bb ≠ B; omega)).trans ((Below.cell (unhide HK5) (p := ⟨bb, ob + (b.length - 1 - k), none⟩) hbb).trans (hcb _ (by omega)))
              have hib : (b.length : Int) - ((k : Int) + 1) = ((b.length - 1 - k : Nat) : Int) := by omega
              have hjb : b.length - 1 - k < b.length := by omega
              have HY := hide (fe_in hb)
              have hwy := (unhide H').getD hjb
              clear hcb
              generalize b.getD (b.length - 1 - k) 0 = y at *
              generalize b.length - 1 - k = jb at *
              have HG : Hid (∀ j, j < k + 1 → agB (fe a j) (fe b j) = true) := by
                intro j hj
                by_cases e : j = k
                · subst e; rw [unhide HX, unhide HY]; simp [agB]
                · exact unhide HA j (by omega)
              cases h1 : (1 : Int) != y
              · go_wp2
                all_goals
                  go_roundw
                  case rel => exact ⟨k + 1, by omega, by go_num, unhide HS _ (by have h1 := unhide HX; have h2 := unhide HY; omega), (unhide HKX).set _ _, unhide HG⟩
                  case measure => simp [intOf]; omega
              · go_wp2
                all_goals
                  go_roundw
                  case rel => exact ⟨k + 1, by omega, by go_num, unhide HS _ (by have h1 := unhide HX; have h2 := unhide HY; omega), (unhide HKX).set _ _, unhide HG⟩
                  case measure => simp [intOf]; omega
            · exfalso; have := unhide HN; omega
          · have hkn : k = n := by omega
            subst hkn
            have HJ : Hid (Blk wr 3 B (joinL a b)) := by
              have := unhide HBL
              unfold Hid joinL
              rw [← unhide HN]
              simpa using this
            have HAG : Hid (agAll a b = true) := by
              unfold Hid agAll
              rw [decide_eq_true_eq]
              intro j hj
              exact unhide HA j (by have := unhide HN; omega)
            have HI := hide ((unhide HJ).ints (n := k) (cap := k) (by rw [joinL_length]; exact (unhide HN).symm) (join_wf (fun j => fe_wf (unhide H) j) (fun j => fe_wf (unhide H') j) _) hn8)
            clear HBL HJ
            go_wp2_with fail
            refine (rsize_any _ (joinL a b) wr (unhide HI)).mono ?_
            rintro e w6 ⟨rfl, hk6⟩
            cases hj : mayB (joinL a b)
            · have E := hide (szE_not hj)
              have E1 := hide (sprL_big hj)
              have E2 := hide (sprE_yes (unhide HM) (unhide HM') (unhide HAG))
              clear hj
              have E' := unhide E
              clear E
              go_wp2
              go_ret2
              exact ⟨_, ret_vi (unhide E2).symm, by rw [unhide E1]; exact Ints.nil _, Fresh.nil _ _ _, (unhide HKw).trans hk6⟩
            · have E := hide (szE_may hj)
              have E1 := hide (sprL_yes (unhide HM) (unhide HM') (unhide HAG) hj)
              have E2 := hide (sprE_yes (unhide HM) (unhide HM') (unhide HAG))
              clear hj
              rw [unhide E]
              go_wp2
              go_ret2
              exact ⟨_, ret_vi ((unhide E2).trans (unhide E)).symm, by rw [unhide E1]; exact (unhide HI).keep hk6, Fresh.mk (unhide HBw), (unhide HKw).trans hk6⟩

end Go.Proofs.Ytnmpbjjppdkomaa
