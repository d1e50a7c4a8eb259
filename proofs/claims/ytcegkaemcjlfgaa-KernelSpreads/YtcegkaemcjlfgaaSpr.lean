
/- Contracts of the functions that broadcast one shape to another: the program's. -/
import Derived.Test.YtcegkaemcjlfgaaPlce
import Derived.Deep.RegionWith
namespace Go.Proofs.Ytcegkaemcjlfgaa
open Go.RowKit

theorem fe_wf {w : World} {v : Value} {xs : List Int} (h : Ints w v xs) (k : Nat) : I64 (fe xs k) := by
  by_cases hk : k < xs.length
  · rw [fe_in hk]; exact h.getD (by omega)
  · rw [fe_out (by omega)]; unfold I64; omega

set_option maxHeartbeats 400000 in
theorem fromEnd_any (v : Value) (xs : List Int) (k : Nat) (w : World) (h : Ints w v xs) (hk8 : k * 8 ≤ 140737488351232) :
    Calls Try.prog 60 #[v, .int .i64 k] w fun e w' => e = .returned (.int .i64 (fe xs k)) ∧ w' = w := by
  have hr := h.room
  obtain ⟨a, cap, rfl, hv⟩ := h.val
  by_cases hk : k < xs.length
  · obtain ⟨b, off, rfl, hb, hc⟩ := hv (by omega)
    have hck := hc (xs.length - 1 - k) (by omega)
    have E := hide (fe_in hk)
    have hn : (xs.length : Int) - 1 - (k : Int) = ((xs.length - 1 - k : Nat) : Int) := by omega
    have hlt : xs.length - 1 - k < xs.length := by omega
    clear hv hc h
    generalize xs.getD (xs.length - 1 - k) 0 = x at *
    generalize xs.length - 1 - k = j at *
    go_enter Try.func60, Try.ntmps60
    go_wp2
    go_ret
    exact ⟨ret_int (unhide E).symm, rfl⟩
  · have E := hide (fe_out (xs := xs) (k := k) (by omega))
    clear hv h
    go_enter Try.func60, Try.ntmps60
    go_wp2
    go_ret
    exact ⟨ret_int (unhide E).symm, rfl⟩

set_option maxHeartbeats 400000 in
theorem agree_any (v u : Value) (a b : List Int) (k : Nat) (w : World) (h : Ints w v a) (h' : Ints w u b) (hk8 : k * 8 ≤ 140737488351232) :
    Calls Try.prog 50 #[.agg #[v, u], .int .i64 k] w fun e w' => e = .returned (.bool (agB (fe a k) (fe b k))) ∧ Kp w w' := by
  have HA := hide (fun n => fromEnd_any v a k ((w.alloc (.cells #[v, u] 73)).drewN n) (h.keep ((Kp.alloc _ _).trans (Kp.drewN _ _))) hk8)
  have HB := hide (fun n => fromEnd_any u b k ((w.alloc (.cells #[v, u] 73)).drewN n) (h'.keep ((Kp.alloc _ _).trans (Kp.drewN _ _))) hk8)
  clear h h'
  generalize fe a k = x at *
  generalize fe b k = y at *
  cases h1 : x == y
  · cases h2 : x == 1
    · have E : Hid (agB x y = (y == 1)) := by unfold Hid agB; rw [h1, h2]; rfl
      go_enter Try.func50, Try.ntmps50
      go_wp2
      go_quiet (first | (go_at_call_of 60 v; exact Calls.quiet_of_same (unhide HA _)) | (go_at_call_of 60 u; exact Calls.quiet_of_same (unhide HB _)))
      go_wp2
      go_ret
      exact ⟨ret_bool (unhide E).symm, (Kp.alloc _ _).trans (Kp.drewN _ _)⟩
    · have E : Hid (agB x y = true) := by unfold Hid agB; rw [h1, h2]; rfl
      go_enter Try.func50, Try.ntmps50
      go_wp2
      go_quiet (first | (go_at_call_of 60 v; exact Calls.quiet_of_same (unhide HA _)) | (go_at_call_of 60 u; exact Calls.quiet_of_same (unhide HB _)))
      go_wp2
      go_ret
      exact ⟨ret_bool (unhide E).symm, (Kp.alloc _ _).trans (Kp.drewN _ _)⟩
  · have E : Hid (agB x y = true) := by unfold Hid agB; rw [h1]; rfl
    go_enter Try.func50, Try.ntmps50
    go_wp2
    go_quiet (first | (go_at_call_of 60 v; exact Calls.quiet_of_same (unhide HA _)) | (go_at_call_of 60 u; exact Calls.quiet_of_same (unhide HB _)))
    go_wp2
    go_ret
    exact ⟨ret_bool (unhide E).symm, (Kp.alloc _ _).trans (Kp.drewN _ _)⟩

set_option maxHeartbeats 400000 in
theorem joined_any (v u : Value) (a b : List Int) (k : Nat) (w : World) (h : Ints w v a) (h' : Ints w u b) (hk8 : k * 8 ≤ 140737488351232) :
    Calls Try.prog 51 #[.agg #[v, u], .int .i64 k] w fun e w' => e = .returned (.int .i64 (max (fe a k) (fe b k))) ∧ Kp w w' := by
  have HA := hide (fun n => fromEnd_any v a k ((w.alloc (.cells #[v, u] 73)).drewN n) (h.keep ((Kp.alloc _ _).trans (Kp.drewN _ _))) hk8)
  have HB := hide (fun n => fromEnd_any u b k ((w.alloc (.cells #[v, u] 73)).drewN n) (h'.keep ((Kp.alloc _ _).trans (Kp.drewN _ _))) hk8)
  clear h h'
  generalize fe a k = x at *
  generalize fe b k = y at *
  go_enter Try.func51, Try.ntmps51
  go_wp2
  go_quiet (first | (go_at_call_of 60 v; exact Calls.quiet_of_same (unhide HA _)) | (go_at_call_of 60 u; exact Calls.quiet_of_same (unhide HB _)))
  go_wp2
  all_goals
    go_ret
    exact ⟨ret_int (by omega), (Kp.alloc _ _).trans (Kp.drewN _ _)⟩

theorem joinR_succ (a b : List Int) {n k : Nat} (hn : k < n) : (List.replicate (n - k) 0 ++ joinR a b k).set (n - 1 - k) (max (fe a k) (fe b k)) = List.replicate (n - (k + 1)) 0 ++ joinR a b (k + 1) := by
  have e1 : n - k = (n - 1 - k) + 1 := by omega
  have e2 : n - (k + 1) = n - 1 - k := by omega
  rw [e1, e2, fill_down]
  rfl

theorem join_wf {a b : List Int} (ha : ∀ k, I64 (fe a k)) (hb : ∀ k, I64 (fe b k)) : ∀ k, ∀ x ∈ joinR a b k, I64 x
  | 0, x, hx => by simp [joinR] at hx
  | k + 1, x, hx => by
    simp only [joinR, List.mem_cons] at hx
    rcases hx with rfl | hx
    · have h1 := ha k
      have h2 := hb k
      unfold I64 at *
      omega
    · exact join_wf ha hb k x hx

set_option maxHeartbeats 400000 in
theorem spread_any (v u : Value) (a b : List Int) (w : World) (h : Ints w v a) (h' : Ints w u b) :
    Calls Try.prog 32 #[v, u] w fun e w' => ∃ r, e = .returned (.tuple #[r, .int .i64 (sprE a b)]) ∧ Ints w' r (sprL a b) ∧ Fresh w r ∧ Kp w w' := by
  have hr := h.room
  have hr' := h'.room
  have H := hide h
  have H' := hide h'
  obtain ⟨p, cap, rfl, hv⟩ := h.val
  obtain ⟨p', cap', rfl, hv'⟩ := h'.val
  clear h hv h' hv'
  cases hm : mayB a
  · have E := hide (spr_no (a := a) (b := b) (.inl hm))
    have HM := hide hm
    clear hm
    go_enter Try.func32, Try.ntmps32
    go_wp2_with fail
    refine (may_any _ a w (unhide H)).mono ?_
    rw [unhide HM]
    rintro e w1 ⟨rfl, hk1⟩
    go_wp2
    go_ret2
    exact ⟨_, ret_vi (unhide E).1.symm, by rw [(unhide E).2]; exact Ints.nil _, Fresh.nil _ _ _, hk1⟩
  · have HM := hide hm
    clear hm
    cases hm' : mayB b
    · have E := hide (spr_no (a := a) (b := b) (.inr (.inl hm')))
      have HM' := hide hm'
      clear hm'
      go_enter Try.func32, Try.ntmps32
      go_wp2_with fail
      refine (may_any _ a w (unhide H)).mono ?_
      rw [unhide HM]
      rintro e w1 ⟨rfl, hk1⟩
      go_wp2_with fail
      refine (may_any _ b w1 ((unhide H').keep hk1)).mono ?_
      rw [unhide HM']
      rintro e w2 ⟨rfl, hk2⟩
      go_wp2
      go_ret2
      exact ⟨_, ret_vi (unhide E).1.symm, by rw [(unhide E).2]; exact Ints.nil _, Fresh.nil _ _ _, hk1.trans hk2⟩
    · have HM' := hide hm'
      clear hm'
      obtain ⟨n, hn⟩ : ∃ n, n = max a.length b.length := ⟨_, rfl⟩
      have hn8 : n * 8 ≤ 140737488351232 := by omega
      have HN := hide hn
      have hmk := mk_ints n hn8
      rcases (show (a.length < b.length ∧ ((b.length : Int) = (n : Int))) ∨ (b.length ≤ a.length ∧ ((a.length : Int) = (n : Int))) by omega) with ⟨hc, hcn⟩ | ⟨hc, hcn⟩
      all_goals
        have HC := hide hcn
        clear hcn hn
        go_enter Try.func32, Try.ntmps32
        go_wp2_with fail
        refine (may_any _ a w (unhide H)).mono ?_
        rw [unhide HM]
        rintro e w1 ⟨rfl, hk1⟩
        go_wp2_with fail
        refine (may_any _ b w1 ((unhide H').keep hk1)).mono ?_
        rw [unhide HM']
        rintro e w2 ⟨rfl, hk2⟩
        go_wp2_with fail
        rw [unhide HC]
        clear HC hc
        have HK3 := hide ((hk1.trans hk2).trans (Kp.alloc w2 (.cells #[.slice p a.length cap, .slice p' b.length cap'] 73)))
        have HP0 : Hid ((w2.alloc (.cells #[.slice p a.length cap, .slice p' b.length cap'] 73)).cell? ⟨w2.heap.size, 0, none⟩ = some (.slice p a.length cap)) := by unfold Hid; simp [go_sem]
        have HP1 : Hid ((w2.alloc (.cells #[.slice p a.length cap, .slice p' b.length cap'] 73)).cell? ⟨w2.heap.size, 1, none⟩ = some (.slice p' b.length cap')) := by unfold Hid; simp [go_sem]
        have HPl : Hid (w2.heap.size < (w2.alloc (.cells #[.slice p a.length cap, .slice p' b.length cap'] 73)).heap.size) := by unfold Hid; simp
        generalize w2.heap.size = P at *
        generalize w2.alloc (.cells #[.slice p a.length cap, .slice p' b.length cap'] 73) = w3 at *
        refine (everywhere_any 50 (.agg #[.slice p a.length cap, .slice p' b.length cap']) n (fun k => agB (fe a k) (fe b k)) w3 hn8 Try.call50 (fun k wx hk hkp => agree_any _ _ a b k wx ((unhide H).keep ((unhide HK3).trans hkp)) ((unhide H').keep ((unhide HK3).trans hkp)) (by omega))).mono ?_
        have HAG : Hid (decide (∀ k, k < n → agB (fe a k) (fe b k) = true) = agAll a b) := by unfold Hid agAll; rw [unhide HN]
        rw [unhide HAG]
        clear HAG
        rintro e w4 ⟨rfl, hk4⟩
        have HK4 := hide ((unhide HK3).trans hk4)
        have HP0' := hide ((Below.cell hk4 (p := ⟨P, 0, none⟩) (unhide HPl)).trans (unhide HP0))
        have HP1' := hide ((Below.cell hk4 (p := ⟨P, 1, none⟩) (unhide HPl)).trans (unhide HP1))
        have HPl' := hide (Nat.lt_of_lt_of_le (unhide HPl) hk4.size)
        clear HP0 HP1 HPl HK3 hk4 hk1 hk2
        cases hag : agAll a b
        · have E := hide (spr_no (a := a) (b := b) (.inr (.inr hag)))
          clear hag hmk
          go_wp2
          go_ret2
          exact ⟨_, ret_vi (unhide E).1.symm, by rw [(unhide E).2]; exact Ints.nil _, Fresh.nil _ _ _, unhide HK4⟩
        · have HAG := hide hag
          clear hag
          go_wp2
          obtain ⟨B, hB⟩ : ∃ B, B = w4.heap.size := ⟨_, rfl⟩
          have HB0 := hide (Blk.made w4 3 n)
          have HW0 := hide (Kp.alloc w4 (.cells (madeCells #[.int .i64 0] n) 3))
          have HBB := hide hB
          rw [← hB] at HB0 ⊢
          clear hB hmk
          generalize w4.alloc (.cells (madeCells #[.int .i64 0] n) 3) = w5 at *
          have HBw : Hid (w.heap.size ≤ B) := by rw [unhide HBB]; exact (unhide HK4).size
          have HPB : Hid (P ≠ B) := by have h1 := unhide HPl'; have h2 := unhide HBB; unfold Hid; omega
          have HK5 := hide ((unhide HK4).trans (unhide HW0))
          have HP0 := hide ((Below.cell (unhide HW0) (p := ⟨P, 0, none⟩) (unhide HPl')).trans (unhide HP0'))
          have HP1 := hide ((Below.cell (unhide HW0) (p := ⟨P, 1, none⟩) (unhide HPl')).trans (unhide HP1'))
          have HPl := hide (Nat.lt_of_lt_of_le (unhide HPl') (unhide HW0).size)
          clear HW0 HBB HP0' HP1' HPl' HK4
          go_loopw [36] (fun c wr => ∃ k : Nat, k ≤ n ∧ c = .int .i64 k ∧ Blk wr 3 B (List.replicate (n - k) 0 ++ joinR a b k) ∧ Kx B w5 wr) (fun c _ => n - (intOf c).toNat)
          case atStart => exact ⟨0, Nat.zero_le _, rfl, by simpa [joinR] using unhide HB0, Kx.refl _ _⟩
          case round =>
            obtain ⟨k, hk, rfl, hblk, hkx⟩ := hrel
            have HBL := hide hblk
            have HKX := hide hkx
            have HKw := hide (Kx.after (unhide HK5) hkx (unhide HBw))
            clear hblk hkx
            by_cases hlt : k < n
            · have hp0 := ((unhide HKX).cell (p := ⟨P, 0, none⟩) (unhide HPl) (unhide HPB)).trans (unhide HP0)
              have hp1 := ((unhide HKX).cell (p := ⟨P, 1, none⟩) (unhide HPl) (unhide HPB)).trans (unhide HP1)
              have hidx : (n : Int) - 1 - (k : Int) = ((n - 1 - k : Nat) : Int) := by omega
              have hidl : n - 1 - k < n := by omega
              go_wp2_with fail
              refine (joined_any _ _ a b k wr ((unhide H).keep (unhide HKw)) ((unhide H').keep (unhide HKw)) (by omega)).mono ?_
              rintro e w6 ⟨rfl, hk6⟩
              have HBL' := hide ((unhide HBL).keep hk6)
              have HKX' := hide ((unhide HKX).kp hk6)
              have hcell := Blk.cell (unhide HBL') (i := n - 1 - k) (by simp [joinR_length]; omega)
              have hfro := Blk.frozen (unhide HBL') (n - 1 - k)
              have HS := hide (Blk.set (unhide HBL') (n - 1 - k) (max (fe a k) (fe b k)))
              rw [joinR_succ a b hlt] at HS
              clear hp0 hp1 HBL HKX HBL' hk6
              generalize (List.replicate (n - k) 0 ++ joinR a b k).getD (n - 1 - k) 0 = old at *
              generalize max (fe a k) (fe b k) = m at *
              generalize n - 1 - k = j at *
              go_wp2
              go_roundw
              case rel => exact ⟨k + 1, by omega, by go_num, unhide HS, (unhide HKX').set _ _⟩
              case measure => simp [intOf]; omega
            · have hkn : k = n := by omega
              subst hkn
              have HJ : Hid (Blk wr 3 B (joinL a b)) := by
                have := unhide HBL
                unfold Hid joinL
                rw [← unhide HN]
                simpa using this
              have HI := hide ((unhide HJ).ints (n := k) (cap := k) (by rw [joinL_length]; exact (unhide HN).symm) (join_wf (fun j => fe_wf (unhide H) j) (fun j => fe_wf (unhide H') j) _) hn8)
              clear HBL HJ
              go_wp2_with fail
              refine (size_any _ (joinL a b) wr (unhide HI)).mono ?_
              rintro e w6 ⟨rfl, hk6⟩
              cases hj : mayB (joinL a b)
              · have E := hide (szE_not hj)
                have E1 := hide (sprL_big hj)
                have E2 := hide (sprE_yes (unhide HM) (unhide HM') (unhide HAG))
                clear hj
                have E' := unhide E
                clear E
                go_wp2
                go_ret2
                exact ⟨_, ret_vi (unhide E2).symm, by rw [unhide E1]; exact Ints.nil _, Fresh.nil _ _ _, (unhide HKw).trans hk6⟩
              · have E := hide (szE_may hj)
                have E1 := hide (sprL_yes (unhide HM) (unhide HM') (unhide HAG) hj)
                have E2 := hide (sprE_yes (unhide HM) (unhide HM') (unhide HAG))
                clear hj
                rw [unhide E]
                go_wp2
                go_ret2
                exact ⟨_, ret_vi ((unhide E2).trans (unhide E)).symm, by rw [unhide E1]; exact (unhide HI).keep hk6, Fresh.mk (unhide HBw), (unhide HKw).trans hk6⟩
end Go.Proofs.Ytcegkaemcjlfgaa
