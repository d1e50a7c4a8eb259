
/- Contracts of the functions that tell sizes, and whether two rows are one: the program's and the document's. -/
import Derived.Test.YtliddjpcbhdplaaProg
import Derived.Test.YtliddjpcbhdplaaPure
import Derived.Test.YtliddjpcbhdplaaBase
import Derived.Deep.QuietTactic
import Derived.BigQuiet
namespace Go.Proofs.Ytliddjpcbhdplaa
open Go.RowKit

set_option maxHeartbeats 400000 in
theorem positive_any (v : Value) (xs : List Int) (k : Nat) (w : World) (h : Ints w v xs) (hk : k < xs.length) :
    Calls Try.prog 62 #[v, .int .i64 k] w fun e w' => e = .returned (.bool (decide (1 ≤ xs.getD k 0))) ∧ Kp w w' := by
  have hr := h.room
  obtain ⟨a, cap, rfl, hv⟩ := h.val
  obtain ⟨b, off, rfl, hb, hc⟩ := hv (by omega)
  have hck := hc k hk
  clear hv hc h
  go_enter Try.func62, Try.ntmps62
  go_wp2
  go_ret
  exact ⟨by simp [hk], Kp.refl _⟩

set_option maxHeartbeats 400000 in
theorem everywhere_any (g : Nat) (r : Value) (n : Nat) (rule : Nat → Bool) (w : World) (hn : n * 8 ≤ 140737488351232)
    (hcall : ∀ args w, Sem.run Try.prog (callFunc g args) w = .ok (.enter g args) w)
    (hf : Hid (∀ k w1, k < n → Kp w w1 → Calls Try.prog g #[r, .int .i64 k] w1 fun e w2 => e = .returned (.bool (rule k)) ∧ Kp w1 w2)) :
    Calls Try.prog 61 #[.int .i64 n, .func (.func g) #[r] #[]] w fun e w' => e = .returned (.bool (decide (∀ k, k < n → rule k = true))) ∧ Kp w w' := by
  go_enter Try.func61, Try.ntmps61
  go_wp2
  go_loopw [7] (fun i wr => ∃ k : Nat, k ≤ n ∧ i = .int .i64 k ∧ Kp w wr ∧ ∀ j, j < k → rule j = true) (fun i _ => n - (intOf i).toNat)
  case atStart => exact ⟨0, Nat.zero_le _, rfl, Kp.refl _, by omega⟩
  case round =>
    obtain ⟨k, hk, rfl, hkp, hall⟩ := hrel
    have HA : Hid (∀ j, j < k → rule j = true) := hall
    clear hall
    by_cases hlt : k < n
    · go_wp2_with fail
      refine (hf.out k _ hlt hkp).mono ?_
      rintro e w2 ⟨rfl, hk2⟩
      cases hr : rule k
      · go_wp2
        go_ret
        refine ⟨?_, hkp.trans hk2⟩
        exact ret_bool (by rw [eq_comm, decide_eq_false_iff_not]; intro h; have := h k hlt; simp [hr] at this)
      · go_wp2
        go_roundw
        case rel => exact ⟨k + 1, by omega, by go_num, hkp.trans hk2, fun j hj => if h : j = k then h ▸ hr else HA.out j (by omega)⟩
        case measure => simp [intOf]; omega
    · go_wp2
      go_ret
      refine ⟨?_, hkp⟩
      exact ret_bool (by rw [eq_comm, decide_eq_true_iff]; intro j hj; exact HA.out j (by omega))

set_option maxHeartbeats 400000 in
theorem product_any (v : Value) (xs : List Int) (w : World) (h : Ints w v xs) (hp : Hid (Pos xs)) :
    Calls Try.prog 63 #[v] w fun e w' => e = .returned (.tuple #[.int .i64 (prN xs), .int .i64 (prE xs)]) ∧ Kp w w' := by
  have hr := h.room
  have hg := fun k hk => h.getD (k := k) hk
  obtain ⟨a, cap, rfl, hv⟩ := h.val
  clear h
  have HV := hide hv
  have HG := hide hg
  clear hv hg
  go_enter Try.func63, Try.ntmps63
  go_wp2
  go_loop [4, 9] (fun p i => ∃ k : Nat, k ≤ xs.length ∧ i = .int .i64 k ∧ p = .int .i64 (prodL (xs.take k)) ∧ prodL (xs.take k) ≤ 4096) (fun _ i => xs.length - (intOf i).toNat)
  case atStart => exact ⟨0, Nat.zero_le _, rfl, rfl, by simp [prodL]⟩
  case round =>
    obtain ⟨k, hk, rfl, rfl, hle⟩ := hrel
    have h1 := prodL_pos (hp.out.take k)
    by_cases hlt : k < xs.length
    · obtain ⟨b, off, rfl, hb, hc⟩ := unhide HV (by omega)
      have hck := hc k hlt
      clear hc
      have hx := hp.out.getD hlt
      have hx2 := unhide HG k hlt
      have E := hide (prodL_take hlt)
      have N1 := hide (prod_over (k := k) hp.out hlt)
      have N2 := hide (prod_under (k := k) hp.out)
      generalize prodL (xs.take k) = p at *
      generalize xs.getD k 0 = x at *
      by_cases hov : 4096 / p < x
      · have hno := unhide N1 hov
        clear N1 N2 E
        have HN := hide hno
        clear hno
        go_wp2
        go_ret2
        exact ⟨ret_two (prN_no (unhide HN)).symm (prE_no (unhide HN)).symm, Kp.refl _⟩
      · have hno := unhide N2 hov
        clear N1 N2
        have h2 := mul_one_le h1 hx
        go_wp2
        go_round
        case rel => exact ⟨k + 1, by omega, by go_num, by rw [unhide E], by rw [unhide E]; exact hno⟩
        case measure => simp [intOf]; omega
    · have E : Hid (xs.take k = xs) := List.take_of_length_le (by omega)
      go_wp2
      go_ret2
      rw [unhide E] at hle ⊢
      exact ⟨ret_two (prN_yes hle).symm (prE_yes hle).symm, Kp.refl _⟩
set_option maxHeartbeats 400000 in
theorem size_any (v : Value) (xs : List Int) (w : World) (h : Ints w v xs) :
    Calls Try.prog 56 #[v] w fun e w' => e = .returned (.tuple #[.int .i64 (szN xs), .int .i64 (szE xs)]) ∧ Kp w w' := by
  have hr := h.room
  have H := hide h
  obtain ⟨a, cap, rfl, _⟩ := h.val
  clear h
  by_cases h4 : xs.length ≤ 4
  · have HE := hide (everywhere_any 62 (.slice a xs.length cap) xs.length (fun k => decide (1 ≤ xs.getD k 0)) w hr Try.call62 (fun k w1 hk hkp => positive_any _ xs k w1 ((unhide H).keep hkp) hk))
    have h4' : ¬ (4 < (xs.length : Int)) := by omega
    go_enter Try.func56, Try.ntmps56
    go_wp2_with fail
    refine (unhide HE).mono ?_
    rintro e w1 ⟨rfl, hk1⟩
    cases hp : decide (∀ k, k < xs.length → decide (1 ≤ xs.getD k 0) = true)
    · have HG : Hid (goodB xs = false) := by unfold Hid goodB; rw [hp]; simp
      clear hp
      go_wp2
      go_ret2
      exact ⟨ret_two (szN_bad (unhide HG)).symm (szE_bad (unhide HG)).symm, hk1⟩
    · have HG : Hid (goodB xs = true) := by unfold Hid goodB; rw [hp]; simp [h4]
      clear hp
      go_wp2_with fail
      refine (product_any _ xs w1 ((unhide H).keep hk1) (hide ((goodB_iff xs).1 (unhide HG)).2)).mono ?_
      rintro e w2 ⟨rfl, hk2⟩
      rw [← szN_good (unhide HG), ← szE_good (unhide HG)]
      go_wp2
      go_ret2
      exact ⟨rfl, hk1.trans hk2⟩
  · have h4' : (4 < (xs.length : Int)) := by omega
    go_enter Try.func56, Try.ntmps56
    go_wp2
    go_ret2
    have hg : goodB xs = false := by unfold goodB; simp; omega
    exact ⟨ret_two (szN_bad hg).symm (szE_bad hg).symm, Kp.refl _⟩

set_option maxHeartbeats 400000 in
theorem may_any (v : Value) (xs : List Int) (w : World) (h : Ints w v xs) :
    Calls Try.prog 47 #[v] w fun e w' => e = .returned (.bool (mayB xs)) ∧ Kp w w' := by
  have H := hide h
  clear h
  go_enter Try.func47, Try.ntmps47
  go_wp2_with fail
  refine (size_any _ xs w (unhide H)).mono ?_
  rintro e w1 ⟨rfl, hk1⟩
  go_wp2
  go_ret
  exact ⟨ret_bool (szE_zero xs), hk1⟩

end Go.Proofs.Ytliddjpcbhdplaa
