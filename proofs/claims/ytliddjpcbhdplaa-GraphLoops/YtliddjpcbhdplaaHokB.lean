
/- The contract of the document's HookMay. -/
import Derived.Test.YtliddjpcbhdplaaHokA
namespace Go.Proofs.Ytliddjpcbhdplaa
open Go.RowKit

/-- laid into a box while hooks are asked -/
theorem wr_parts {k : Int} {x : Nat} (b : Bool) (h : wrB ⟨k, x⟩ = b) : (k < 1 ∧ b = true) ∨ (4 < k ∧ b = true) ∨ (k = 1 ∧ b = false) ∨ (k = 2 ∧ b = !geB x) ∨ ((k = 3 ∨ k = 4) ∧ b = (DD.order x 0 != some .eq)) := by
  by_cases h1 : k = 1
  · subst h1
    rw [wrB_1 rfl] at h
    exact .inr (.inr (.inl ⟨rfl, h.symm⟩))
  by_cases h2 : k = 2
  · subst h2
    rw [wrB_2 rfl] at h
    exact .inr (.inr (.inr (.inl ⟨rfl, h.symm⟩)))
  by_cases h3 : k = 3 ∨ k = 4
  · rw [wrB_34 h3] at h
    exact .inr (.inr (.inr (.inr ⟨h3, h.symm⟩)))
  rw [wrB_other (h := ⟨k, x⟩) (by show ¬ (k = 1 ∨ k = 2 ∨ k = 3 ∨ k = 4); omega)] at h
  by_cases h4 : k < 1
  · exact .inl ⟨h4, h.symm⟩
  · exact .inr (.inl ⟨by omega, h.symm⟩)

set_option maxHeartbeats 4000000 in
theorem rmayH_run (v : Value) (hs : List Hk) (w : World) (h : Hooks w v hs) :
    Calls Try.prog 36 #[v] w fun e w' => e = .returned (.bool (mayH hs)) ∧ Kp w w' := by
  have hr := h.room
  have H := hide h
  obtain ⟨a, cap, rfl, -⟩ := h.val
  clear h
  go_enter Try.func36, Try.ntmps36
  go_wp2
  go_loopw [3] (fun i wr => ∃ k : Nat, k ≤ hs.length ∧ i = .int .i64 k ∧ Hid (∀ j, j < k → wrB (hs.getD j hnil) = false) ∧ Hid (Kp w wr)) (fun i _ => hs.length - (intOf i).toNat)
  case atStart => exact ⟨0, Nat.zero_le _, rfl, by unfold Hid; omega, Kp.refl _⟩
  case round =>
    obtain ⟨j, hj, rfl, HA, KR⟩ := hrel
    by_cases hlt : j < hs.length
    · have hltI : (j : Int) < (hs.length : Int) := by omega
      obtain ⟨b, off, rfl, hb, c0, c1, hi, -⟩ := (unhide H).one (unhide KR) hlt
      have HB : Hid (wrB (hs.getD j hnil) = false → ∀ i, i < j + 1 → wrB (hs.getD i hnil) = false) := by
        intro hx i hi
        by_cases e : i = j
        · subst e; exact hx
        · exact unhide HA i (by omega)
      have HC : Hid (wrB (hs.getD j hnil) = true → mayH hs = false) := fun hx => mayH_any (anyH_at hlt hx)
      generalize hs.getD j hnil = y at *
      obtain ⟨k, x⟩ := y
      have i1 : -9223372036854775808 ≤ k := hi.1
      have i2 : k ≤ 9223372036854775807 := hi.2
      clear hi
      have hst : ∀ (a : Addr) (x : Nat) (w : World), (store a (.float .f64 x)).run Try.prog w = stored Try.prog w a (.float .f64 x) .plain := fun a x w => run_store _ w a _ _ rfl
      go_upto_region 5 with fail
      obtain ⟨W, hW, x1, k0⟩ := px_in 91 wr (.int .i64 k) (.float .f64 x)
      rw [← hW]
      have q0 := x1.c0
      have q1 := x1.c1
      have K2 := hide ((unhide KR).trans k0)
      clear hW x1 k0 c0 c1 hb
      generalize wr.heap.size = B at *
      cases hx : wrB ⟨k, x⟩
      · have HB2 := hide (unhide HB hx)
        clear HB HC
        rcases wr_parts _ hx with ⟨_, e⟩ | ⟨_, e⟩ | ⟨rfl, _⟩ | ⟨rfl, e⟩ | ⟨hk, e⟩
        · cases e
        · cases e
        · clear hx
          go_wp2
          go_roundw
          case rel => exact ⟨j + 1, by omega, by go_num, unhide HB2, unhide K2⟩
          case measure => simp [intOf]; omega
        · clear hx
          have e1 : geB x = true := by simpa using e.symm
          unfold geB at e1
          have e2 : (FloatKind.f64.format.order x 0 == some .gt || FloatKind.f64.format.order x 0 == some .eq) = true := e1
          clear e e1
          go_wp2
          go_roundw
          case rel => exact ⟨j + 1, by omega, by go_num, unhide HB2, unhide K2⟩
          case measure => simp [intOf]; omega
        · clear hx
          have e2 : (FloatKind.f64.format.order x 0 != some .eq) = false := e.symm
          clear e
          rcases hk with rfl | rfl
          · go_wp2
            go_roundw
            case rel => exact ⟨j + 1, by omega, by go_num, unhide HB2, unhide K2⟩
            case measure => simp [intOf]; omega
          · go_wp2
            go_roundw
            case rel => exact ⟨j + 1, by omega, by go_num, unhide HB2, unhide K2⟩
            case measure => simp [intOf]; omega
      · have HC2 := hide (unhide HC hx)
        clear HB HC
        rcases wr_parts _ hx with ⟨hk, _⟩ | ⟨hk, _⟩ | ⟨rfl, e⟩ | ⟨rfl, e⟩ | ⟨hk, e⟩
        · clear hx
          go_wp2
          go_ret
          exact ⟨ret_bool (unhide HC2).symm, unhide K2⟩
        · clear hx
          have hk1 : ¬ k < 1 := by omega
          go_wp2
          go_ret
          exact ⟨ret_bool (unhide HC2).symm, unhide K2⟩
        · cases e
        · clear hx
          have e1 : geB x = false := by simpa using e.symm
          unfold geB at e1
          have e2 : (FloatKind.f64.format.order x 0 == some .gt || FloatKind.f64.format.order x 0 == some .eq) = false := e1
          clear e e1
          go_wp2
          go_ret
          exact ⟨ret_bool (unhide HC2).symm, unhide K2⟩
        · clear hx
          have e2 : (FloatKind.f64.format.order x 0 != some .eq) = true := e.symm
          clear e
          rcases hk with rfl | rfl
          · go_wp2
            go_ret
            exact ⟨ret_bool (unhide HC2).symm, unhide K2⟩
          · go_wp2
            go_ret
            exact ⟨ret_bool (unhide HC2).symm, unhide K2⟩
    · have hltI : ¬ (j : Int) < (hs.length : Int) := by omega
      have E := hide (mayH_none (anyH_no (fun i hi => unhide HA i (by omega))))
      have E2 : Hid (decide ((hs.length : Int) ≤ 4) = decide (hs.length ≤ 4)) := by
        unfold Hid
        by_cases h4 : hs.length ≤ 4
        · rw [decide_eq_true h4, decide_eq_true (by omega)]
        · rw [decide_eq_false h4, decide_eq_false (by omega)]
      go_wp2
      go_ret
      exact ⟨ret_bool ((unhide E2).trans (unhide E).symm), unhide KR⟩

end Go.Proofs.Ytliddjpcbhdplaa
