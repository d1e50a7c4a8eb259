
/- Contracts of what holds two tensors against each other: the program's and the document's. -/
import Derived.Test.YtlfjclnocbohbaaTenC
namespace Go.Proofs.Ytlfjclnocbohbaa
open Go.RowKit

/-- as many, and the rule holds at each place -/
def allB (rule : Nat → Nat → Bool) (xs ys : List Nat) : Bool := decide (xs.length = ys.length ∧ ∀ j, j < xs.length → rule (xs.getD j 0) (ys.getD j 0) = true)
theorem allB_len {rule : Nat → Nat → Bool} {xs ys : List Nat} (h : xs.length ≠ ys.length) : allB rule xs ys = false := decide_eq_false (fun e => h e.1)
theorem allB_at {rule : Nat → Nat → Bool} {xs ys : List Nat} {k : Nat} (hk : k < xs.length) (h : rule (xs.getD k 0) (ys.getD k 0) = false) : allB rule xs ys = false :=
  decide_eq_false (fun e => by have := e.2 k hk; rw [h] at this; cases this)
theorem allB_yes {rule : Nat → Nat → Bool} {xs ys : List Nat} (hl : xs.length = ys.length) (h : ∀ j, j < xs.length → rule (xs.getD j 0) (ys.getD j 0) = true) : allB rule xs ys = true := decide_eq_true ⟨hl, h⟩

/-- alike as tensors, be they any or not -/
def sameT (s : List Int) (d : List Nat) (s' : List Int) (d' : List Nat) : Bool := sameB s s' && allB sameF d d'
theorem sameT_no {s : List Int} {d : List Nat} {s' : List Int} {d' : List Nat} (h : sameB s s' = false) : sameT s d s' d' = false := by unfold sameT; rw [h]; rfl
theorem sameT_yes {s : List Int} {d : List Nat} {s' : List Int} {d' : List Nat} (h : sameB s s' = true) : sameT s d s' d' = allB sameF d d' := by unfold sameT; rw [h]; rfl

set_option maxHeartbeats 1000000 in
theorem rsameT_any (sv dv sv' dv' : Value) (s : List Int) (d : List Nat) (s' : List Int) (d' : List Nat) (w : World) (hs : Ints w sv s) (hd : Flts w dv d) (hs' : Ints w sv' s') (hd' : Flts w dv' d') :
    Calls Try.prog 10 #[.agg #[sv, dv], .agg #[sv', dv']] w fun e w' => e = .returned (.bool (sameT s d s' d')) ∧ Kp w w' := by
  have HS := hide hs
  have HS' := hide hs'
  have hr := hd.room
  have hr' := hd'.room
  obtain ⟨p, cap, rfl, hv⟩ := hd.val
  obtain ⟨p', cap', rfl, hv'⟩ := hd'.val
  have HV := hide hv
  have HV' := hide hv'
  clear hs hd hs' hd' hv hv'
  go_enter Try.func10, Try.ntmps10
  go_wp2_with fail
  have x1 := (Bx.made w sv (.slice p d.length cap)).keep (Kp.alloc _ (Obj.cells #[sv', .slice p' d'.length cap'] 31))
  have x2 := Bx.made (w.alloc (Obj.cells #[sv, .slice p d.length cap] 31)) sv' (.slice p' d'.length cap')
  have k0 := (Kp.alloc w (Obj.cells #[sv, .slice p d.length cap] 31)).trans (Kp.alloc _ (Obj.cells #[sv', .slice p' d'.length cap'] 31))
  have e1 : (w.alloc (Obj.cells #[sv, .slice p d.length cap] 31)).heap.size = w.heap.size + 1 := by simp
  rw [e1] at x2
  clear e1
  generalize hR : w.heap.size + 1 = R at x2 ⊢
  generalize hB : w.heap.size = B at x1 ⊢
  clear hR hB
  generalize ((w.alloc (Obj.cells #[sv, .slice p d.length cap] 31)).alloc (Obj.cells #[sv', .slice p' d'.length cap'] 31)) = W at *
  have X1 := hide x1
  have X2 := hide x2
  have K0 := hide k0
  clear x1 x2 k0
  refine (rsame_any _ _ s s' W ((unhide HS).keep (unhide K0)) ((unhide HS').keep (unhide K0))).mono ?_
  rintro e w1 ⟨rfl, k1⟩
  obtain ⟨c0, c1, -, -, -⟩ := ((unhide X1).keep k1).o
  obtain ⟨d0, d1, -, -, -⟩ := ((unhide X2).keep k1).o
  have K1 := hide ((unhide K0).trans k1)
  have Y1 := hide ((unhide X1).keep k1)
  have Y2 := hide ((unhide X2).keep k1)
  clear k1
  cases hm : sameB s s'
  · have E := hide (sameT_no (d := d) (d' := d') hm)
    clear hm
    go_wp2
    go_ret
    exact ⟨ret_bool (unhide E).symm, unhide K1⟩
  · have E := hide (sameT_yes (d := d) (d' := d') hm)
    clear hm
    by_cases hl : d.length = d'.length
    · have hl1 : ((d.length : Int) != (d'.length : Int)) = false := by rw [hl]; simp
      have HL := hide hl
      have hl2 : d.length ≤ d'.length := by omega
      have hl3 : d'.length ≤ d.length := by omega
      clear hl
      go_wp2
      clear c0 c1 d0 d1
      go_loopw [5] (fun i wr => ∃ k : Nat, k ≤ d.length ∧ i = .int .i64 k ∧ Hid (Kp w1 wr) ∧ Hid (∀ j, j < k → sameF (d.getD j 0) (d'.getD j 0) = true)) (fun i _ => d.length - (intOf i).toNat)
      case atStart => exact ⟨0, Nat.zero_le _, rfl, Kp.refl _, by unfold Hid; omega⟩
      case round wr =>
        obtain ⟨k, hk, rfl, KR, HA⟩ := hrel
        obtain ⟨c0, c1, -, -, -⟩ := ((unhide Y1).keep (unhide KR)).o
        obtain ⟨d0, d1, -, -, -⟩ := ((unhide Y2).keep (unhide KR)).o
        by_cases hlt : k < d.length
        · obtain ⟨b, off, rfl, hb, hc⟩ := unhide HV (by omega)
          obtain ⟨b', off', rfl, hb', hc'⟩ := unhide HV' (by omega)
          have KK := (unhide K1).trans (unhide KR)
          have hck := (Below.cell KK (p := ⟨b, off + k, none⟩) hb).trans (hc k hlt)
          have hck' := (Below.cell KK (p := ⟨b', off' + k, none⟩) hb').trans (hc' k (by omega))
          clear hc hc' KK hb hb'
          have hk2 : k < d'.length := by omega
          cases hx : sameF (d.getD k 0) (d'.getD k 0)
          · have HB := hide (allB_at hlt hx)
            have HX := hide hx
            clear hx
            generalize d.getD k 0 = x at *
            generalize d'.getD k 0 = y at *
            have CC := hide (fun w0 => frsame_any x y w0)
            rw [unhide HX] at CC
            go_wp2
            go_quiet (first | (go_at_call 31; exact Calls.quiet_of_same (unhide CC _)))
            go_wp2
            go_ret
            exact ⟨ret_bool ((unhide HB).symm.trans (unhide E).symm), (unhide K1).trans ((unhide KR).trans (Kp.drewN _ _))⟩
          · have HB : Hid (∀ j, j < k + 1 → sameF (d.getD j 0) (d'.getD j 0) = true) := by
              intro j hj
              by_cases e : j = k
              · subst e; exact hx
              · exact unhide HA j (by omega)
            have HX := hide hx
            clear hx
            generalize d.getD k 0 = x at *
            generalize d'.getD k 0 = y at *
            have CC := hide (fun w0 => frsame_any x y w0)
            rw [unhide HX] at CC
            go_wp2
            go_quiet (first | (go_at_call 31; exact Calls.quiet_of_same (unhide CC _)))
            go_wp2
            go_roundw
            case rel => exact ⟨k + 1, by omega, by go_num, (unhide KR).trans (Kp.drewN _ _), unhide HB⟩
            case measure => simp [intOf]; omega
        · have HB := hide (allB_yes (rule := sameF) (unhide HL) (fun j hj => unhide HA j (by omega)))
          go_wp2
          go_ret
          exact ⟨ret_bool ((unhide HB).symm.trans (unhide E).symm), (unhide K1).trans (unhide KR)⟩
    · have HB := hide (allB_len (rule := sameF) hl)
      have hl1 : ((d.length : Int) != (d'.length : Int)) = true := by simpa using fun h => hl (by omega)
      clear hl
      go_wp2
      go_ret
      exact ⟨ret_bool ((unhide HB).symm.trans (unhide E).symm), unhide K1⟩

end Go.Proofs.Ytlfjclnocbohbaa
