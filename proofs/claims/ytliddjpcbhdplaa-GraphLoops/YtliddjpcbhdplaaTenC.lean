
/- Contracts of what asks tensors: whether they may be, which number stands where. -/
import Derived.Test.YtliddjpcbhdplaaTenB
import Derived.Test.YtliddjpcbhdplaaPlac
namespace Go.Proofs.Ytliddjpcbhdplaa
open Go.RowKit

/-- may these be a tensor? -/
def mayT (s : List Int) (d : List Nat) : Bool := mayB s && ((d.length : Int) == prodL s)
theorem mayT_no {s : List Int} {d : List Nat} (h : mayB s = false) : mayT s d = false := by unfold mayT; rw [h]; rfl
theorem mayT_yes {s : List Int} {d : List Nat} (h : mayB s = true) : mayT s d = ((d.length : Int) == prodL s) := by unfold mayT; rw [h]; rfl
theorem mayT_may {s : List Int} {d : List Nat} (h : mayT s d = true) : mayB s = true := by
  unfold mayT at h
  simp only [Bool.and_eq_true] at h
  exact h.1
theorem mayT_len {s : List Int} {d : List Nat} (h : mayT s d = true) : (d.length : Int) = prodL s := by
  unfold mayT at h
  simp only [Bool.and_eq_true, beq_iff_eq] at h
  exact h.2
theorem mayT_pos {s : List Int} {d : List Nat} (h : mayT s d = true) : 0 < d.length := by
  have h1 := mayT_len h
  have h2 := prodL_pos (may_good (mayT_may h)).2
  omega
theorem szN_yes {s : List Int} (h : mayB s = true) : szN s = prodL s := if_pos h
theorem szE_yes {s : List Int} (h : mayB s = true) : szE s = 0 := if_pos h
theorem szE_no {s : List Int} (h : mayB s = false) : (szE s == 0) = false := by rw [szE_zero, h]
theorem szE_ne {s : List Int} (h : mayB s = false) : (szE s != 0) = true := by
  have := szE_no h
  simp only [bne, this, Bool.not_false]
theorem szN_no {s : List Int} (h : mayB s = false) : szN s = 0 := if_neg (by rw [h]; simp)

/-- laying a pair into a block of its own -/
theorem box_in (w : World) (x y : Value) : ∃ W, W = w.alloc (.cells #[x, y] 38) ∧ Bx W w.heap.size x y ∧ Kp w W := ⟨_, rfl, Bx.made w x y, Kp.alloc w _⟩

set_option maxHeartbeats 400000 in
theorem mayT_any (sv dv : Value) (s : List Int) (d : List Nat) (w : World) (hs : Ints w sv s) (hd : Flts w dv d) :
    Calls Try.prog 48 #[.agg #[sv, dv]] w fun e w' => e = .returned (.bool (mayT s d)) ∧ Kp w w' := by
  have HS := hide hs
  have hr := hd.room
  obtain ⟨p, cap, rfl, -⟩ := hd.val
  clear hs hd
  go_enter Try.func48, Try.ntmps48
  go_wp2_with fail
  obtain ⟨W, hW, x1, k0⟩ := box_in w sv (.slice p d.length cap)
  rw [← hW]
  clear hW
  have X1 := hide x1
  have K0 := hide k0
  clear x1 k0
  generalize w.heap.size = B at *
  refine (size_any _ s W ((unhide HS).keep (unhide K0))).mono ?_
  rintro e w1 ⟨rfl, k1⟩
  obtain ⟨c0, c1, -, -, -⟩ := ((unhide X1).keep k1).o
  have K1 := hide ((unhide K0).trans k1)
  clear k1
  cases hm : mayB s
  · have E := hide (mayT_no (d := d) hm)
    have z := szE_no hm
    clear hm
    generalize szE s = q at *
    generalize szN s = q' at *
    go_wp2
    go_ret
    exact ⟨ret_bool (unhide E).symm, unhide K1⟩
  · have E := hide (mayT_yes (d := d) hm)
    rw [szE_yes hm, szN_yes hm]
    clear hm
    generalize hq : prodL s = q at *
    have HQ := hide hq
    clear hq
    go_wp2
    go_ret
    exact ⟨ret_bool (unhide E).symm, unhide K1⟩

set_option maxHeartbeats 400000 in
theorem rmayT_any (sv dv : Value) (s : List Int) (d : List Nat) (w : World) (hs : Ints w sv s) (hd : Flts w dv d) :
    Calls Try.prog 35 #[.agg #[sv, dv]] w fun e w' => e = .returned (.bool (mayT s d)) ∧ Kp w w' := by
  have HS := hide hs
  have hr := hd.room
  obtain ⟨p, cap, rfl, -⟩ := hd.val
  clear hs hd
  go_enter Try.func35, Try.ntmps35
  go_wp2_with fail
  obtain ⟨W, hW, x1, k0⟩ := box_in w sv (.slice p d.length cap)
  rw [← hW]
  clear hW
  have X1 := hide x1
  have K0 := hide k0
  clear x1 k0
  generalize w.heap.size = B at *
  refine (rsize_any _ s W ((unhide HS).keep (unhide K0))).mono ?_
  rintro e w1 ⟨rfl, k1⟩
  obtain ⟨c0, c1, -, -, -⟩ := ((unhide X1).keep k1).o
  have K1 := hide ((unhide K0).trans k1)
  clear k1
  cases hm : mayB s
  · have E := hide (mayT_no (d := d) hm)
    have z := szE_no hm
    clear hm
    generalize szE s = q at *
    generalize szN s = q' at *
    go_wp2
    go_ret
    exact ⟨ret_bool (unhide E).symm, unhide K1⟩
  · have E := hide (mayT_yes (d := d) hm)
    rw [szE_yes hm, szN_yes hm]
    clear hm
    generalize hq : prodL s = q at *
    have HQ := hide hq
    clear hq
    go_wp2
    go_ret
    exact ⟨ret_bool ((Bool.beq_comm).trans (unhide E).symm), unhide K1⟩

set_option maxHeartbeats 400000 in
theorem small_any (a a' : Option Addr) (n c n' c' : Nat) (w : World) (hn : n ≤ 9223372036854775807) (hn' : n' ≤ 9223372036854775807) :
    Calls Try.prog 16 #[.agg #[.slice a n c, .slice a' n' c']] w fun e w' => e = .returned (.bool (decide (n ≤ 40) && decide (n' ≤ 8192))) ∧ Kp w w' := by
  by_cases h1 : n ≤ 40
  · have E : Hid ((decide (n ≤ 40) && decide (n' ≤ 8192)) = decide ((n' : Int) ≤ 8192)) := by
      unfold Hid
      rw [decide_eq_true h1, Bool.true_and]
      exact decide_eq_decide.2 (by omega)
    have h1' : (n : Int) ≤ 40 := by omega
    go_enter Try.func16, Try.ntmps16
    go_wp2
    go_ret
    exact ⟨ret_bool (unhide E).symm, Kp.alloc _ _⟩
  · have E : Hid ((decide (n ≤ 40) && decide (n' ≤ 8192)) = false) := by
      unfold Hid
      rw [decide_eq_false h1, Bool.false_and]
    have h1' : ¬ (n : Int) ≤ 40 := by omega
    have h1'' : decide ((n : Int) ≤ 40) = false := decide_eq_false h1'
    go_enter Try.func16, Try.ntmps16
    go_wp2
    go_ret
    exact ⟨by first | rfl | exact ret_bool (unhide E).symm, Kp.alloc _ _⟩

/-- the number at that place, or none -/
def atN (s : List Int) (d : List Nat) (a : List Int) : Nat := if mayT s d = true ∧ 0 ≤ ixN s a then d.getD (ixN s a).toNat 0 else 0
def atB (s : List Int) (d : List Nat) (a : List Int) : Bool := mayT s d && decide (0 ≤ ixN s a)
theorem at_no {s : List Int} {d : List Nat} {a : List Int} (h : mayT s d = false) : atN s d a = 0 ∧ atB s d a = false := by
  unfold atN atB
  rw [h]
  exact ⟨if_neg (fun e => by cases e.1), rfl⟩
theorem at_out {s : List Int} {d : List Nat} {a : List Int} (h : ixN s a < 0) : atN s d a = 0 ∧ atB s d a = false := by
  unfold atN atB
  exact ⟨if_neg (fun e => by omega), by rw [decide_eq_false (by omega), Bool.and_false]⟩
theorem at_in {s : List Int} {d : List Nat} {a : List Int} (h : mayT s d = true) (h' : 0 ≤ ixN s a) : atN s d a = d.getD (ixN s a).toNat 0 ∧ atB s d a = true := by
  unfold atN atB
  exact ⟨if_pos ⟨h, h'⟩, by rw [h, decide_eq_true h']; rfl⟩
theorem ix_lt {s : List Int} {d : List Nat} {a : List Int} (h : mayT s d = true) (h' : 0 ≤ ixN s a) : (ixN s a).toNat < d.length := by
  have hm := mayT_may h
  have hl := mayT_len h
  by_cases hc : mayB s = true ∧ a.length = s.length ∧ insB s a = true
  · have e : ixN s a = idx s a := if_pos hc
    have := idx_bounds hc.2.1 ((insB_iff s a).1 hc.2.2)
    omega
  · have e : ixN s a = -1 := if_neg hc
    omega
theorem ret_fb {a b : Nat} {c d : Bool} (h : a = b) (h' : c = d) : Ending.returned (.tuple #[.float .f64 a, .bool c]) = .returned (.tuple #[.float .f64 b, .bool d]) := by rw [h, h']

end Go.Proofs.Ytliddjpcbhdplaa
