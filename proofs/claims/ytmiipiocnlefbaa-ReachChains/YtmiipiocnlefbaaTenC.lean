
/- Contracts of what asks tensors: whether they may be, which number stands where. -/
import Derived.Test.YtmiipiocnlefbaaTenB
import Derived.Test.YtmiipiocnlefbaaPlac
namespace Go.Proofs.Ytmiipiocnlefbaa
open Go.RowKit

/-- may these be a tensor? -/
def mayT (s : List Int) (d : List Nat) : Bool := mayB s && ((d.length : Int) == prodL s)
theorem mayT_no {s : List Int} {d : List Nat} (h : mayB s = false) : mayT s d = false := by unfold mayT; rw [h]; rfl
theorem mayT_yes {s : List Int} {d : List Nat} (h : mayB s = true) : mayT s d = ((d.length : Int) == prodL s) := by unfold mayT; rw [h]; rfl
theorem mayT_may {s : List Int} {d : List Nat} (h : mayT s d = true) : mayB s = true := by
  unfold mayT at h
  simp only [Bool.and_eq_true] at h
  exact h.1
theorem mayT_len {s : List Int} {d : List Nat} (h : mayT s d = true) : (d.length : Int) = prodL s := by
  unfold mayT at h
  simp only [Bool.and_eq_true, beq_iff_eq] at h
  exact h.2
theorem mayT_pos {s : List Int} {d : List Nat} (h : mayT s d = true) : 0 < d.length := by
  have h1 := mayT_len h
  have h2 := prodL_pos (may_good (mayT_may h)).2
  omega
theorem szN_yes {s : List Int} (h : mayB s = true) : szN s = prodL s := if_pos h
theorem szE_yes {s : List Int} (h : mayB s = true) : szE s = 0 := if_pos h
theorem szE_no {s : List Int} (h : mayB s = false) : (szE s == 0) = false := by rw [szE_zero, h]
theorem szE_ne {s : List Int} (h : mayB s = false) : (szE s != 0) = true := by
  have := szE_no h
  simp only [bne, this, Bool.not_false]
theorem szN_no {s : List Int} (h : mayB s = false) : szN s = 0 := if_neg (by rw [h]; simp)

/-- laying a pair into a block of its own -/
theorem box_in (w : World) (x y : Value) : ∃ W, W = w.alloc (.cells #[x, y] 44) ∧ Bx W w.heap.size x y ∧ Kp w W := ⟨_, rfl, Bx.made w x y, Kp.alloc w _⟩

set_option maxHeartbeats 400000 in
theorem small_any (a a' : Option Addr) (n c n' c' : Nat) (w : World) (hn : n ≤ 9223372036854775807) (hn' : n' ≤ 9223372036854775807) :
    Calls Try.prog 15 #[.agg #[.slice a n c, .slice a' n' c']] w fun e w' => e = .returned (.bool (decide (n ≤ 40) && decide (n' ≤ 8192))) ∧ Kp w w' := by
  by_cases h1 : n ≤ 40
  · have E : Hid ((decide (n ≤ 40) && decide (n' ≤ 8192)) = decide ((n' : Int) ≤ 8192)) := by
      unfold Hid
      rw [decide_eq_true h1, Bool.true_and]
      exact decide_eq_decide.2 (by omega)
    have h1' : (n : Int) ≤ 40 := by omega
    go_enter Try.func15, Try.ntmps15
    go_wp2
    go_ret
    exact ⟨ret_bool (unhide E).symm, Kp.alloc _ _⟩
  · have E : Hid ((decide (n ≤ 40) && decide (n' ≤ 8192)) = false) := by
      unfold Hid
      rw [decide_eq_false h1, Bool.false_and]
    have h1' : ¬ (n : Int) ≤ 40 := by omega
    have h1'' : decide ((n : Int) ≤ 40) = false := decide_eq_false h1'
    go_enter Try.func15, Try.ntmps15
    go_wp2
    go_ret
    exact ⟨by first | rfl | exact ret_bool (unhide E).symm, Kp.alloc _ _⟩

/-- the number at that place, or none -/
def atN (s : List Int) (d : List Nat) (a : List Int) : Nat := if mayT s d = true ∧ 0 ≤ ixN s a then d.getD (ixN s a).toNat 0 else 0
def atB (s : List Int) (d : List Nat) (a : List Int) : Bool := mayT s d && decide (0 ≤ ixN s a)
theorem at_no {s : List Int} {d : List Nat} {a : List Int} (h : mayT s d = false) : atN s d a = 0 ∧ atB s d a = false := by
  unfold atN atB
  rw [h]
  exact ⟨if_neg (fun e => by cases e.1), rfl⟩
theorem at_out {s : List Int} {d : List Nat} {a : List Int} (h : ixN s a < 0) : atN s d a = 0 ∧ atB s d a = false := by
  unfold atN atB
  exact ⟨if_neg (fun e => by omega), by rw [decide_eq_false (by omega), Bool.and_false]⟩
theorem at_in {s : List Int} {d : List Nat} {a : List Int} (h : mayT s d = true) (h' : 0 ≤ ixN s a) : atN s d a = d.getD (ixN s a).toNat 0 ∧ atB s d a = true := by
  unfold atN atB
  exact ⟨if_pos ⟨h, h'⟩, by rw [h, decide_eq_true h']; rfl⟩
theorem ix_lt {s : List Int} {d : List Nat} {a : List Int} (h : mayT s d = true) (h' : 0 ≤ ixN s a) : (ixN s a).toNat < d.length := by
  have hm := mayT_may h
  have hl := mayT_len h
  by_cases hc : mayB s = true ∧ a.length = s.length ∧ insB s a = true
  · have e : ixN s a = idx s a := if_pos hc
    have := idx_bounds hc.2.1 ((insB_iff s a).1 hc.2.2)
    omega
  · have e : ixN s a = -1 := if_neg hc
    omega
theorem ret_fb {a b : Nat} {c d : Bool} (h : a = b) (h' : c = d) : Ending.returned (.tuple #[.float .f64 a, .bool c]) = .returned (.tuple #[.float .f64 b, .bool d]) := by rw [h, h']

end Go.Proofs.Ytmiipiocnlefbaa
