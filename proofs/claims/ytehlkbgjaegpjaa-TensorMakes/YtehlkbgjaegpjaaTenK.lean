
/- Contracts of the root, of the sum that a method value hands over, and of the law's own example. -/
import Derived.Test.YtehlkbgjaegpjaaTenJ
namespace Go.Proofs.Ytehlkbgjaegpjaa
open Go.RowKit

theorem root_notNaN {a d : Ieee.Datum} {n : Nat} (h : a.root n = some d) : d.isNaN = false := by
  cases a <;> simp only [Ieee.Datum.root] at h
  · (repeat' split at h) <;> first | (cases h; rfl) | (cases h; done)
  · (repeat' split at h) <;> first | (cases h; rfl) | (cases h; done)
  · cases h

theorem sqrt_notNaN {x r : Nat} (h : DD.sqrt x = some r) : nanW r = false := by
  unfold Ieee.Format.sqrt at h
  cases hs : (DD.read x).root (DD.fractionBits + 2) with
  | none => rw [hs] at h; cases h
  | some d => rw [hs] at h; cases h; exact nan_write (root_notNaN hs)

/-- the root, all NaNs one -/
def sqC (x : Nat) : Nat := orN (DD.sqrt x)

theorem sqC_cn (x : Nat) : sqC (cn x) = sqC x := by
  cases hx : nanW x
  · rw [cn_num hx]
  · have h1 : ∀ y, nanW y = true → DD.sqrt y = none := by
      intro y hy
      obtain ⟨s, t, e⟩ := read_nan hy
      unfold Ieee.Format.sqrt
      rw [e]
      rfl
    unfold sqC
    rw [h1 x hx, h1 (cn x) (by rw [nan_cn]; exact hx)]

def sqR (w : World) (x : Nat) : Nat :=
  match DD.sqrt x with
  | some r => r
  | none => (Question.nanBits .f64 x x).cut (w.tape w.drawn (.nanBits .f64 x x))
def sqW (w : World) (x : Nat) : World :=
  match DD.sqrt x with
  | some _ => w
  | none => w.drew

theorem sqrt_run (x : Nat) (w : World) : Sem.run Try.prog (callFunc 45 #[.float .f64 x]) w = .ok (.value (.float .f64 (sqR w x))) (sqW w x) := by
  rw [run_callFunc_extern (e := Extern.MathSqrt.sqrt) Try.func45 (by kernel_rfl) (by kernel_rfl) (by kernel_rfl) (by kernel_rfl)]
  unfold sqR sqW
  have hm : Extern.MathSqrt.sqrt #[.float .f64 x] = (match DD.sqrt x with
    | some r => pure (.float .f64 r)
    | none => do pure (.float .f64 (← choose (.nanBits .f64 x x)))) := rfl
  rw [hm]
  cases h : DD.sqrt x with
  | some r => simp
  | none => simp [Question.forced]

theorem sqR_is (w : World) (x : Nat) : cn (sqR w x) = sqC x ∧ W64 (sqR w x) := by
  unfold sqR sqC
  cases h : DD.sqrt x with
  | some r => exact ⟨cn_num (sqrt_notNaN h), DD.sqrt_lt h⟩
  | none => exact ⟨cn_nan (cut_nan _ _ _).1, (cut_nan _ _ _).2⟩
theorem sqW_kp (w : World) (x : Nat) : Kp w (sqW w x) := by
  unfold sqW
  split
  · exact Kp.refl w
  · exact Kp.drew w
theorem sqW_heap (w : World) (x : Nat) : (sqW w x).heap = w.heap := by
  unfold sqW
  split <;> rfl

theorem sqrt_any (x : Nat) (w : World) : Calls Try.prog 27 #[.float .f64 x] w fun e w' => ∃ r, e = .returned (.float .f64 r) ∧ (cn r = sqC x ∧ W64 r) ∧ w'.heap = w.heap ∧ Kp w w' := by
  have hs := fun w => sqrt_run x w
  go_enter Try.func27, Try.ntmps27
  go_wp2
  go_ret
  exact ⟨_, rfl, sqR_is _ _, sqW_heap _ _, sqW_kp _ _⟩

set_option maxHeartbeats 400000 in
theorem adder_any (x y : Nat) (w : World) : Calls Try.prog 26 #[.agg #[.float .f64 x], .float .f64 y] w fun e w' => ∃ r, e = .returned (.float .f64 r) ∧ (cn r = adC y x ∧ W64 r) ∧ Kp w w' := by
  have hop := fun t w => run_add_any (P := Try.prog) w t y x
  go_enter Try.func26, Try.ntmps26
  go_wp2_with (simp only [hop])
  go_ret
  exact ⟨_, rfl, flR_add _ _ _, (Kp.alloc _ _).trans (flW_kp _ _ _ _)⟩

end Go.Proofs.Ytehlkbgjaegpjaa
