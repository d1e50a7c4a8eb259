
/- Contracts of the functions on single numbers: the program's, the document's and the library's. -/
import Derived.Test.YthofnmaobmfoiaaProg
import Derived.Test.YthofnmaobmfoiaaFBase
import Derived.Deep.QuietTactic
import Derived.BigQuiet
namespace Go.Proofs.Ythofnmaobmfoiaa
open Go.RowKit

/-- some number with these bits, any NaN for the one -/
def FltIs (e : Ending) (c : Nat) : Prop := ∃ r, e = .returned (.float .f64 r) ∧ cn r = c ∧ W64 r

set_option maxHeartbeats 400000 in
theorem plus_any (x y : Nat) (w : World) : Calls Try.prog 26 #[.float .f64 x, .float .f64 y] w fun e w' => ∃ r, e = .returned (.float .f64 r) ∧ (cn r = adC x y ∧ W64 r) ∧ w'.heap = w.heap ∧ Kp w w' := by
  have hop := fun t w => run_add_any (P := Try.prog) w t x y
  go_enter Try.func26, Try.ntmps26
  go_wp2_with (simp only [hop])
  go_ret
  exact ⟨_, rfl, flR_add _ _ _, flW_heap _ _ _ _, flW_kp _ _ _ _⟩

set_option maxHeartbeats 400000 in
theorem times_any (x y : Nat) (w : World) : Calls Try.prog 24 #[.float .f64 x, .float .f64 y] w fun e w' => ∃ r, e = .returned (.float .f64 r) ∧ (cn r = muC x y ∧ W64 r) ∧ w'.heap = w.heap ∧ Kp w w' := by
  have hop := fun t w => run_mul_any (P := Try.prog) w t x y
  go_enter Try.func24, Try.ntmps24
  go_wp2_with (simp only [hop])
  go_ret
  exact ⟨_, rfl, flR_mul _ _ _, flW_heap _ _ _ _, flW_kp _ _ _ _⟩

/-- alike bit for bit, all NaNs one -/
def sameF (x y : Nat) : Bool := (((cn x : Nat) : Int) == ((cn y : Nat) : Int))
theorem sameF_iff {x y : Nat} : sameF x y = true ↔ cn x = cn y := by
  unfold sameF
  rw [beq_iff_eq]
  exact Int.ofNat_inj

end Go.Proofs.Ythofnmaobmfoiaa
