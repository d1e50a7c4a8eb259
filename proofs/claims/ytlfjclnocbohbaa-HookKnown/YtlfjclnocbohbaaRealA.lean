
/- Contracts of the functions on single numbers: the program's, the document's and the library's. -/
import Derived.Test.YtlfjclnocbohbaaProg
import Derived.Test.YtlfjclnocbohbaaFBase
import Derived.Deep.QuietTactic
import Derived.BigQuiet
namespace Go.Proofs.Ytlfjclnocbohbaa
open Go.RowKit

theorem bits_run (x : Nat) (w : World) : Sem.run Try.prog (callFunc 39 #[.float .f64 x]) w = .ok (.value (.int .u64 (x : Int))) w := by
  rw [run_callFunc_extern (e := Extern.MathFloatBits.float64bits) Try.func39 (by kernel_rfl) (by kernel_rfl) (by kernel_rfl) (by kernel_rfl)]
  rfl
theorem frombits_run (x : Int) (w : World) : Sem.run Try.prog (callFunc 38 #[.int .u64 x]) w = .ok (.value (.float .f64 x.toNat)) w := by
  rw [run_callFunc_extern (e := Extern.MathFloatBits.float64frombits) Try.func38 (by kernel_rfl) (by kernel_rfl) (by kernel_rfl) (by kernel_rfl)]
  rfl

/-- some number with these bits, any NaN for the one -/
def FltIs (e : Ending) (c : Nat) : Prop := ∃ r, e = .returned (.float .f64 r) ∧ cn r = c ∧ W64 r

set_option maxHeartbeats 400000 in
theorem plus_any (x y : Nat) (w : World) : Calls Try.prog 61 #[.float .f64 x, .float .f64 y] w fun e w' => ∃ r, e = .returned (.float .f64 r) ∧ (cn r = adC x y ∧ W64 r) ∧ w'.heap = w.heap ∧ Kp w w' := by
  have hop := fun t w => run_add_any (P := Try.prog) w t x y
  go_enter Try.func61, Try.ntmps61
  go_wp2_with (simp only [hop])
  go_ret
  exact ⟨_, rfl, flR_add _ _ _, flW_heap _ _ _ _, flW_kp _ _ _ _⟩

set_option maxHeartbeats 400000 in
theorem times_any (x y : Nat) (w : World) : Calls Try.prog 69 #[.float .f64 x, .float .f64 y] w fun e w' => ∃ r, e = .returned (.float .f64 r) ∧ (cn r = muC x y ∧ W64 r) ∧ w'.heap = w.heap ∧ Kp w w' := by
  have hop := fun t w => run_mul_any (P := Try.prog) w t x y
  go_enter Try.func69, Try.ntmps69
  go_wp2_with (simp only [hop])
  go_ret
  exact ⟨_, rfl, flR_mul _ _ _, flW_heap _ _ _ _, flW_kp _ _ _ _⟩

theorem isnan_any (x : Nat) (w : World) : Calls Try.prog 76 #[.float .f64 x] w fun e w' => e = .returned (.bool (nanW x)) ∧ w' = w := by
  go_enter Try.func76, Try.ntmps76
  go_wp2
  go_ret
  exact ⟨ret_bool (order_self' x), rfl⟩

set_option maxHeartbeats 400000 in
theorem rbits_any (x : Nat) (w : World) : Calls Try.prog 47 #[.float .f64 x] w fun e w' => e = .returned (.int .u64 (cn x : Nat)) ∧ w' = w := by
  have hb := bits_run x
  have hn : (FloatKind.f64.format.order x x != some .eq) = nanW x := order_self' x
  cases hx : nanW x
  · have HN := hide hx
    rw [hx] at hn
    clear hx
    go_enter Try.func47, Try.ntmps47
    go_wp2
    go_ret
    exact ⟨by rw [cn_num (unhide HN)]; rfl, rfl⟩
  · have HN := hide hx
    rw [hx] at hn
    clear hx
    go_enter Try.func47, Try.ntmps47
    go_wp2
    go_ret
    exact ⟨by rw [cn_nan (unhide HN)]; rfl, rfl⟩

/-- alike bit for bit, all NaNs one -/
def sameF (x y : Nat) : Bool := (((cn x : Nat) : Int) == ((cn y : Nat) : Int))
theorem sameF_iff {x y : Nat} : sameF x y = true ↔ cn x = cn y := by
  unfold sameF
  rw [beq_iff_eq]
  exact Int.ofNat_inj

set_option maxHeartbeats 400000 in
theorem frsame_any (x y : Nat) (w : World) : Calls Try.prog 31 #[.float .f64 x, .float .f64 y] w fun e w' => e = .returned (.bool (sameF x y)) ∧ w' = w := by
  go_enter Try.func31, Try.ntmps31
  go_wp2_with fail
  refine (rbits_any x w).mono ?_
  rintro e w1 ⟨rfl, rfl⟩
  go_wp2_with fail
  refine (rbits_any y _).mono ?_
  rintro e w2 ⟨rfl, rfl⟩
  generalize hx : cn x = cx at *
  generalize hy : cn y = cy at *
  have HX := hide hx
  have HY := hide hy
  clear hx hy
  go_wp2
  go_ret
  exact ⟨ret_bool (by unfold sameF; rw [unhide HX, unhide HY]), rfl⟩

theorem nan_any (w : World) : Calls Try.prog 21 #[] w fun e w' => e = .returned (.float .f64 9221120237041090561) ∧ w' = w := by
  have hb := frombits_run 9221120237041090561
  go_enter Try.func21, Try.ntmps21
  go_wp2
  go_ret
  exact ⟨rfl, rfl⟩

theorem inf_any (w : World) : Calls Try.prog 20 #[.int .i64 1] w fun e w' => e = .returned (.float .f64 9218868437227405312) ∧ w' = w := by
  have hb := frombits_run 9218868437227405312
  go_enter Try.func20, Try.ntmps20
  go_wp2
  go_ret
  exact ⟨rfl, rfl⟩

end Go.Proofs.Ytlfjclnocbohbaa
