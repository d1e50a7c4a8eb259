
/- Contracts of the functions on single numbers: the program's, the document's and the library's. -/
import Derived.Test.YtehlkbgjaegpjaaProg
import Derived.Test.YtehlkbgjaegpjaaFBase
import Derived.Deep.QuietTactic
import Derived.BigQuiet
namespace Go.Proofs.Ytehlkbgjaegpjaa
open Go.RowKit

theorem bits_run (x : Nat) (w : World) : Sem.run Try.prog (callFunc 38 #[.float .f64 x]) w = .ok (.value (.int .u64 (x : Int))) w := by
  rw [run_callFunc_extern (e := Extern.MathFloatBits.float64bits) Try.func38 (by kernel_rfl) (by kernel_rfl) (by kernel_rfl) (by kernel_rfl)]
  rfl
theorem frombits_run (x : Int) (w : World) : Sem.run Try.prog (callFunc 37 #[.int .u64 x]) w = .ok (.value (.float .f64 x.toNat)) w := by
  rw [run_callFunc_extern (e := Extern.MathFloatBits.float64frombits) Try.func37 (by kernel_rfl) (by kernel_rfl) (by kernel_rfl) (by kernel_rfl)]
  rfl

/-- some number with these bits, any NaN for the one -/
def FltIs (e : Ending) (c : Nat) : Prop := ∃ r, e = .returned (.float .f64 r) ∧ cn r = c ∧ W64 r

theorem isnan_any (x : Nat) (w : World) : Calls Try.prog 58 #[.float .f64 x] w fun e w' => e = .returned (.bool (nanW x)) ∧ w' = w := by
  go_enter Try.func58, Try.ntmps58
  go_wp2
  go_ret
  exact ⟨ret_bool (order_self' x), rfl⟩

set_option maxHeartbeats 400000 in
theorem bits_any (x : Nat) (w : World) : Calls Try.prog 56 #[.float .f64 x] w fun e w' => e = .returned (.int .u64 (cn x : Nat)) ∧ w' = w := by
  have hb := bits_run x
  go_enter Try.func56, Try.ntmps56
  go_wp2_with fail
  refine (isnan_any x w).mono ?_
  rintro e w1 ⟨rfl, rfl⟩
  cases hn : nanW x
  · have HN := hide hn
    clear hn
    go_wp2
    go_ret
    exact ⟨by rw [cn_num (unhide HN)]; rfl, rfl⟩
  · have HN := hide hn
    clear hn
    go_wp2
    go_ret
    exact ⟨by rw [cn_nan (unhide HN)]; rfl, rfl⟩

set_option maxHeartbeats 400000 in
theorem rbits_any (x : Nat) (w : World) : Calls Try.prog 35 #[.float .f64 x] w fun e w' => e = .returned (.int .u64 (cn x : Nat)) ∧ w' = w := by
  have hb := bits_run x
  have hn : (FloatKind.f64.format.order x x != some .eq) = nanW x := order_self' x
  cases hx : nanW x
  · have HN := hide hx
    rw [hx] at hn
    clear hx
    go_enter Try.func35, Try.ntmps35
    go_wp2
    go_ret
    exact ⟨by rw [cn_num (unhide HN)]; rfl, rfl⟩
  · have HN := hide hx
    rw [hx] at hn
    clear hx
    go_enter Try.func35, Try.ntmps35
    go_wp2
    go_ret
    exact ⟨by rw [cn_nan (unhide HN)]; rfl, rfl⟩

/-- alike bit for bit, all NaNs one -/
def sameF (x y : Nat) : Bool := (((cn x : Nat) : Int) == ((cn y : Nat) : Int))
theorem sameF_iff {x y : Nat} : sameF x y = true ↔ cn x = cn y := by
  unfold sameF
  rw [beq_iff_eq]
  exact Int.ofNat_inj

set_option maxHeartbeats 400000 in
theorem fsame_any (x y : Nat) (w : World) : Calls Try.prog 41 #[.float .f64 x, .float .f64 y] w fun e w' => e = .returned (.bool (sameF x y)) ∧ w' = w := by
  go_enter Try.func41, Try.ntmps41
  go_wp2_with fail
  refine (bits_any x w).mono ?_
  rintro e w1 ⟨rfl, rfl⟩
  go_wp2_with fail
  refine (bits_any y _).mono ?_
  rintro e w2 ⟨rfl, rfl⟩
  generalize hx : cn x = cx at *
  generalize hy : cn y = cy at *
  have HX := hide hx
  have HY := hide hy
  clear hx hy
  go_wp2
  go_ret
  exact ⟨ret_bool (by unfold sameF; rw [unhide HX, unhide HY]), rfl⟩

set_option maxHeartbeats 400000 in
theorem frsame_any (x y : Nat) (w : World) : Calls Try.prog 18 #[.float .f64 x, .float .f64 y] w fun e w' => e = .returned (.bool (sameF x y)) ∧ w' = w := by
  go_enter Try.func18, Try.ntmps18
  go_wp2_with fail
  refine (rbits_any x w).mono ?_
  rintro e w1 ⟨rfl, rfl⟩
  go_wp2_with fail
  refine (rbits_any y _).mono ?_
  rintro e w2 ⟨rfl, rfl⟩
  generalize hx : cn x = cx at *
  generalize hy : cn y = cy at *
  have HX := hide hx
  have HY := hide hy
  clear hx hy
  go_wp2
  go_ret
  exact ⟨ret_bool (by unfold sameF; rw [unhide HX, unhide HY]), rfl⟩

theorem inf_any (w : World) : Calls Try.prog 25 #[.int .i64 1] w fun e w' => e = .returned (.float .f64 9218868437227405312) ∧ w' = w := by
  have hb := frombits_run 9218868437227405312
  go_enter Try.func25, Try.ntmps25
  go_wp2
  go_ret
  exact ⟨rfl, rfl⟩

end Go.Proofs.Ytehlkbgjaegpjaa
