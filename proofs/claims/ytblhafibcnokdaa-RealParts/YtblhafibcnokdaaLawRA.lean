/- The walk of the law on numbers that are the same. -/
import Derived.Test.YtblhafibcnokdaaRealE
namespace Go.Proofs.Ytblhafibcnokdaa
open Go.RowKit

theorem same_of {r s c : Nat} (h : cn r = c) (k : cn s = c) : sameF r s = true := sameF_iff.2 (h.trans k.symm)

set_option maxHeartbeats 2000000 in
theorem sames_walk' (a b : Nat) (bx by_ be : Bool) (w : World) (hx : nanW a = bx) (hy : nanW b = by_) (he : ((a : Int) == (b : Int)) = be) :
    Calls Try.prog 7 #[.int .u64 (a : Int), .int .u64 (b : Int)] w fun e w' => e = .returned (.bool true) ∧ Kp w w' := by
  have hs : sameF a b = ((bx && by_) || be) := by
    rw [Bool.eq_iff_iff, sameF_iff, cn_eq]
    have : be = true ↔ a = b := by rw [← he, beq_iff_eq]; omega
    rw [Bool.or_eq_true, Bool.and_eq_true, this, hx, hy]
  have fa : ∀ w, Sem.run Try.prog (callFunc 22 #[.int .u64 (a : Int)]) w = .ok (.value (.float .f64 a)) w := fun w => frombits_run a w
  have fb : ∀ w, Sem.run Try.prog (callFunc 22 #[.int .u64 (b : Int)]) w = .ok (.value (.float .f64 b)) w := fun w => frombits_run b w
  have ox : (FloatKind.f64.format.order a a != some .eq) = bx := (order_self' a).trans hx
  have oy : (FloatKind.f64.format.order b b != some .eq) = by_ := (order_self' b).trans hy
  have hc : (((cn a : Nat) : Int) == 9221120237041090561) = bx := by
    rw [Bool.eq_iff_iff, beq_iff_eq, ← hx, ← cn_N0]
    omega
  have HS := hide hs
  have HC := hide hc
  clear hs hx hy hc
  cases bx <;> cases by_ <;> cases be
  all_goals (
    go_enter Try.func7, Try.ntmps7
    go_wp2_with fail
    refine (awake_any w).mono ?_
    rintro e w1 ⟨rfl, k1⟩
    have K1 := hide k1
    clear k1
    go_wp2_with fail
    refine (plus_any a b w1).mono ?_
    rintro e w2 ⟨r2, rfl, ⟨c2, _⟩, _, k2⟩
    have K2 := hide ((unhide K1).trans k2)
    have C2 := hide c2
    clear k2 K1 c2
    go_wp2_with fail
    refine (plus_any b a w2).mono ?_
    rintro e w3 ⟨r3, rfl, ⟨c3, _⟩, _, k3⟩
    have K3 := hide ((unhide K2).trans k3)
    have C3 := hide (c3.trans (adC_comm b a))
    clear k3 K2 c3
    go_wp2_with fail
    refine (times_any a b w3).mono ?_
    rintro e w4 ⟨r4, rfl, ⟨c4, _⟩, _, k4⟩
    have K4 := hide ((unhide K3).trans k4)
    have C4 := hide c4
    clear k4 K3 c4
    go_wp2_with fail
    refine (times_any b a w4).mono ?_
    rintro e w5 ⟨r5, rfl, ⟨c5, _⟩, _, k5⟩
    have K5 := hide ((unhide K4).trans k5)
    have C5 := hide (c5.trans (muC_comm b a))
    clear k5 K4 c5
    go_wp2_with fail
    refine (same_any a b w5).mono ?_
    rw [unhide HS]
    simp only [Bool.and_true, Bool.and_false, Bool.or_false, Bool.or_true]
    rintro e w6 ⟨rfl, rfl⟩
    go_wp2_with fail
    refine (same_any r2 r3 _).mono ?_
    rw [same_of (unhide C2) (unhide C3)]
    rintro e w7 ⟨rfl, rfl⟩
    go_wp2_with fail
    refine (same_any r4 r5 _).mono ?_
    rw [same_of (unhide C4) (unhide C5)]
    rintro e w8 ⟨rfl, rfl⟩
    go_wp2_with fail
    refine (bits_any a _).mono ?_
    rintro e w9 ⟨rfl, rfl⟩
    have hc := unhide HC
    clear HC
    generalize ((cn a : Nat) : Int) = c at *
    go_wp2
    go_ret
    exact ⟨rfl, unhide K5⟩)

theorem sames_walk (a b : Nat) (w : World) : Calls Try.prog 7 #[.int .u64 (a : Int), .int .u64 (b : Int)] w fun e w' => e = .returned (.bool true) ∧ Kp w w' :=
  sames_walk' a b _ _ _ w rfl rfl rfl

end Go.Proofs.Ytblhafibcnokdaa
