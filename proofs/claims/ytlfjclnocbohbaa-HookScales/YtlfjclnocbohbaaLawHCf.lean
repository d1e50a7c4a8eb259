
/- The law HookScales, walked, and how its arguments come in. -/
import Derived.Test.YtlfjclnocbohbaaLawHC
namespace Go.Proofs.Ytlfjclnocbohbaa
open Go.RowKit Go.ChangeShapes

set_option maxHeartbeats 2000000 in
theorem scales9_walk (a0 : Option Addr) (l0 c0 : Nat) (zs : List Int) (b m : Int) (w : World) (h : InRowK .i8 w a0 l0 c0 zs) (hb : (Lit.int .i8 b).wf = true) (hm : (Lit.int .u8 m).wf = true) :
    Calls Try.prog 7 #[.slice a0 l0 c0, .int .i8 b, .int .u8 m] w fun e w' => e = .returned (.bool true) ∧ Kp w w' := by
  have H := hide h
  have HB := hide hb
  have HM := hide hm
  clear h hb hm
  go_enter Try.func7, Try.ntmps7
  go_wp2_with fail
  refine (awake9_any w).mono ?_
  rintro e w1 ⟨rfl, k1⟩
  have K1 := hide k1
  clear k1
  go_wp2_with fail
  refine (scales_any a0 l0 c0 zs b m false w1 ((unhide H).keep9 (unhide K1)) (unhide HB) (unhide HM)).mono ?_
  rintro e w2 ⟨rfl, k2⟩
  have K2 := hide ((unhide K1).trans k2)
  clear k2
  go_wp2_with fail
  refine (scales_any a0 l0 c0 zs b m true w2 ((unhide H).keep9 (unhide K2)) (unhide HB) (unhide HM)).mono ?_
  rintro e w3 ⟨rfl, k3⟩
  have K3 := hide ((unhide K2).trans k3)
  clear k3
  go_wp2
  go_ret
  exact ⟨rfl, unhide K3⟩

end Go.Proofs.Ytlfjclnocbohbaa
