
/- Contracts of the functions that broadcast one shape to another: the document's; and of those that tell whether one is broadcast into the other. -/
import Derived.Test.YtcegkaemcjlfgabSpr
namespace Go.Proofs.Ytcegkaemcjlfgab
open Go.RowKit

set_option maxHeartbeats 400000 in
theorem into_any (v u : Value) (a b : List Int) (w : World) (h : Ints w v a) (h' : Ints w u b) :
    Calls Try.prog 18 #[v, u] w fun e w' => e = .returned (.bool (intoB a b)) ∧ Kp w w' := by
  have H := hide h
  have H' := hide h'
  clear h h'
  cases h0 : sprE a b == 0
  · have E : Hid (intoB a b = false) := by unfold Hid intoB; rw [h0]; rfl
    go_enter Try.func18, Try.ntmps18
    go_wp2_with fail
    refine (spread_any _ _ a b w (unhide H) (unhide H')).mono ?_
    rintro e w1 ⟨r, rfl, _, _, hk1⟩
    go_wp2
    go_ret
    exact ⟨ret_bool (unhide E).symm, hk1⟩
  · have E : Hid (intoB a b = sameB (sprL a b) b) := by unfold Hid intoB; rw [h0]; rfl
    go_enter Try.func18, Try.ntmps18
    go_wp2_with fail
    refine (spread_any _ _ a b w (unhide H) (unhide H')).mono ?_
    rintro e w1 ⟨r, rfl, hr1, _, hk1⟩
    have HR := hide hr1
    clear hr1
    go_wp2_with fail
    refine (same_any _ _ (sprL a b) b w1 (unhide HR) ((unhide H').keep hk1)).mono ?_
    rintro e w2 ⟨rfl, hk2⟩
    go_wp2
    go_ret
    exact ⟨ret_bool (unhide E).symm, hk1.trans hk2⟩

end Go.Proofs.Ytcegkaemcjlfgab
