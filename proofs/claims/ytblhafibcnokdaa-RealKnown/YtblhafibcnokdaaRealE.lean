/- The document's own case, as the laws of numbers ask for it first. -/
import Derived.Test.YtblhafibcnokdaaRealD
namespace Go.Proofs.Ytblhafibcnokdaa
open Go.RowKit

theorem lit_flts (w : World) (e : TypeId) (ys : List Nat) (c : Array Value) (B n : Nat) (hc : c = (ys.map (Value.float .f64)).toArray) (hB : B = w.heap.size) (hn : ys.length = n) (hw : ∀ x ∈ ys, W64 x) (hr : n * 8 ≤ 140737488351232) :
    Flts (w.alloc (.cells c e)) (.slice (some ⟨B, 0, none⟩) n n) ys := by
  subst hc hB
  refine BlkF.flts (e := e) ?_ hn hw hr
  unfold BlkF
  simp only [World.alloc, Array.getElem?_push_size]

theorem roomy (a : Option Addr) (n c : Nat) (h : n ≤ c) (h' : c ≤ 9223372036854775807) : Roomy (.slice a n c) := by
  intro a n c e
  cases e
  exact ⟨h, h'⟩

theorem is_num {r c L : Nat} (h : cn r = c) (hc : c = L) (hL : nanW L = false) : r = L := by
  subst hc
  have : nanW r = false := by rw [← nan_cn, h]; exact hL
  rw [← h, cn_num this]

theorem num_of {f : Nat} {args : Array Value} {w : World} {c L : Nat} (h : Calls Try.prog f args w fun e w' => ∃ r, e = .returned (.float .f64 r) ∧ (cn r = c ∧ W64 r) ∧ w'.heap = w.heap ∧ Kp w w') (hc : c = L) (hL : nanW L = false) :
    Calls Try.prog f args w fun e w' => e = .returned (.float .f64 L) ∧ Kp w w' :=
  h.mono (by
    rintro e w' ⟨r, rfl, ⟨h1, _⟩, _, k⟩
    exact ⟨by rw [is_num h1 hc hL], k⟩)

theorem kp_of {f : Nat} {args : Array Value} {w : World} {v : Value} (h : Calls Try.prog f args w fun e w' => e = .returned v ∧ w' = w) : Calls Try.prog f args w fun e w' => e = .returned v ∧ Kp w w' :=
  h.mono (by
    rintro e w' ⟨rfl, rfl⟩
    exact ⟨rfl, Kp.refl _⟩)

set_option maxHeartbeats 400000 in
theorem awake_any (w : World) : Calls Try.prog 9 #[] w fun e w' => e = .returned (.bool true) ∧ Kp w w' := by
  have hq6 : (FloatKind.f64.format.order 4618441417868443648 4618441417868443648 == some Ordering.eq) = true := by decide +kernel
  have hq5 : (FloatKind.f64.format.order 4617315517961601024 4617315517961601024 == some Ordering.eq) = true := by decide +kernel
  have hq3 : (FloatKind.f64.format.order 4613937818241073152 4613937818241073152 == some Ordering.eq) = true := by decide +kernel
  have hng := fun w => run_neg_any (P := Try.prog) w 9221120237041090561 18444492273895866369 (by decide +kernel)
  go_enter Try.func9, Try.ntmps9
  go_wp2_with fail
  have L_1 := hide (lit_flts w 23 [4607182418800017408, 4611686018427387904, 4613937818241073152] #[.float .f64 4607182418800017408, .float .f64 4611686018427387904, .float .f64 4613937818241073152] (w.heap.size) 3 rfl rfl rfl (by unfold W64; decide) (by decide))
  have q1 := Kp.alloc w (.cells #[.float .f64 4607182418800017408, .float .f64 4611686018427387904, .float .f64 4613937818241073152] 23)
  generalize (w.alloc (.cells #[.float .f64 4607182418800017408, .float .f64 4611686018427387904, .float .f64 4613937818241073152] 23)) = w1 at *
  have K1 := hide q1
  clear q1
  refine (num_of (L := 4618441417868443648) (fold_any _ [4607182418800017408, 4611686018427387904, 4613937818241073152] w1 (unhide L_1) (roomy _ _ _ (by decide) (by decide))) (by decide +kernel) (by decide +kernel)).mono ?_
  rintro e w2 ⟨rfl, k2⟩
  have K2 := hide ((unhide K1).trans k2)
  have L_2 := hide ((unhide L_1).keep k2)
  clear K1 L_1
  clear k2
  clear L_2
  go_wp2_with fail
  refine (num_of (L := 4618441417868443648) (times_any 4611686018427387904 4613937818241073152 w2) (by decide +kernel) (by decide +kernel)).mono ?_
  rintro e w3 ⟨rfl, k3⟩
  have K3 := hide ((unhide K2).trans k3)
  clear K2
  clear k3
  go_wp2_with fail
  refine (num_of (L := 4617315517961601024) (plus_any 4611686018427387904 4613937818241073152 w3) (by decide +kernel) (by decide +kernel)).mono ?_
  rintro e w4 ⟨rfl, k4⟩
  have K4 := hide ((unhide K3).trans k4)
  clear K3
  clear k4
  go_wp2_with fail
  refine (kp_of (nan_any w4)).mono ?_
  rintro e w5 ⟨rfl, k5⟩
  have K5 := hide ((unhide K4).trans k5)
  clear K4
  clear k5
  go_wp2_with fail
  refine (kp_of (nan_any w5)).mono ?_
  rintro e w6 ⟨rfl, k6⟩
  have K6 := hide ((unhide K5).trans k6)
  clear K5
  clear k6
  go_wp2_with fail
  refine (kp_of (same_any _ _ w6)).mono ?_
  rw [show sameF 9221120237041090561 18444492273895866369 = true from by decide +kernel]
  rintro e w7 ⟨rfl, k7⟩
  have K7 := hide ((unhide K6).trans k7)
  clear K6
  clear k7
  go_wp2_with fail
  have L_8 := hide (lit_flts w7 23 [4607182418800017408, 4611686018427387904] #[.float .f64 4607182418800017408, .float .f64 4611686018427387904] (w7.heap.size) 2 rfl rfl rfl (by unfold W64; decide) (by decide))
  have q8 := Kp.alloc w7 (.cells #[.float .f64 4607182418800017408, .float .f64 4611686018427387904] 23)
  generalize (w7.alloc (.cells #[.float .f64 4607182418800017408, .float .f64 4611686018427387904] 23)) = w8 at *
  have K8 := hide ((unhide K7).trans q8)
  clear K7
  clear q8
  refine (num_of (L := 4613937818241073152) (row_any _ [4607182418800017408, 4611686018427387904] w8 (unhide L_8)) (by decide +kernel) (by decide +kernel)).mono ?_
  rintro e w9 ⟨rfl, k9⟩
  have K9 := hide ((unhide K8).trans k9)
  have L_9 := hide ((unhide L_8).keep k9)
  clear K8 L_8
  clear k9
  go_wp2
  go_ret
  exact ⟨rfl, unhide K9⟩

end Go.Proofs.Ytblhafibcnokdaa
