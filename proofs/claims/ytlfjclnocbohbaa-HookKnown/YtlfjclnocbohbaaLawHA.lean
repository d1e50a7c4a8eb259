
/- The law HookDoes, walked. -/
import Derived.Test.YtlfjclnocbohbaaHokI
namespace Go.Proofs.Ytlfjclnocbohbaa
open Go.RowKit

theorem sameT_cn9 {s : List Int} {d d' : List Nat} (h : d.map cn = d'.map cn) : sameT s d s d' = true := by
  have hl : d.length = d'.length := by have := congrArg List.length h; simpa using this
  rw [sameT_yes (by unfold sameB; simp)]
  refine allB_yes hl (fun j hj => ?_)
  rw [sameF_iff]
  have h2 := congrArg (fun l => l.getD j 0) h
  have hj' : j < d'.length := by omega
  simp [hj, hj'] at h2
  simp [hj, hj']
  exact h2

set_option maxHeartbeats 8000000 in
theorem does_walk (a : Option Addr) (len cap : Nat) (p0 : Option Addr) (l0 c0 : Nat) (z0 : List Int) (p1 : Option Addr) (l1 c1 : Nat) (z1 : List Nat) (w : World) (h : InHooks w a len cap) (hi : InRowK .i64 w p0 l0 c0 z0) (hf : InRowF w p1 l1 c1 z1) :
    Calls Try.prog 4 #[.slice a len cap, .agg #[.slice p0 l0 c0, .slice p1 l1 c1]] w fun e w' => e = .returned (.bool true) ∧ Kp w w' := by
  have H := hide h
  have HI := hide hi
  have HF := hide hf
  have hmax := h.max.1
  have m0 := hi.max
  have m1 := hf.max
  clear h hi hf
  go_enter Try.func4, Try.ntmps4
  go_wp2_with fail
  have XT := hide (Bx.made w (.slice p0 l0 c0) (.slice p1 l1 c1))
  have K0 := hide (Kp.alloc w (.cells #[.slice p0 l0 c0, .slice p1 l1 c1] 31))
  generalize w.alloc (.cells #[.slice p0 l0 c0, .slice p1 l1 c1] 31) = u0 at *
  generalize w.heap.size = T at XT ⊢
  refine (awake9_any u0).mono ?_
  rintro e w1 ⟨rfl, k1⟩
  have K1 := hide ((unhide K0).trans k1)
  have X1 := hide ((unhide XT).keep k1)
  clear k1 K0 XT
  by_cases g0 : 40 < len
  · have g0' : decide ((40 : Int) < (len : Int)) = true := decide_eq_true (by omega)
    have g0'' : (40 : Int) < (len : Int) := by omega
    go_wp2
    go_ret
    exact ⟨rfl, unhide K1⟩
  have g0' : ¬ (40 : Int) < (len : Int) := by omega
  obtain ⟨x0, x1, -, -, -⟩ := (unhide X1).o
  go_wp2_with fail
  refine (small_any p0 p1 l0 c0 l1 c1 w1 m0 m1).mono ?_
  rintro e w2 ⟨rfl, k2⟩
  have K2 := hide ((unhide K1).trans k2)
  have X2 := hide ((unhide X1).keep k2)
  clear k2 x0 x1 X1
  by_cases hsm : (decide (l0 ≤ 40) && decide (l1 ≤ 8192)) = true
  · rw [hsm]
    simp only [Bool.and_eq_true, decide_eq_true_eq] at hsm
    obtain ⟨hs, hsl, hhk⟩ := (unhide H).hooks (by omega)
    have HK := hide (hhk.keep (unhide K2))
    have II := hide (((unhide HI).ints (by omega)).keep (unhide K2))
    have FF := hide (((unhide HF).flts (by omega)).keep (unhide K2))
    generalize z0.take l0 = s at *
    generalize z1.take l1 = d at *
    clear hhk
    obtain ⟨x0, x1, -, -, -⟩ := (unhide X2).o
    go_wp2_with fail
    refine (do_all _ hs _ _ s d w2 (unhide HK) (unhide II) (unhide FF)).mono ?_
    generalize hS : hoS hs s d = S at *
    generalize hE : hoE hs s d = E at *
    generalize hD : hoD hs s d = D at *
    have HQ := hide (And.intro hS (And.intro hE hD))
    clear hS hE hD
    rintro e w3 ⟨ds, ⟨a1, e1, a2, e2, rfl, i1, f1, -, -⟩, hc, k3⟩
    have ka := Kp.alloc w3 (.cells #[.slice a1 S.length e1, .slice a2 ds.length e2] 31)
    have kk := k3.trans ka
    have I3 := hide (i1.keep ka)
    have F3 := hide (f1.keep ka)
    have Y3 := hide (Bx.made w3 (.slice a1 S.length e1) (.slice a2 ds.length e2))
    have HC := hide hc
    have K3 := hide ((unhide K2).trans kk)
    have X3 := hide ((unhide X2).keep kk)
    have HK3 := hide ((unhide HK).keep kk)
    have II3 := hide ((unhide II).keep kk)
    have FF3 := hide ((unhide FF).keep kk)
    clear i1 f1 hc k3 ka kk x0 x1
    go_upto_region 6 with fail
    generalize w3.alloc (.cells #[.slice a1 S.length e1, .slice a2 ds.length e2] 31) = w4 at *
    generalize w3.heap.size = Y at *
    obtain ⟨x0, x1, -, -, -⟩ := (unhide X3).o
    go_wp2_with fail
    refine (rhook_all _ hs _ _ s d w4 (unhide HK3) (unhide II3) (unhide FF3)).mono ?_
    rw [(unhide HQ).1, (unhide HQ).2.1, (unhide HQ).2.2]
    rintro e w5 ⟨ds2, ⟨b1, q1, b2, q2, rfl, i1, f1, -, -⟩, hc, k5⟩
    have ka := Kp.alloc w5 (.cells #[.slice b1 S.length q1, .slice b2 ds2.length q2] 31)
    have kk := k5.trans ka
    have I5 := hide (i1.keep ka)
    have F5 := hide (f1.keep ka)
    have Z5 := hide (Bx.made w5 (.slice b1 S.length q1) (.slice b2 ds2.length q2))
    have K5 := hide ((unhide K3).trans kk)
    have Y5 := hide ((unhide Y3).keep kk)
    have HK5 := hide ((unhide HK3).keep kk)
    have J5 := hide ((unhide I3).keep kk)
    have G5 := hide ((unhide F3).keep kk)
    have HSM := hide (sameT_cn9 (s := S) ((unhide HC).trans hc.symm))
    clear i1 f1 hc k5 ka kk x0 x1
    go_upto_region 7 with fail
    generalize w5.alloc (.cells #[.slice b1 S.length q1, .slice b2 ds2.length q2] 31) = w6 at *
    generalize w5.heap.size = Z at *
    obtain ⟨y0, y1, -, -, -⟩ := (unhide Y5).o
    obtain ⟨v0, v1, -, -, -⟩ := (unhide Z5).o
    have heq : (E == E) = true := by simp
    go_wp2_with fail
    refine (rsameT_any _ _ _ _ S ds S ds2 w6 (unhide J5) (unhide G5) (unhide I5) (unhide F5)).mono ?_
    rw [unhide HSM]
    rintro e w7 ⟨rfl, k7⟩
    have K7 := hide ((unhide K5).trans k7)
    have HK7 := hide ((unhide HK5).keep k7)
    clear k7 y0 y1 v0 v1
    go_wp2_with fail
    refine (mayH_run _ hs w7 (unhide HK7)).mono ?_
    rintro e w8 ⟨rfl, k8⟩
    have K8 := hide ((unhide K7).trans k8)
    have HK8 := hide ((unhide HK7).keep k8)
    clear k8
    generalize hmm : mayH hs = r at *
    have HMM := hide hmm
    clear hmm
    go_wp2_with fail
    refine (rmayH_run _ hs w8 (unhide HK8)).mono ?_
    rw [unhide HMM]
    rintro e w9 ⟨rfl, k9⟩
    have K9 := hide ((unhide K8).trans k9)
    have hrr : (r == r) = true := by simp
    clear k9
    go_wp2
    go_ret
    exact ⟨by simp, unhide K9⟩
  · have hsm := eq_false_of_ne_true hsm
    rw [hsm]
    go_wp2
    go_ret
    exact ⟨rfl, unhide K2⟩

end Go.Proofs.Ytlfjclnocbohbaa
