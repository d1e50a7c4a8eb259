/- The walks of the laws on sizes and broadcasts. -/
import Derived.Test.YtbomfmdjpoebcaaAwake
import Derived.OpenShut
namespace Go.Proofs.Ytbomfmdjpoebcaa
open Go.RowKit

/-- a slice of integers that came in: nil, or a row of numbers -/
def InRow (w : World) (a : Option Addr) (len cap : Nat) (zs : List Int) : Prop :=
  (a = none ∧ len = 0 ∧ cap = 0 ∧ zs = []) ∨
  ∃ x, a = some x ∧ len ≤ cap ∧ cap ≤ maxLen ∧ zs.length = cap ∧ (∀ i, i < zs.length → w.cell? (x.add i) = some (.int .i64 (zs.getD i 0))) ∧ ∀ n ∈ zs, (Lit.int .i64 n).wf = true

theorem wf_i64 {n : Int} (h : (Lit.int .i64 n).wf = true) : I64 n := by
  have := bounds_i64 h
  unfold I64
  omega

theorem InRow.max {w : World} {a : Option Addr} {len cap : Nat} {zs : List Int} (h : InRow w a len cap zs) : len ≤ 9223372036854775807 := by
  rcases h with ⟨_, rfl, _, _⟩ | ⟨x, _, h1, h2, _⟩
  · omega
  · unfold maxLen at h2; omega

theorem InRow.len {w : World} {a : Option Addr} {len cap : Nat} {zs : List Int} (h : InRow w a len cap zs) : (zs.take len).length = len := by
  rcases h with ⟨_, rfl, _, rfl⟩ | ⟨x, _, h1, _, h3, _⟩
  · rfl
  · simp; omega

theorem InRow.ints {w : World} {a : Option Addr} {len cap : Nat} {zs : List Int} (h : InRow w a len cap zs) (hs : len ≤ 1000000) : Ints w (.slice a len cap) (zs.take len) := by
  rcases h with ⟨rfl, rfl, rfl, rfl⟩ | ⟨x, rfl, h1, _, h3, h4, h5⟩
  · exact Ints.nil w
  · have hl : (zs.take len).length = len := by simp; omega
    refine ⟨fun y hy => wf_i64 (h5 y (List.mem_of_mem_take hy)), by omega, (by intro n c h; cases h), some x, cap, by rw [hl], fun hp => ?_⟩
    obtain ⟨b, off, rfl, hc⟩ := ints_at h4 (by omega)
    refine ⟨b, off, rfl, ?_, fun i hi => ?_⟩
    · have h0 := hc 0 (by omega)
      unfold World.cell? at h0
      split at h0
      · rename_i c t f hh
        exact (Array.getElem?_eq_some_iff.1 hh).1
      · cases h0
    · have hil : i < len := by omega
      have := hc i (by omega)
      simpa [List.getD_eq_getElem?_getD, List.getElem?_take, hil] using this

set_option maxHeartbeats 400000 in
theorem reckons_walk (a0 a1 : Option Addr) (l0 c0 l1 c1 : Nat) (s at_ : List Int) (i : Int) (w : World) (m0 : l0 ≤ 9223372036854775807) (m1 : l1 ≤ 9223372036854775807)
    (h0 : l0 ≤ 1000000 → Ints w (.slice a0 l0 c0) s) (h1 : l1 ≤ 1000000 → Ints w (.slice a1 l1 c1) at_) (hi : I64 i) :
    Calls Try.prog 3 #[.slice a0 l0 c0, .slice a1 l1 c1, .int .i64 i] w fun e w' => e = .returned (.bool true) ∧ Kp w w' := by
  have H0 := hide h0
  have H1 := hide h1
  have HI := hide hi
  clear h0 h1 hi
  by_cases g0 : l0 ≤ 40
  · by_cases g1 : l1 ≤ 40
    · have A0 := hide (unhide H0 (by omega))
      have A1 := hide (unhide H1 (by omega))
      clear H0 H1
      go_enter Try.func3, Try.ntmps3
      go_wp2_with fail
      refine (awake_any w).mono ?_
      rintro e w1 ⟨rfl, k1⟩
      have K1 := hide k1
      clear k1
      go_wp2_with fail
      refine (size_any _ s w1 ((unhide A0).keep (unhide K1))).mono ?_
      rintro e w2 ⟨rfl, k2⟩
      have K2 := hide ((unhide K1).trans k2)
      clear k2 K1
      go_wp2_with fail
      refine (rsize_any _ s w2 ((unhide A0).keep (unhide K2))).mono ?_
      rintro e w3 ⟨rfl, k3⟩
      have K3 := hide ((unhide K2).trans k3)
      clear k3 K2
      go_wp2_with fail
      refine (may_any _ s w3 ((unhide A0).keep (unhide K3))).mono ?_
      rintro e w4 ⟨rfl, k4⟩
      have K4 := hide ((unhide K3).trans k4)
      clear k4 K3
      go_wp2_with fail
      refine (rmay_any _ s w4 ((unhide A0).keep (unhide K4))).mono ?_
      rintro e w5 ⟨rfl, k5⟩
      have K5 := hide ((unhide K4).trans k5)
      clear k5 K4
      go_wp2_with fail
      refine (strides_any _ s w5 ((unhide A0).keep (unhide K5))).mono ?_
      rintro e w6 ⟨u6, rfl, i6, _, k6⟩
      have K6 := hide ((unhide K5).trans k6)
      have I6 := hide i6
      clear k6 K5 i6
      go_wp2_with fail
      refine (rstrides_any _ s w6 ((unhide A0).keep (unhide K6))).mono ?_
      rintro e w7 ⟨u7, rfl, i7, _, k7⟩
      have K7 := hide ((unhide K6).trans k7)
      have I7 := hide i7
      have I6' := hide ((unhide I6).keep k7)
      clear k7 K6 i7 I6
      go_wp2_with fail
      refine (rsame_any _ _ (strN s) (strN s) w7 (unhide I6') (unhide I7)).mono ?_
      rw [show sameB (strN s) (strN s) = true from by simp [sameB]]
      rintro e w8 ⟨rfl, k8⟩
      have K8 := hide ((unhide K7).trans k8)
      clear k8 K7 I6' I7
      go_wp2_with fail
      refine (index_any _ _ s at_ w8 ((unhide A0).keep (unhide K8)) ((unhide A1).keep (unhide K8))).mono ?_
      rintro e w9 ⟨rfl, k9⟩
      have K9 := hide ((unhide K8).trans k9)
      clear k9 K8
      go_wp2_with fail
      refine (rindex_any _ _ s at_ w9 ((unhide A0).keep (unhide K9)) ((unhide A1).keep (unhide K9))).mono ?_
      rintro e w10 ⟨rfl, k10⟩
      have K10 := hide ((unhide K9).trans k10)
      clear k10 K9
      go_wp2_with fail
      refine (place_any _ s i w10 ((unhide A0).keep (unhide K10)) (unhide HI)).mono ?_
      rintro e w11 ⟨u11, rfl, i11, _, k11⟩
      have K11 := hide ((unhide K10).trans k11)
      have I11 := hide i11
      clear k11 K10 i11
      go_wp2_with fail
      refine (rplace_any _ s i w11 ((unhide A0).keep (unhide K11)) (unhide HI)).mono ?_
      rintro e w12 ⟨u12, rfl, i12, _, k12⟩
      have K12 := hide ((unhide K11).trans k12)
      have I12 := hide i12
      have I11' := hide ((unhide I11).keep k12)
      clear k12 K11 i12 I11
      go_wp2_with fail
      refine (rsame_any _ _ (plN s i) (plN s i) w12 (unhide I11') (unhide I12)).mono ?_
      rw [show sameB (plN s i) (plN s i) = true from by simp [sameB]]
      rintro e w13 ⟨rfl, k13⟩
      have K13 := hide ((unhide K12).trans k13)
      clear k13 K12 I11' I12
      go_wp2_with fail
      refine (same_any _ _ s at_ w13 ((unhide A0).keep (unhide K13)) ((unhide A1).keep (unhide K13))).mono ?_
      rintro e w14 ⟨rfl, k14⟩
      have K14 := hide ((unhide K13).trans k14)
      clear k14 K13
      go_wp2_with fail
      refine (rsame_any _ _ s at_ w14 ((unhide A0).keep (unhide K14)) ((unhide A1).keep (unhide K14))).mono ?_
      rintro e w15 ⟨rfl, k15⟩
      have K15 := hide ((unhide K14).trans k15)
      clear k15 K14
      go_wp2
      go_ret
      exact ⟨rfl, unhide K15⟩
    · go_enter Try.func3, Try.ntmps3
      go_wp2_with fail
      refine (awake_any w).mono ?_
      rintro e w1 ⟨rfl, k1⟩
      go_wp2
      go_ret
      exact ⟨rfl, k1⟩
  · go_enter Try.func3, Try.ntmps3
    go_wp2_with fail
    refine (awake_any w).mono ?_
    rintro e w1 ⟨rfl, k1⟩
    go_wp2
    go_ret
    exact ⟨rfl, k1⟩

end Go.Proofs.Ytbomfmdjpoebcaa
