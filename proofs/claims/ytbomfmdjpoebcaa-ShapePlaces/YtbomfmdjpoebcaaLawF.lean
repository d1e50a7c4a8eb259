/- The walk of the law on places. -/
import Derived.Test.YtbomfmdjpoebcaaLawA
namespace Go.Proofs.Ytbomfmdjpoebcaa
open Go.RowKit

theorem places_ok {s : List Int} (hm : mayB s = true) {i : Int} (h0 : 0 ≤ i) (h1 : i < prodL s) :
    plN s i = plc s i ∧ ixN s (plc s i) = i ∧ (plc s i).length = s.length ∧ idx s (plc s i) = i ∧ Inside s (plc s i) := by
  have hp := (may_good hm).2
  have hi := idx_plc hp h0 h1
  have hl := plc_length s i
  refine ⟨plN_yes hm h0 h1, ?_, hl, hi.1, hi.2⟩
  rw [ixN_yes hm hl ((insB_iff _ _).2 hi.2)]
  exact hi.1

set_option maxHeartbeats 1000000 in
theorem places_walk (a0 : Option Addr) (l0 c0 : Nat) (s : List Int) (w : World) (m0 : l0 ≤ 9223372036854775807)
    (h0 : l0 ≤ 1000000 → Ints w (.slice a0 l0 c0) s) (e0 : l0 ≤ 1000000 → s.length = l0) :
    Calls Try.prog 5 #[.slice a0 l0 c0] w fun e w' => e = .returned (.bool true) ∧ Kp w w' := by
  have H0 := hide h0
  have E0 := hide e0
  clear h0 e0
  by_cases g0 : l0 ≤ 40
  · have A0 := hide (unhide H0 (by omega))
    have L0 := hide (unhide E0 (by omega))
    clear H0 E0
    cases hm : mayB s
    · have HM := hide hm
      have EZ : Hid (szN s = 0) := by unfold Hid szN; rw [hm]; rfl
      have EN := hide (szE_not hm)
      clear hm
      go_enter Try.func5, Try.ntmps5
      go_wp2_with fail
      refine (awake_any w).mono ?_
      rintro e w1 ⟨rfl, k1⟩
      go_wp2_with fail
      refine (size_any _ s w1 ((unhide A0).keep k1)).mono ?_
      rw [unhide EZ]
      rintro e w2 ⟨rfl, k2⟩
      have en := unhide EN
      clear EN
      go_wp2
      go_ret
      exact ⟨rfl, k1.trans k2⟩
    · have HM := hide hm
      have hp1 := prodL_pos (may_good hm).2
      have hp2 := may_prod hm
      clear hm
      go_enter Try.func5, Try.ntmps5
      go_wp2_with fail
      refine (awake_any w).mono ?_
      rintro e w1 ⟨rfl, k1⟩
      have K1 := hide k1
      have A0_1 := hide ((unhide A0).keep k1)
      clear A0
      clear k1
      go_wp2_with fail
      refine (size_any _ s w1 (unhide A0_1)).mono ?_
      rw [szN_may (unhide HM), szE_may (unhide HM)]
      rintro e w2 ⟨rfl, k2⟩
      have K2 := hide ((unhide K1).trans k2)
      have A0_2 := hide ((unhide A0_1).keep k2)
      clear K1 A0_1
      clear k2
      go_wp2_with fail
      refine (strides_any _ s w2 (unhide A0_2)).mono ?_
      rw [strN_yes (unhide HM)]
      rintro e w3 ⟨u3, rfl, i3, _, k3⟩
      have K3 := hide ((unhide K2).trans k3)
      have A0_3 := hide ((unhide A0_2).keep k3)
      clear K2 A0_2
      clear k3
      have T_3 := hide i3
      clear i3
      obtain ⟨pT, cT, rfl, HT⟩ := (unhide T_3).opn (n := l0) (by rw [sufs_length]; exact unhide L0)
      go_wp2
      go_loopw [6] (fun c wr => ∃ i : Nat, (i : Int) ≤ prodL s ∧ c = .int .i64 i ∧ Kp w3 wr) (fun c _ => (prodL s - intOf c).toNat)
      case atStart => exact ⟨0, by omega, rfl, Kp.refl _⟩
      case round =>
        obtain ⟨i, hi, rfl, hkp⟩ := hrel
        have HKP := hide hkp
        clear hkp
        by_cases hlt : (i : Int) < prodL s
        · have OK := hide (places_ok (unhide HM) (i := (i : Int)) (by omega) hlt)
          go_wp2_with fail
          refine (place_any _ s i wr ((unhide A0_3).keep (unhide HKP)) (by unfold I64; omega)).mono ?_
          rw [(unhide OK).1]
          rintro e w4 ⟨u4, rfl, i4, _, k4⟩
          obtain ⟨pA, cA, rfl, HA⟩ := i4.opn (n := l0) (by rw [(unhide OK).2.2.1]; exact unhide L0)
          have I4 := hide i4
          have HK4 := hide ((unhide HKP).trans k4)
          clear i4 k4
          go_wp2_with fail
          refine (index_any _ _ s (plc s i) w4 ((unhide A0_3).keep (unhide HK4)) (unhide I4)).mono ?_
          rw [(unhide OK).2.1]
          rintro e w5 ⟨rfl, k5⟩
          have HK5 := hide ((unhide HK4).trans k5)
          have K45 := hide k5
          clear k5
          have OL : Hid ((plc s i).length = s.length) := (unhide OK).2.2.1
          have OI : Hid (idx s (plc s i) = i) := (unhide OK).2.2.2.1
          have ON : Hid (Inside s (plc s i)) := (unhide OK).2.2.2.2
          clear OK I4
          generalize plc s i = A at *
          have hs40 : s.length ≤ 40 := by have := unhide L0; omega
          have hsl : s.length ≤ l0 := by have := unhide L0; omega
          have hls : l0 ≤ s.length := by have := unhide L0; omega
          go_wp2
          go_loopw [8, 9] (fun t c wx => ∃ j : Nat, j ≤ l0 ∧ c = .int .i64 j ∧ t = .int .i64 (idx s A - idx (s.drop j) (A.drop j)) ∧ Kp w5 wx) (fun _ c _ => l0 - (intOf c).toNat)
          case atStart => exact ⟨0, Nat.zero_le _, rfl, by simp, Kp.refl _⟩
          case round =>
            obtain ⟨j, hj, rfl, rfl, hkx⟩ := hrel
            have HKX := hide hkx
            clear hkx
            have hP := (may_good (unhide HM)).2
            have b0 := idx_drop_le hP (unhide OL) (unhide ON) j
            have b1 := idx_bounds (unhide OL) (unhide ON)
            have b2 := idx_bounds (s := s.drop j) (a := A.drop j) (by simp [unhide OL]) ((unhide ON).drop j)
            by_cases hjl : j < l0
            · have hjs : j < s.length := by omega
              obtain ⟨bA, oA, rfl, hbA, hcA⟩ := unhide HA (by omega)
              obtain ⟨bT, oT, rfl, hbT, hcT⟩ := unhide HT (by omega)
              have hca := (Below.cell ((unhide K45).trans (unhide HKX)) (p := ⟨bA, oA + j, none⟩) hbA).trans (hcA j (by omega))
              have hct := (Below.cell ((unhide HK5).trans (unhide HKX)) (p := ⟨bT, oT + j, none⟩) hbT).trans (hcT j (by omega))
              rw [sufs_getD s j hjs] at hct
              have D := hide (idx_drop (unhide OL) hjs)
              have b4 := idx_bounds (s := s.drop (j + 1)) (a := A.drop (j + 1)) (by simp [unhide OL]) ((unhide ON).drop (j + 1))
              have b5 := prodL_drop_le hP (j + 1)
              have b6 := prodL_pos (hP.drop (j + 1))
              have b7 := (unhide ON) j hjs
              have b8 := getD_le_prodL hP hjs
              clear hcA hcT hP
              generalize prodL (s.drop (j + 1)) = st at *
              generalize A.getD j 0 = x at *
              have c1 : 0 ≤ x * st := Int.mul_nonneg b7.1 (by omega)
              have c2 : x * st ≤ 4096 := by have := unhide D; have := prodL_drop_le (may_good (unhide HM)).2 j; omega
              have c3 : 0 ≤ idx s A - idx (s.drop j) (A.drop j) := by omega
              have HR : Hid (idx s A - idx (s.drop j) (A.drop j) + x * st = idx s A - idx (s.drop (j + 1)) (A.drop (j + 1))) := by have := unhide D; unfold Hid; omega
              have c4 : idx s A - idx (s.drop j) (A.drop j) ≤ 4096 := by omega
              have b9 : x ≤ 4096 := by omega
              obtain ⟨b10, _⟩ := b7
              clear b0 b1 b2 b4 b5 b8 D
              generalize idx s A - idx (s.drop j) (A.drop j) = n at *
              go_wp2
              go_quiet (fail)
              go_wp2
              go_roundw
              case rel => exact ⟨j + 1, by omega, by go_num, by rw [unhide HR], (unhide HKX).trans (Kp.drewN _ _)⟩
              case measure => simp [intOf]; omega
            · have F : Hid (idx s A - idx (s.drop j) (A.drop j) = i) := by
                rw [List.drop_of_length_le (l := s) (by omega)]; unfold Hid; rw [unhide OI]; simp [idx]
              rw [unhide F]
              clear b0 b1 b2 hP
              go_wp2
              go_roundw
              case rel => exact ⟨i + 1, by omega, by go_num, (unhide HK5).trans (unhide HKX)⟩
              case measure => simp [intOf]; omega
        · have P1 : Hid (plN s (prodL s) = []) := plN_no (.inr (.inr (by omega)))
          have P2 : Hid (plN s (-1) = []) := plN_no (.inr (.inl (by omega)))
          go_wp2_with fail
          refine (place_any _ s (prodL s) wr ((unhide A0_3).keep (unhide HKP)) (by unfold I64; omega)).mono ?_
          rw [unhide P1]
          rintro e w4 ⟨u4, rfl, i4, _, k4⟩
          obtain ⟨pA, cA, rfl, _⟩ := i4.opn (n := 0) rfl
          have HK4 := hide ((unhide HKP).trans k4)
          clear i4 k4
          go_wp2_with fail
          refine (place_any _ s (-1) w4 ((unhide A0_3).keep (unhide HK4)) (by unfold I64; omega)).mono ?_
          rw [unhide P2]
          rintro e w5 ⟨u5, rfl, i5, _, k5⟩
          obtain ⟨pB, cB, rfl, _⟩ := i5.opn (n := 0) rfl
          have HK5 := hide ((unhide HK4).trans k5)
          clear i5 k5
          go_wp2
          go_ret
          exact ⟨rfl, (unhide K3).trans (unhide HK5)⟩
  · go_enter Try.func5, Try.ntmps5
    go_wp2_with fail
    refine (awake_any w).mono ?_
    rintro e w1 ⟨rfl, k1⟩
    go_wp2
    go_ret
    exact ⟨rfl, k1⟩

end Go.Proofs.Ytbomfmdjpoebcaa
