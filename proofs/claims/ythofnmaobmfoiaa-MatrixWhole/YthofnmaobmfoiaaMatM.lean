
/- Contract of what asks whether two tensors have the same shape and equal numbers. -/
import Derived.Test.YthofnmaobmfoiaaMatF
import Derived.BigQuiet
namespace Go.Proofs.Ythofnmaobmfoiaa
open Go.RowKit

theorem sameB_self (s : List Int) : sameB s s = true := by unfold sameB; simp

set_option maxHeartbeats 1000000 in
theorem equal_any (sv dv sv' dv' : Value) (s : List Int) (d d' : List Nat) (w : World) (hs : Ints w sv s) (hd : Flts w dv d) (hs' : Ints w sv' s) (hd' : Flts w dv' d') (hl : d.length = d'.length) (he : ∀ q, q < d.length → (DD.order (d.getD q 0) (d'.getD q 0) == some .eq) = true) :
    Calls Try.prog 8 #[.agg #[sv, dv], .agg #[sv', dv']] w fun e w' => e = .returned (.bool true) ∧ Kp w w' := by
  have HS := hide hs
  have HS' := hide hs'
  have HE := hide he
  have HL := hide hl
  have hr := hd.room
  obtain ⟨p1, k1, rfl, -⟩ := hs.val
  obtain ⟨p2, k2, rfl, hv⟩ := hd.val
  obtain ⟨p3, k3, rfl, -⟩ := hs'.val
  obtain ⟨p4, k4, rfl, hv'⟩ := hd'.val
  rw [← hl] at hv' ⊢
  have HV := hide hv
  have HV' := hide hv'
  clear hs hd hs' hd' hl he hv hv'
  have hnn : ((d.length : Int) != (d.length : Int)) = false := by simp
  go_enter Try.func8, Try.ntmps8
  go_wp2_with fail
  obtain ⟨W, hW, x1, x2, k0⟩ := boxes_in w (.slice p1 s.length k1) (.slice p2 d.length k2) (.slice p3 s.length k3) (.slice p4 d.length k4)
  rw [← hW]
  clear hW
  have K0 := hide k0
  have X1 := hide x1
  have X2 := hide x2
  try generalize w.heap.size + 1 = R at x2 X2 ⊢
  try generalize w.heap.size = B at x1 X1 ⊢
  obtain ⟨c0, c1, -, -, -⟩ := x1.o
  obtain ⟨d0, d1, -, -, -⟩ := x2.o
  clear x1 x2 k0
  try go_wp2_with fail
  refine (rsame_any _ _ s s W ((unhide HS).keep (unhide K0)) ((unhide HS').keep (unhide K0))).mono ?_
  rw [sameB_self]
  rintro e w1 ⟨rfl, k1'⟩
  clear c0 c1 d0 d1
  have K1 := hide k1'
  obtain ⟨c0, c1, -, -, -⟩ := ((unhide X1).keep k1').o
  obtain ⟨d0, d1, -, -, -⟩ := ((unhide X2).keep k1').o
  clear k1'
  go_wp2_with fail
  clear c0 c1 d0 d1
  go_loopw [5] (fun i wr => ∃ k : Nat, k ≤ d.length ∧ i = .int .i64 k ∧ Hid (Kp W wr)) (fun i _ => d.length - (intOf i).toNat)
  case atStart => exact ⟨0, Nat.zero_le _, rfl, unhide K1⟩
  case round wr =>
    obtain ⟨k, hk, rfl, KR⟩ := hrel
    obtain ⟨c0, c1, -, -, -⟩ := ((unhide X1).keep (unhide KR)).o
    obtain ⟨d0, d1, -, -, -⟩ := ((unhide X2).keep (unhide KR)).o
    have KK := hide ((unhide K0).trans (unhide KR))
    by_cases hlt : k < d.length
    · obtain ⟨b, off, rfl, hb, hc⟩ := unhide HV (by omega)
      obtain ⟨b', off', rfl, hb', hc'⟩ := unhide HV' (by omega)
      have hck := (Below.cell (unhide KK) (p := ⟨b, off + k, none⟩) hb).trans (hc k hlt)
      have hck' := (Below.cell (unhide KK) (p := ⟨b', off' + k, none⟩) hb').trans (hc' k hlt)
      have hq := unhide HE k hlt
      have hn : (FloatKind.f64.format.order (d.getD k 0) (d'.getD k 0) != some .eq) = false := by
        have : (FloatKind.f64.format.order (d.getD k 0) (d'.getD k 0) == some .eq) = true := hq
        rw [bne, this]
        rfl
      clear hc hb hc' hb' hq
      generalize d.getD k 0 = x at *
      generalize d'.getD k 0 = y at *
      have hkI : (k : Int) < (d.length : Int) := by omega
      go_wp2
      go_quiet (fail)
      go_wp2
      go_roundw
      case rel => exact ⟨k + 1, by omega, by go_num, (unhide KR).trans (Kp.drewN _ _)⟩
      case measure => simp [intOf]; omega
    · go_wp2
      go_ret
      exact ⟨rfl, unhide KK⟩

end Go.Proofs.Ythofnmaobmfoiaa
