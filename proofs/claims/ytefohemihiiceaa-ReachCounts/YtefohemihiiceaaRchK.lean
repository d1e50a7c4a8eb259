
/- The document's word on whether inputs stand below their nodes. -/
import Derived.Test.YtefohemihiiceaaRchJ
namespace Go.Proofs.Ytefohemihiiceaa
open Go.RowKit Go.Shelf

set_option maxRecDepth 20000 in
set_option maxHeartbeats 4000000 in
theorem sound_any (a : Option Addr) (c : Nat) (ns : List Nd) (w : World) (h : Nodes w (.slice a ns.length c) ns) :
    Calls Try.prog 18 #[.agg #[.slice a ns.length c]] w fun e w' => RetB e (SoundN ns) ∧ Kp w w' := by
  have hroom := h.room
  have H := hide h
  clear h
  have K0 := hide (Kp.alloc w (.cells #[.slice a ns.length c] 24))
  go_enter Try.func18, Try.ntmps18
  go_wp2
  have c0 : (w.alloc (.cells #[.slice a ns.length c] 24)).cell? ⟨w.heap.size, 0, none⟩ = some (.slice a ns.length c) := (Boxed.new w 24 (.slice a ns.length c)).cell
  generalize World.alloc w _ = w1 at *
  go_loopw [3] (fun i wr => ∃ k : Nat, k ≤ ns.length ∧ i = .int .i64 k ∧ Hid (SoundF k (innF ns)) ∧ wr = w1) (fun i _ => ns.length - (intOf i).toNat)
  case atStart => exact ⟨0, Nat.zero_le _, rfl, fun i hi => absurd hi (Nat.not_lt_zero _), rfl⟩
  case round =>
    obtain ⟨k, hk, rfl, HS, hwr⟩ := hrel
    subst hwr
    by_cases hlt : k < ns.length
    · have hltI : (k : Int) < (ns.length : Int) := by omega
      obtain ⟨b, off, rfl, hb, hnd⟩ := (unhide H).one (unhide K0) hlt
      obtain ⟨a1, c1, d1, hinn⟩ := hnd.inn
      have hri := hinn.room
      have hi : innF ns k = (ns.getD k ndnil).inn := rfl
      have HNS : Hid (∀ s, s < (innF ns k).length → ¬ (0 ≤ (innF ns k).getD s 0 ∧ (innF ns k).getD s 0 < (k : Int)) → ¬ SoundN ns) := fun s hs hh => not_sound hlt hs hh
      have HOK : Hid (okIn k (innF ns k) → SoundF (k + 1) (innF ns)) := fun h2 => soundF_succ (unhide HS) h2
      rw [hi] at HNS HOK
      have I9 := hide hinn
      clear hnd hinn hi
      generalize (ns.getD k ndnil).inn = xs at *
      go_wp2
      go_loopw [4] (fun i w3 => ∃ s : Nat, s ≤ xs.length ∧ i = .int .i64 s ∧ Hid (okIn k (xs.take s)) ∧ w3 = wr) (fun i _ => xs.length - (intOf i).toNat)
      case atStart => exact ⟨0, Nat.zero_le _, rfl, fun x hx => by simp at hx, rfl⟩
      case round =>
        obtain ⟨s, hs, rfl, HO, hw3⟩ := hrel
        subst hw3
        by_cases hl2 : s < xs.length
        · have hl2I : (s : Int) < (xs.length : Int) := by omega
          obtain ⟨_, _, _, a9, e9, he9, hc9⟩ := unhide I9
          cases he9
          obtain ⟨b9, o9, rfl, hb9, hc9⟩ := hc9 (by omega)
          have hcx := hc9 s hl2
          have hwx := (unhide I9).getD hl2
          have hns := fun hh => unhide HNS s hl2 hh
          have hok := fun h0 h1 => okIn_succ (unhide HO) hl2 h0 h1
          clear hc9
          generalize xs.getD s 0 = x at *
          by_cases h0 : x < 0
          · have HX := hide (hns (by omega))
            clear hns hok
            go_wp2
            go_ret
            exact ⟨retB_no (unhide HX) rfl, unhide K0⟩
          · by_cases h1 : (k : Int) ≤ x
            · have HX := hide (hns (by omega))
              have h0' : decide (x < 0) = false := decide_eq_false h0
              clear hns hok
              go_wp2
              go_ret
              exact ⟨retB_no (unhide HX) rfl, unhide K0⟩
            · have HX := hide (hok (by omega) (by omega))
              have h0' : decide (x < 0) = false := decide_eq_false h0
              clear hns hok
              go_wp2
              go_roundw
              case rel => exact ⟨s + 1, by omega, by go_num, unhide HX, (by first | rfl | trivial)⟩
              case measure => simp [intOf]; omega
        · obtain rfl : s = xs.length := by omega
          have HO2 : Hid (okIn k xs) := by have h := unhide HO; rw [List.take_length] at h; exact h
          have HS2 := hide (unhide HOK (unhide HO2))
          go_wp2
          go_roundw
          case rel => exact ⟨k + 1, by omega, by go_num, unhide HS2, (by first | rfl | trivial)⟩
          case measure => simp [intOf]; omega
    · obtain rfl : k = ns.length := by omega
      go_wp2
      go_ret
      exact ⟨retB_yes (unhide HS) rfl, unhide K0⟩

end Go.Proofs.Ytefohemihiiceaa
