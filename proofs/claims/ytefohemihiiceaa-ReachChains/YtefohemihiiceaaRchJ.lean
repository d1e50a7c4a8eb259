
/- Whether each input stands below its node: the program's word, the document's. -/
import Derived.Test.YtefohemihiiceaaRchI
import Derived.Test.YtefohemihiiceaaBoolB
namespace Go.Proofs.Ytefohemihiiceaa
open Go.RowKit Go.Shelf

/-- each input of each node stands below it -/
def RetB (e : Ending) (p : Prop) : Prop := ∃ b : Bool, e = .returned (.bool b) ∧ (b = true ↔ p)
theorem retB_no {p : Prop} {v : Value} (h : ¬ p) (hv : v = .bool false) : RetB (.returned v) p := ⟨false, by rw [hv], fun h => (by cases h), fun h2 => absurd h2 h⟩
theorem retB_yes {p : Prop} {v : Value} (h : p) (hv : v = .bool true) : RetB (.returned v) p := ⟨true, by rw [hv], fun _ => h, fun _ => rfl⟩
def SoundN (ns : List Nd) : Prop := SoundF ns.length (innF ns)
def okIn (k : Nat) (xs : List Int) : Prop := ∀ x ∈ xs, 0 ≤ x ∧ x < (k : Int)
theorem soundF_succ {k : Nat} {f : Nat → List Int} (h : SoundF k f) (h2 : okIn k (f k)) : SoundF (k + 1) f := by
  intro i hi
  by_cases e : i = k
  · subst e; exact h2
  · exact h i (by omega)
theorem okIn_succ {k s : Nat} {xs : List Int} (h : okIn k (xs.take s)) (hs : s < xs.length) (h0 : 0 ≤ xs.getD s 0) (h1 : xs.getD s 0 < (k : Int)) : okIn k (xs.take (s + 1)) := by
  intro x hx
  rw [← List.take_append_getElem hs] at hx
  have e : xs.getD s 0 = xs[s] := by simp [hs]
  rcases List.mem_append.1 hx with hx | hx
  · exact h x hx
  · simp only [List.mem_cons, List.not_mem_nil, or_false] at hx
    subst hx
    rw [← e]
    exact ⟨h0, h1⟩
theorem not_sound {ns : List Nd} {k s : Nat} (hk : k < ns.length) (hs : s < (innF ns k).length) (h : ¬ (0 ≤ (innF ns k).getD s 0 ∧ (innF ns k).getD s 0 < (k : Int))) : ¬ SoundN ns := fun hh => by
  have e : (innF ns k).getD s 0 = (innF ns k)[s] := by simp [hs]
  rw [e] at h
  exact h (hh k hk _ (List.getElem_mem hs))

set_option maxRecDepth 20000 in
set_option maxHeartbeats 4000000 in
theorem well_any (a : Option Addr) (c : Nat) (ns : List Nd) (w : World) (h : Nodes w (.slice a ns.length c) ns) :
    Calls Try.prog 16 #[.agg #[.slice a ns.length c]] w fun e w' => RetB e (SoundN ns) ∧ Kp w w' := by
  have hroom := h.room
  have H := hide h
  clear h
  have K0 := hide (Kp.alloc w (.cells #[.slice a ns.length c] 24))
  go_enter Try.func16, Try.ntmps16
  go_wp2
  go_loopw [10] (fun i wr => ∃ k : Nat, k ≤ ns.length ∧ i = .int .i64 k ∧ Hid (SoundF k (innF ns)) ∧ Hid (Kp w wr)) (fun i _ => ns.length - (intOf i).toNat)
  case atStart => exact ⟨0, Nat.zero_le _, rfl, fun i hi => absurd hi (Nat.not_lt_zero _), unhide K0⟩
  case round =>
    obtain ⟨k, hk, rfl, HS, KR⟩ := hrel
    by_cases hlt : k < ns.length
    · have hltI : (k : Int) < (ns.length : Int) := by omega
      obtain ⟨b, off, rfl, hb, hnd⟩ := (unhide H).one (unhide KR) hlt
      have c0 := hnd.op
      have c3 := hnd.no
      obtain ⟨a1, c1, d1, hinn⟩ := hnd.inn
      obtain ⟨a2, c2, d2, -⟩ := hnd.tt
      obtain ⟨a4, c4, d4, -⟩ := hnd.s
      obtain ⟨a5, c5, d5, -⟩ := hnd.d
      obtain ⟨a6, c6, d6, -⟩ := hnd.hk
      have hri := hinn.room
      have hi : innF ns k = (ns.getD k ndnil).inn := rfl
      have HNS : Hid (∀ s, s < (innF ns k).length → ¬ (0 ≤ (innF ns k).getD s 0 ∧ (innF ns k).getD s 0 < (k : Int)) → ¬ SoundN ns) := fun s hs hh => not_sound hlt hs hh
      have HOK : Hid (okIn k (innF ns k) → SoundF (k + 1) (innF ns)) := fun h2 => soundF_succ (unhide HS) h2
      rw [hi] at HNS HOK
      have I1 := hide hinn
      have k9 := hide ((unhide KR).trans (Kp.alloc wr (.cells #[.int .i64 (ns.getD k ndnil).op, .slice a1 (ns.getD k ndnil).inn.length c1, .slice a2 (ns.getD k ndnil).tt.length c2, .int .i64 (ns.getD k ndnil).no, .slice a4 (ns.getD k ndnil).s.length c4, .slice a5 (ns.getD k ndnil).d.length c5, .slice a6 (ns.getD k ndnil).hk.length c6] 47)))
      have I9 := hide ((unhide I1).keep (Kp.alloc wr (.cells #[.int .i64 (ns.getD k ndnil).op, .slice a1 (ns.getD k ndnil).inn.length c1, .slice a2 (ns.getD k ndnil).tt.length c2, .int .i64 (ns.getD k ndnil).no, .slice a4 (ns.getD k ndnil).s.length c4, .slice a5 (ns.getD k ndnil).d.length c5, .slice a6 (ns.getD k ndnil).hk.length c6] 47)))
      clear hnd hinn hi I1
      generalize ns.getD k ndnil = nd at *
      generalize nd.inn = xs at *
      go_wp2
      generalize World.alloc wr _ = w1 at *
      go_loopw [18] (fun i w3 => ∃ s : Nat, s ≤ xs.length ∧ i = .int .i64 s ∧ Hid (okIn k (xs.take s)) ∧ w3 = w1) (fun i _ => xs.length - (intOf i).toNat)
      case atStart => exact ⟨0, Nat.zero_le _, rfl, fun x hx => by simp at hx, rfl⟩
      case round =>
        obtain ⟨s, hs, rfl, HO, hw3⟩ := hrel
        subst hw3
        by_cases hl2 : s < xs.length
        · have hl2I : (s : Int) < (xs.length : Int) := by omega
          obtain ⟨_, _, _, a9, e9, he9, hc9⟩ := unhide I9
          cases he9
          obtain ⟨b9, o9, rfl, hb9, hc9⟩ := hc9 (by omega)
          have hcx := hc9 s hl2
          have hwx := (unhide I9).getD hl2
          have hns := fun hh => unhide HNS s hl2 hh
          have hok := fun h0 h1 => okIn_succ (unhide HO) hl2 h0 h1
          clear hc9
          generalize xs.getD s 0 = x at *
          by_cases h0 : x < 0
          · have HX := hide (hns (by omega))
            clear hns hok
            go_wp2
            go_ret
            exact ⟨retB_no (unhide HX) rfl, unhide k9⟩
          · by_cases h1 : (k : Int) ≤ x
            · have HX := hide (hns (by omega))
              have h0' : decide (x < 0) = false := decide_eq_false h0
              clear hns hok
              go_wp2
              go_ret
              exact ⟨retB_no (unhide HX) rfl, unhide k9⟩
            · have HX := hide (hok (by omega) (by omega))
              have h0' : decide (x < 0) = false := decide_eq_false h0
              clear hns hok
              go_wp2
              go_roundw
              case rel => exact ⟨s + 1, by omega, by go_num, unhide HX, (by first | rfl | trivial)⟩
              case measure => simp [intOf]; omega
        · obtain rfl : s = xs.length := by omega
          have HO2 : Hid (okIn k xs) := by have h := unhide HO; rw [List.take_length] at h; exact h
          have HS2 := hide (unhide HOK (unhide HO2))
          go_wp2
          go_roundw
          case rel => exact ⟨k + 1, by omega, by go_num, unhide HS2, unhide k9⟩
          case measure => simp [intOf]; omega
    · obtain rfl : k = ns.length := by omega
      go_wp2
      go_ret
      exact ⟨retB_yes (unhide HS) rfl, unhide KR⟩

end Go.Proofs.Ytefohemihiiceaa
