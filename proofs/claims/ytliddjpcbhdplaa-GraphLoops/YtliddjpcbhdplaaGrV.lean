
/- The contract of short at rows that came in; a list of graphs in memory, its cells. -/
import Derived.Test.YtliddjpcbhdplaaGrT
import Derived.Test.YtliddjpcbhdplaaGrR
import Derived.Test.YtliddjpcbhdplaaGrU
import Derived.Laws.AppendOwn
import Derived.OwnWalk
namespace Go.Proofs.Ytliddjpcbhdplaa
open Go.RowKit

theorem InRowK.keepR {k : IntKind} {w w' : World} {a : Option Addr} {len cap : Nat} {zs : List Int} (h : InRowK k w a len cap zs) (kp : Kp w w') : InRowK k w' a len cap zs := by
  rcases h with h | ⟨x, h1, h2, h3, h4, h5, h6⟩
  · exact .inl h
  · exact .inr ⟨x, h1, h2, h3, h4, fun i hi => kp.cellT (h5 i hi), h6⟩
theorem InRows.keepW {w w' : World} {a : Option Addr} {len cap : Nat} (h : InRows .i64 w a len cap) (k : Kp w w') : InRows .i64 w' a len cap := by
  rcases h with h | ⟨x, h1, h2, h3, h4⟩
  · exact .inl h
  · refine .inr ⟨x, h1, h2, h3, fun hp => ?_⟩
    obtain ⟨b, off, e, hb, hc⟩ := h4 hp
    refine ⟨b, off, e, Nat.lt_of_lt_of_le hb k.size, fun i hi => ?_⟩
    obtain ⟨a', l', c', zs, h5, h6⟩ := hc i hi
    exact ⟨a', l', c', zs, k.cellT h5, h6.keepR k⟩
theorem InRows.oneS {k : IntKind} {w : World} {a : Option Addr} {len cap : Nat} (h : InRows k w a len cap) {i : Nat} (hi : i < len) : ∃ b off a' l' c', a = some ⟨b, off, none⟩ ∧ b < w.heap.size ∧ w.cell? ⟨b, off + i, none⟩ = some (.slice a' l' c') ∧ len ≤ maxLen ∧ l' ≤ maxLen := by
  rcases h with ⟨_, h0, _⟩ | ⟨x, rfl, h1, h2, h3⟩
  · omega
  · obtain ⟨b, off, rfl, hb, hc⟩ := h3 (by omega)
    obtain ⟨a', l', c', zs, h4, h5⟩ := hc i hi
    refine ⟨b, off, a', l', c', rfl, hb, h4, by omega, ?_⟩
    rcases h5 with ⟨_, h6, _⟩ | ⟨_, _, h6, h7, _⟩
    · omega
    · omega

/-- the first m rows have at most forty numbers each -/
def RowsS (w : World) (a : Option Addr) (m : Nat) : Prop := ∀ i, i < m → ∀ b off, a = some ⟨b, off, none⟩ → ∀ a' l' c', w.cell? ⟨b, off + i, none⟩ = some (.slice a' l' c') → l' ≤ 40
def RetW (w : World) (a : Option Addr) (len : Nat) (e : Ending) : Prop := ∃ b : Bool, e = .returned (.bool b) ∧ (b = true → len ≤ 60 ∧ RowsS w a len)
theorem retW_no {w : World} {a : Option Addr} {len : Nat} {v : Value} (hv : v = .bool false) : RetW w a len (.returned v) := ⟨false, by rw [hv], fun h => by cases h⟩
theorem retW_yes {w : World} {a : Option Addr} {len : Nat} {v : Value} {b : Bool} (hv : v = .bool b) (h : b = true → len ≤ 60 ∧ RowsS w a len) : RetW w a len (.returned v) := ⟨b, by rw [hv], h⟩

set_option maxRecDepth 20000 in
set_option maxHeartbeats 4000000 in
theorem short_any (len0 cap0 : Nat) (a0 : Option Addr) (w : World) (h : InRows .i64 w a0 len0 cap0) :
    Calls Try.prog 9 #[.slice a0 len0 cap0] w fun e w' => RetW w a0 len0 e ∧ Kp w w' := by
  have HG := hide h
  have hmx : len0 ≤ 9223372036854775807 := by
    rcases h with ⟨_, h0, _⟩ | ⟨x, _, h1, h2, _⟩
    · omega
    · have h3 := h2
      simp only [maxLen] at h3
      omega
  clear h
  go_enter Try.func9, Try.ntmps9
  go_wp2
  go_loopw [3] (fun i wr => ∃ (k : Nat), k ≤ len0 ∧ i = .int .i64 k ∧ Hid (RowsS w a0 k) ∧ Hid (Kp w wr)) (fun i _ => len0 - (intOf i).toNat)
  case atStart => exact ⟨0, Nat.zero_le _, rfl, fun i hi => absurd hi (Nat.not_lt_zero _), Kp.refl w⟩
  case round =>
    obtain ⟨k, hk, rfl, HA, HK⟩ := hrel
    by_cases hlt : k < len0
    · have hkI : (k : Int) < (len0 : Int) := by omega
      obtain ⟨b0, off0, a, len, cap, rfl, hblt, hqc, _, hlm⟩ := (unhide HG).oneS hlt
      have hqr := (unhide HK).cellT hqc
      have hbr := Nat.lt_of_lt_of_le hblt (unhide HK).size
      have HQC := hide hqc
      have hlm2 : len ≤ 9223372036854775807 := by simp only [maxLen] at hlm; omega
      clear hqc hlm hblt
      by_cases h40 : len ≤ 40
      · have h40I : ¬ (40 : Int) < (len : Int) := by omega
        have HA2 : Hid (RowsS w (some ⟨b0, off0, none⟩) (k + 1)) := fun i hi b off e a' l' c' hc => by
          cases e
          by_cases e2 : i < k
          · exact unhide HA i e2 b0 off0 rfl a' l' c' hc
          · obtain rfl : i = k := by omega
            have := unhide HQC
            rw [hc] at this
            simp at this
            omega
        go_wp2
        go_roundw
        case rel => exact ⟨k + 1, by omega, by go_num, unhide HA2, unhide HK⟩
        case measure => simp [intOf]; omega
      · have h40I : (40 : Int) < (len : Int) := by omega
        go_wp2
        go_ret
        exact ⟨retW_no rfl, unhide HK⟩
    · obtain rfl : k = len0 := by omega
      by_cases h60 : k ≤ 60
      · have h60I : (k : Int) ≤ 60 := by omega
        go_wp2
        go_ret
        exact ⟨retW_yes rfl fun _ => ⟨h60, unhide HA⟩, unhide HK⟩
      · have h60I : ¬ (k : Int) ≤ 60 := by omega
        have h60' : decide ((k : Int) ≤ 60) = false := decide_eq_false h60I
        go_wp2
        go_ret
        exact ⟨retW_no rfl, unhide HK⟩
theorem rows_of {w : World} {a : Option Addr} {len cap : Nat} (h : InRows .i64 w a len cap) (hl : len ≤ 60) (hs : RowsS w a len) : ∃ ls : List (List Int), ls.length = len ∧ Rows2 w (.slice a len cap) ls :=
  h.rows2 (by omega) fun b off e i hi a' l' c' hc => Nat.le_trans (hs i hi b off e a' l' c' hc) (by omega)

end Go.Proofs.Ytliddjpcbhdplaa
