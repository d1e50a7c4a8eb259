
/- The contract of Small at graphs that came in. -/
import Derived.Test.YtliddjpcbhdplaaOpnY
import Derived.Test.YtliddjpcbhdplaaRchZ
import Derived.Laws.BitsLemmas
namespace Go.Proofs.Ytliddjpcbhdplaa
open Go.RowKit

/-- the first m graphs are short -/
def AllS (w : World) (a : Option Addr) (m : Nat) : Prop := ∀ i, i < m → ∀ b off, a = some ⟨b, off, none⟩ → ∀ a' l' c', w.cell? ⟨b, off + i, none⟩ = some (.slice a' l' c') → l' ≤ 4000 ∧ ShortN w a' l'
def RetL (w : World) (a : Option Addr) (len : Nat) (e : Ending) : Prop := ∃ b : Bool, e = .returned (.bool b) ∧ (b = true → len ≤ 40 ∧ AllS w a len)
theorem retL_no {w : World} {a : Option Addr} {len : Nat} {v : Value} (hv : v = .bool false) : RetL w a len (.returned v) := ⟨false, by rw [hv], fun h => by cases h⟩
theorem retL_yes {w : World} {a : Option Addr} {len : Nat} {v : Value} {b : Bool} (hv : v = .bool b) (h : b = true → len ≤ 40 ∧ AllS w a len) : RetL w a len (.returned v) := ⟨b, by rw [hv], h⟩
theorem wrap_in (x : Int) : -9223372036854775808 ≤ IntKind.i64.wrap x ∧ IntKind.i64.wrap x ≤ 9223372036854775807 := by
  rw [IntKind.wrap_i64]
  omega

set_option maxRecDepth 20000 in
set_option maxHeartbeats 8000000 in
theorem smallL_any (len0 cap0 : Nat) (a0 : Option Addr) (w : World) (h : InGraphs w a0 len0 cap0) (hz : ZGraphs w a0 len0) :
    Calls Try.prog 8 #[.slice a0 len0 cap0] w fun e w' => RetL w a0 len0 e ∧ Kp w w' := by
  have HG := hide h
  have HZG := hide hz
  have hzl0 := hz.1
  unfold Zlen at hzl0
  clear h hz
  go_enter Try.func8, Try.ntmps8
  go_wp2
  go_loopw [4, 3] (fun i n wr => ∃ (k : Nat) (z : Int), k ≤ len0 ∧ i = .int .i64 k ∧ n = .int .i64 z ∧ -9223372036854775808 ≤ z ∧ z ≤ 9223372036854775807 ∧ Hid (len0 ≤ 40 → 0 ≤ z ∧ z ≤ k * 140737488355328 ∧ (z ≤ 4000 → AllS w a0 k)) ∧ Hid (Kp w wr)) (fun i _ _ => len0 - (intOf i).toNat)
  case atStart => exact ⟨0, 0, Nat.zero_le _, rfl, rfl, by omega, by omega, fun _ => ⟨by omega, by omega, fun _ i hi => absurd hi (Nat.not_lt_zero _)⟩, Kp.refl w⟩
  case round =>
    obtain ⟨k, z0, hk, rfl, rfl, hz00, hz01, HA, HK⟩ := hrel
    by_cases hlt : k < len0
    · have hkI : (k : Int) < (len0 : Int) := by omega
      obtain ⟨b0, off0, a, len, cap, rfl, hqc, hin0, hzn0⟩ := graphs_one (unhide HG) (unhide HZG) hlt
      have H := hide hin0
      have HZ := hide hzn0
      have hzl := hzn0.1
      unfold Zlen at hzl
      have HQC := hide hqc
      have hqr := (unhide HK).cellT hqc
      have hw1 : ∃ z1, z1 = IntKind.i64.wrap (z0 + (len : Int)) := ⟨_, rfl⟩
      obtain ⟨z1, hz1e⟩ := hw1
      have hwr := wrap_in (z0 + (len : Int))
      rw [← hz1e] at hwr
      obtain ⟨hwr0, hwr1⟩ := hwr
      have HZ1 : Hid (len0 ≤ 40 → z1 = z0 + (len : Int)) := fun h40 => by
        obtain ⟨g1, g2, _⟩ := unhide HA h40
        rw [hz1e, IntKind.wrap_i64]
        omega
      have hz1s := hz1e.symm
      clear hin0 hzn0 hqc hz1e
      go_wp2
      go_loopw [5, 3] (fun i n w3 => ∃ (s : Nat) (z : Int), s ≤ len ∧ i = .int .i64 s ∧ n = .int .i64 z ∧ -9223372036854775808 ≤ z ∧ z ≤ 9223372036854775807 ∧ Hid (len0 ≤ 40 → 0 ≤ z ∧ z ≤ (k + 1) * 140737488355328 ∧ z0 + (len : Int) ≤ z) ∧ Hid (len0 ≤ 40 → z ≤ 4000 → ShortN w a s) ∧ Hid (Kp w w3)) (fun i _ _ => len - (intOf i).toNat)
      case atStart => exact ⟨0, z1, Nat.zero_le _, rfl, by first | rfl | (rw [hz1s]), hwr0, hwr1, fun h40 => (by obtain ⟨g1, g2, _⟩ := unhide HA h40; have g3 := unhide HZ1 h40; omega), fun _ _ b off _ i j hi => absurd hi (Nat.not_lt_zero _), unhide HK⟩
      case round =>
        obtain ⟨s, z, hs, rfl, rfl, hz0, hz1, HLZ, HS, HK3⟩ := hrel
        have hq3 := (unhide HK3).cellT (unhide HQC)
        clear hqr
        by_cases hsl : s < len
        · have hsI : (s : Int) < (len : Int) := by omega
          by_cases hz4 : z ≤ 4000
          · have hin := unhide H
            rcases hin with ⟨_, h0, _⟩ | ⟨x, rfl, h1, h2, h3⟩
            · omega
            obtain ⟨b, off, rfl, hb, hc⟩ := h3 (by omega)
            obtain ⟨vs, hv, op, no, a1, l1, c1, z1, a2, l2, c2, z2, a4, l4, c4, z4, a5, l5, c5, z5, a6, l6, c6, io, ino, e0, e1, e2, e3, e4, e5, e6, -⟩ := hc s hsl
            have hzz := (unhide HZ).2 b off rfl s
            have y1 : Zlen l1 := hzz 1 hsl (by omega) a1 l1 c1 (by rw [hv 1 (by omega), e1])
            have y2 : Zlen l2 := hzz 2 hsl (by omega) a2 l2 c2 (by rw [hv 2 (by omega), e2])
            have y4 : Zlen l4 := hzz 4 hsl (by omega) a4 l4 c4 (by rw [hv 4 (by omega), e4])
            have y5 : Zlen l5 := hzz 5 hsl (by omega) a5 l5 c5 (by rw [hv 5 (by omega), e5])
            have y6 : Zlen l6 := hzz 6 hsl (by omega) a6 l6 c6 (by rw [hv 6 (by omega), e6])
            unfold Zlen at y1 y2 y4 y5 y6
            have cl : ∀ j v, j < 7 → vs j = v → w.cell? ⟨b, off + s * 7 + j, none⟩ = some v := fun j v hj e => by rw [Nat.add_assoc, hv j hj, e]
            have d0 : wr.cell? ⟨b, off + s * 7, none⟩ = some (.int .i64 op) := (unhide HK3).cellT (cl 0 _ (by omega) e0)
            have d1 := (unhide HK3).cellT (cl 1 _ (by omega) e1)
            have d2 := (unhide HK3).cellT (cl 2 _ (by omega) e2)
            have d3 := (unhide HK3).cellT (cl 3 _ (by omega) e3)
            have d4 := (unhide HK3).cellT (cl 4 _ (by omega) e4)
            have d5 := (unhide HK3).cellT (cl 5 _ (by omega) e5)
            have d6 := (unhide HK3).cellT (cl 6 _ (by omega) e6)
            have ka := Kp.alloc wr (.cells #[.int .i64 op, .slice a1 l1 c1, .slice a2 l2 c2, .int .i64 no, .slice a4 l4 c4, .slice a5 l5 c5, .slice a6 l6 c6] 41)
            have HK4 := hide ((unhide HK3).trans ka)
            obtain ⟨q16, hq16⟩ : ∃ q16 : Nat, q16 = l5 / 16 := ⟨_, rfl⟩
            have hq17 : (l5 : Int).tdiv 16 = (q16 : Int) := by rw [hq16]; rfl
            have hq18 : q16 ≤ 17592186044416 := by omega
            have HSh : Hid (len0 ≤ 40 → z + l1 + l2 + l6 + q16 ≤ 4000 → l4 ≤ 40 → l5 ≤ 8192 → ShortN w (some ⟨b, off, none⟩) (s + 1)) := by
              intro g0 g1 g2 g3 b' off' e i j hi hj a' l' c' hcell
              obtain ⟨gz, _, gl⟩ := unhide HLZ g0
              have ga := (unhide HA g0).1
              by_cases hlt : i < s
              · exact unhide HS g0 (by omega) b' off' e i j hlt hj a' l' c' hcell
              · obtain rfl : i = s := by omega
                cases e
                rw [hv j hj] at hcell
                have hcell := Option.some.inj hcell
                match j, hj with
                | 0, _ => rw [e0] at hcell; cases hcell
                | 1, _ => rw [e1] at hcell; cases hcell; omega
                | 2, _ => rw [e2] at hcell; cases hcell; omega
                | 3, _ => rw [e3] at hcell; cases hcell
                | 4, _ => rw [e4] at hcell; cases hcell; omega
                | 5, _ => rw [e5] at hcell; cases hcell; omega
                | 6, _ => rw [e6] at hcell; cases hcell; omega
            have HZS := hide HS
            have Hio := hide io
            clear hzz cl hv e0 e1 e2 e3 e4 e5 e6 io ino hc hq16 hb h1 h2 h3 HS
            have hd4 : decide (z ≤ 4000) = true := decide_eq_true hz4
            by_cases h40 : l4 ≤ 40
            · have h40I : ¬ (40 : Int) < (l4 : Int) := by omega
              have h40' : decide ((40 : Int) < (l4 : Int)) = false := decide_eq_false h40I
              go_wp2_with fail
              refine (small_any a4 a5 l4 c4 l5 c5 _ (by omega) (by omega)).mono ?_
              rintro e w5 ⟨rfl, k5⟩
              have HK5 := hide ((unhide HK4).trans k5)
              clear k5 ka HK4 d0 d1 d2 d3 d4 d5 d6
              rw [decide_eq_true h40, Bool.true_and]
              by_cases h81 : l5 ≤ 8192
              · rw [decide_eq_true h81]
                have HS3 : Hid (len0 ≤ 40 → z + l1 + l2 + l6 + q16 ≤ 4000 → ShortN w (some ⟨b, off, none⟩) (s + 1)) := fun g0 g => unhide HSh g0 g h40 h81
                clear HSh
                go_wp2
                go_roundw
                case rel => exact ⟨s + 1, (z + (l1 : Int) + (l2 : Int) + (l6 : Int) + (q16 : Int) : Int), by omega, by go_num, by go_num, by omega, by omega, fun h40 => (by obtain ⟨g1, g2, g3⟩ := unhide HLZ h40; omega), unhide HS3, unhide HK5⟩
                case measure => simp [intOf]; omega
              · rw [decide_eq_false h81]
                go_wp2
                go_ret
                exact ⟨retL_no rfl, unhide HK5⟩
            · have h40I : (40 : Int) < (l4 : Int) := by omega
              have h40' : decide ((40 : Int) < (l4 : Int)) = true := decide_eq_true h40I
              clear HSh
              go_wp2
              go_ret
              exact ⟨retL_no rfl, unhide HK4⟩
          · have hz4' : decide (z ≤ 4000) = false := decide_eq_false hz4
            have HN2 : Hid (len0 ≤ 40 → 0 ≤ z ∧ z ≤ ((k + 1 : Nat) : Int) * 140737488355328 ∧ (z ≤ 4000 → AllS w (some ⟨b0, off0, none⟩) (k + 1))) := fun h40 => by
              obtain ⟨g1, g2, g3⟩ := unhide HLZ h40
              exact ⟨g1, by omega, fun h => absurd h hz4⟩
            go_wp2
            go_roundw
            case rel => exact ⟨k + 1, z, by omega, by go_num, rfl, hz0, hz1, unhide HN2, unhide HK3⟩
            case measure => simp [intOf]; omega
        · obtain rfl : s = len := by omega
          have HN2 : Hid (len0 ≤ 40 → 0 ≤ z ∧ z ≤ ((k + 1 : Nat) : Int) * 140737488355328 ∧ (z ≤ 4000 → AllS w (some ⟨b0, off0, none⟩) (k + 1))) := fun h40 => by
            obtain ⟨g1, g2, g3⟩ := unhide HLZ h40
            obtain ⟨f1, f2, f3⟩ := unhide HA h40
            refine ⟨g1, by omega, fun h i hi b off e a' l' c' hc => ?_⟩
            cases e
            by_cases hik : i < k
            · exact f3 (by omega) i hik b0 off0 rfl a' l' c' hc
            · obtain rfl : i = k := by omega
              have hq := unhide HQC
              rw [hc] at hq
              simp at hq
              obtain ⟨rfl, rfl, rfl⟩ := hq
              exact ⟨by omega, unhide HS h40 h⟩
          go_wp2
          go_roundw
          case rel => exact ⟨k + 1, z, by omega, by go_num, rfl, hz0, hz1, unhide HN2, unhide HK3⟩
          case measure => simp [intOf]; omega
    · obtain rfl : k = len0 := by omega
      by_cases h40 : k ≤ 40
      · have h40I : (k : Int) ≤ 40 := by omega
        have HB2 := hide (unhide HA h40).2.2
        clear HA
        go_wp2
        go_ret
        refine ⟨retL_yes rfl fun hb => ?_, unhide HK⟩
        simp at hb
        exact ⟨h40, unhide HB2 hb⟩
      · have h40I : ¬ (k : Int) ≤ 40 := by omega
        have h40' : decide ((k : Int) ≤ 40) = false := decide_eq_false h40I
        clear HA
        go_wp2
        go_ret
        exact ⟨retL_no rfl, unhide HK⟩

end Go.Proofs.Ytliddjpcbhdplaa
