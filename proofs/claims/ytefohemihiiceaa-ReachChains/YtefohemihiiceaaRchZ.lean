
/- The contract of Small at a list of one graph that came in. -/
import Derived.Test.YtefohemihiiceaaOpnZ
import Derived.Test.YtefohemihiiceaaRchP
namespace Go.Proofs.Ytefohemihiiceaa
open Go.RowKit

/-- the rows of the first m nodes are not long -/
def ShortN (w : World) (a : Option Addr) (m : Nat) : Prop := ∀ b off, a = some ⟨b, off, none⟩ → ∀ i j, i < m → j < 7 → ∀ a' l' c', w.cell? ⟨b, off + (i * 7 + j), none⟩ = some (.slice a' l' c') → l' ≤ 8192
def RetS (w : World) (a : Option Addr) (len : Nat) (e : Ending) : Prop := ∃ b : Bool, e = .returned (.bool b) ∧ (b = true → len ≤ 4000 ∧ ShortN w a len)
theorem retS_no {w : World} {a : Option Addr} {len : Nat} {v : Value} (hv : v = .bool false) : RetS w a len (.returned v) := ⟨false, by rw [hv], fun h => by cases h⟩
theorem retS_yes {w : World} {a : Option Addr} {len : Nat} {v : Value} {b : Bool} (hv : v = .bool b) (h : b = true → len ≤ 4000 ∧ ShortN w a len) : RetS w a len (.returned v) := ⟨b, by rw [hv], h⟩

set_option maxRecDepth 20000 in
set_option maxHeartbeats 8000000 in
theorem small1_any (q len cap : Nat) (a : Option Addr) (w : World) (hq : w.cell? ⟨q, 0, none⟩ = some (.slice a len cap)) (h : InNodes w a len cap) (hz : ZNodes w a len) :
    Calls Try.prog 9 #[.slice (some ⟨q, 0, none⟩) 1 1] w fun e w' => RetS w a len e ∧ Kp w w' := by
  have H := hide h
  have HZ := hide hz
  have hzl := hz.1
  unfold Zlen at hzl
  clear h hz
  go_enter Try.func9, Try.ntmps9
  go_wp2
  go_loopw [4, 3] (fun i n wr => ∃ (k : Nat) (z : Int), k ≤ 1 ∧ i = .int .i64 k ∧ n = .int .i64 z ∧ 0 ≤ z ∧ z ≤ 140737488355328 ∧ Hid (k = 0 → z = 0) ∧ Hid (k = 1 → (len : Int) ≤ z ∧ (z ≤ 4000 → ShortN w a len)) ∧ Hid (Kp w wr)) (fun i _ _ => 1 - (intOf i).toNat)
  case atStart => exact ⟨0, 0, by omega, rfl, rfl, by omega, by omega, fun _ => rfl, by unfold Hid; omega, Kp.refl w⟩
  case round =>
    obtain ⟨k, z, hk, rfl, rfl, hz0, hz1, HA, HB, HK⟩ := hrel
    by_cases hlt : k < 1
    · obtain rfl : k = 0 := by omega
      obtain rfl : z = 0 := unhide HA rfl
      have hqr := (unhide HK).cellT hq
      have ek : ((0 : Nat) : Int) = 0 := rfl
      rw [ek]
      clear HA HB ek
      go_wp2
      go_loopw [5, 3] (fun i n w3 => ∃ (s : Nat) (z : Int), s ≤ len ∧ i = .int .i64 s ∧ n = .int .i64 z ∧ 0 ≤ z ∧ z ≤ 140737488355328 ∧ (len : Int) ≤ z ∧ Hid (z ≤ 4000 → ShortN w a s) ∧ Hid (Kp w w3)) (fun i _ _ => len - (intOf i).toNat)
      case atStart => exact ⟨0, len, Nat.zero_le _, rfl, rfl, by omega, by omega, by omega, fun _ b off _ i j hi => absurd hi (Nat.not_lt_zero _), unhide HK⟩
      case round =>
        obtain ⟨s, z, hs, rfl, rfl, hz0, hz1, hlz, HS, HK3⟩ := hrel
        have hq3 := (unhide HK3).cellT hq
        clear hqr
        by_cases hsl : s < len
        · have hsI : (s : Int) < (len : Int) := by omega
          by_cases hz4 : z ≤ 4000
          · have hin := unhide H
            rcases hin with ⟨_, h0, _⟩ | ⟨x, rfl, h1, h2, h3⟩
            · omega
            obtain ⟨b, off, rfl, hb, hc⟩ := h3 (by omega)
            obtain ⟨vs, hv, op, no, a1, l1, c1, z1, a2, l2, c2, z2, a4, l4, c4, z4, a5, l5, c5, z5, a6, l6, c6, io, ino, e0, e1, e2, e3, e4, e5, e6, -⟩ := hc s hsl
            have hzz := (unhide HZ).2 b off rfl s
            have y1 : Zlen l1 := hzz 1 hsl (by omega) a1 l1 c1 (by rw [hv 1 (by omega), e1])
            have y2 : Zlen l2 := hzz 2 hsl (by omega) a2 l2 c2 (by rw [hv 2 (by omega), e2])
            have y4 : Zlen l4 := hzz 4 hsl (by omega) a4 l4 c4 (by rw [hv 4 (by omega), e4])
            have y5 : Zlen l5 := hzz 5 hsl (by omega) a5 l5 c5 (by rw [hv 5 (by omega), e5])
            have y6 : Zlen l6 := hzz 6 hsl (by omega) a6 l6 c6 (by rw [hv 6 (by omega), e6])
            unfold Zlen at y1 y2 y4 y5 y6
            have cl : ∀ j v, j < 7 → vs j = v → w.cell? ⟨b, off + s * 7 + j, none⟩ = some v := fun j v hj e => by rw [Nat.add_assoc, hv j hj, e]
            have d0 : wr.cell? ⟨b, off + s * 7, none⟩ = some (.int .i64 op) := (unhide HK3).cellT (cl 0 _ (by omega) e0)
            have d1 := (unhide HK3).cellT (cl 1 _ (by omega) e1)
            have d2 := (unhide HK3).cellT (cl 2 _ (by omega) e2)
            have d3 := (unhide HK3).cellT (cl 3 _ (by omega) e3)
            have d4 := (unhide HK3).cellT (cl 4 _ (by omega) e4)
            have d5 := (unhide HK3).cellT (cl 5 _ (by omega) e5)
            have d6 := (unhide HK3).cellT (cl 6 _ (by omega) e6)
            have ka := Kp.alloc wr (.cells #[.int .i64 op, .slice a1 l1 c1, .slice a2 l2 c2, .int .i64 no, .slice a4 l4 c4, .slice a5 l5 c5, .slice a6 l6 c6] 47)
            have HK4 := hide ((unhide HK3).trans ka)
            obtain ⟨q16, hq16⟩ : ∃ q16 : Nat, q16 = l5 / 16 := ⟨_, rfl⟩
            have hq17 : (l5 : Int).tdiv 16 = (q16 : Int) := by rw [hq16]; rfl
            have hq18 : q16 ≤ 17592186044416 := by omega
            have HSh : Hid (z + l1 + l2 + l6 + q16 ≤ 4000 → l4 ≤ 40 → l5 ≤ 8192 → ShortN w (some ⟨b, off, none⟩) (s + 1)) := by
              intro g1 g2 g3 b' off' e i j hi hj a' l' c' hcell
              by_cases hlt : i < s
              · exact unhide HS (by omega) b' off' e i j hlt hj a' l' c' hcell
              · obtain rfl : i = s := by omega
                cases e
                rw [hv j hj] at hcell
                have hcell := Option.some.inj hcell
                match j, hj with
                | 0, _ => rw [e0] at hcell; cases hcell
                | 1, _ => rw [e1] at hcell; cases hcell; omega
                | 2, _ => rw [e2] at hcell; cases hcell; omega
                | 3, _ => rw [e3] at hcell; cases hcell
                | 4, _ => rw [e4] at hcell; cases hcell; omega
                | 5, _ => rw [e5] at hcell; cases hcell; omega
                | 6, _ => rw [e6] at hcell; cases hcell; omega
            have HZS := hide HS
            have Hio := hide io
            clear hzz cl hv e0 e1 e2 e3 e4 e5 e6 io ino hc hq16 hb h1 h2 h3 HS
            have hd4 : decide (z ≤ 4000) = true := decide_eq_true hz4
            by_cases h40 : l4 ≤ 40
            · have h40I : ¬ (40 : Int) < (l4 : Int) := by omega
              have h40' : decide ((40 : Int) < (l4 : Int)) = false := decide_eq_false h40I
              go_wp2_with fail
              refine (small_any a4 a5 l4 c4 l5 c5 _ (by omega) (by omega)).mono ?_
              rintro e w5 ⟨rfl, k5⟩
              have HK5 := hide ((unhide HK4).trans k5)
              clear k5 ka HK4 d0 d1 d2 d3 d4 d5 d6
              rw [decide_eq_true h40, Bool.true_and]
              by_cases h81 : l5 ≤ 8192
              · rw [decide_eq_true h81]
                have HS3 : Hid (z + l1 + l2 + l6 + q16 ≤ 4000 → ShortN w (some ⟨b, off, none⟩) (s + 1)) := fun g => unhide HSh g h40 h81
                clear HSh
                go_wp2
                go_roundw
                case rel => exact ⟨s + 1, (z + (l1 : Int) + (l2 : Int) + (l6 : Int) + (q16 : Int) : Int), by omega, by go_num, by go_num, by omega, by omega, by omega, unhide HS3, unhide HK5⟩
                case measure => simp [intOf]; omega
              · rw [decide_eq_false h81]
                go_wp2
                go_ret
                exact ⟨retS_no rfl, unhide HK5⟩
            · have h40I : (40 : Int) < (l4 : Int) := by omega
              have h40' : decide ((40 : Int) < (l4 : Int)) = true := decide_eq_true h40I
              clear HSh
              go_wp2
              go_ret
              exact ⟨retS_no rfl, unhide HK4⟩
          · have hz4' : decide (z ≤ 4000) = false := decide_eq_false hz4
            have HS2 : Hid ((len : Int) ≤ z ∧ (z ≤ 4000 → ShortN w a len)) := ⟨hlz, fun h => absurd h hz4⟩
            go_wp2
            go_roundw
            case rel => exact ⟨1, z, by omega, by go_num, rfl, hz0, hz1, by unfold Hid; omega, fun _ => unhide HS2, unhide HK3⟩
            case measure => simp [intOf]
        · obtain rfl : s = len := by omega
          have HS2 : Hid ((s : Int) ≤ z ∧ (z ≤ 4000 → ShortN w a s)) := ⟨hlz, unhide HS⟩
          go_wp2
          go_roundw
          case rel => exact ⟨1, z, by omega, by go_num, rfl, hz0, hz1, by unfold Hid; omega, fun _ => unhide HS2, unhide HK3⟩
          case measure => simp [intOf]
    · obtain rfl : k = 1 := by omega
      have HB2 := hide (unhide HB rfl)
      clear HA HB
      go_wp2
      go_ret
      refine ⟨retS_yes rfl fun hb => ?_, unhide HK⟩
      simp at hb
      exact ⟨by have := (unhide HB2).1; omega, (unhide HB2).2 hb⟩

end Go.Proofs.Ytefohemihiiceaa
