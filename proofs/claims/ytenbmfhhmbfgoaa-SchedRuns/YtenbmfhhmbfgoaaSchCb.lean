
/- Whether tasks are few: the contract of Small. -/
import Derived.Test.YtenbmfhhmbfgoaaOpnD
namespace Go.Proofs.Ytenbmfhhmbfgoaa
open Go.RowKit

theorem cell_of {w w' : World} (k : Kp w w') {p : Addr} {v : Value} (h : w.cell? p = some v) : w'.cell? p = some v := (Below.cell k (p := p) (World.block_lt_of_cell? w p h)).trans h
def lenD (ds : List (Value × List (Value × List Int × Int))) (i : Nat) : Nat := ((ds.take i).map fun d => d.2.length).sum
theorem lenD_succ (ds : List (Value × List (Value × List Int × Int))) {i : Nat} (hi : i < ds.length) : lenD ds (i + 1) = lenD ds i + (ds.getD i dz).2.length := by
  unfold lenD
  rw [List.take_succ_eq_append_getElem hi, List.map_append, List.sum_append]
  have : ds.getD i dz = ds[i] := by simp [hi]
  rw [this]
  simp
theorem capD_lenD : ∀ (ds : List (Value × List (Value × List Int × Int))), capD ds = lenD ds ds.length + ds.length
  | [] => rfl
  | d :: r => by
    have := capD_lenD r
    unfold capD lenD at this ⊢
    simp at this ⊢
    omega
theorem capD_take (ds : List (Value × List (Value × List Int × Int))) (i : Nat) : capD (ds.take i) ≤ capD ds := by
  have e : capD ds = capD (ds.take i) + capD (ds.drop i) := by
    unfold capD
    rw [← List.sum_append, ← List.map_append, List.take_append_drop]
  omega
def RetSm (ds : List (Value × List (Value × List Int × Int))) (e : Ending) : Prop := ∃ b : Bool, e = .returned (.bool b) ∧ Hid (b = true → ds.length ≤ 40 ∧ capD ds ≤ 2040)
theorem retSm_no {ds : List (Value × List (Value × List Int × Int))} {v : Value} (hv : v = .bool false) : RetSm ds (.returned v) := ⟨false, by rw [hv], fun h => by cases h⟩
theorem retSm_yes {ds : List (Value × List (Value × List Int × Int))} {v : Value} {b : Bool} (hv : v = .bool b) (h : b = true → ds.length ≤ 40 ∧ capD ds ≤ 2040) : RetSm ds (.returned v) := ⟨b, by rw [hv], h⟩

set_option maxRecDepth 20000 in
set_option maxHeartbeats 8000000 in
theorem smallD_few (a : Option Addr) (cap : Nat) (ds : List (Value × List (Value × List Int × Int))) (w : World) (h : TasksAt w (.slice a ds.length cap) ds) (h40 : ds.length ≤ 40) :
    Calls Try.prog 10 #[.slice a ds.length cap] w fun e w' => RetSm ds e ∧ Kp w w' := by
  have H := hide h
  clear h
  go_enter Try.func10, Try.ntmps10
  go_wp2
  go_loopw [4, 3] (fun i n wr => ∃ (k : Nat) (z : Int), k ≤ ds.length ∧ i = .int .i64 k ∧ n = .int .i64 z ∧ 0 ≤ z ∧ z ≤ k * 562949953421312 ∧ Hid ((lenD ds k : Int) ≤ z) ∧ Hid (Kp w wr)) (fun i _ _ => ds.length - (intOf i).toNat)
  case atStart => exact ⟨0, 0, by omega, rfl, rfl, by omega, by omega, by unfold Hid lenD; simp, Kp.refl w⟩
  case round =>
    obtain ⟨k, z, hk, rfl, rfl, hz0, hz1, HB, HK⟩ := hrel
    by_cases hlt : k < ds.length
    · have hltI : (k : Int) < (ds.length : Int) := by omega
      obtain ⟨-, a', cap', e, hh⟩ := unhide H
      cases e
      obtain ⟨b, off, rfl, hb, hc⟩ := hh (by omega)
      obtain ⟨c1, c2, c3, c4⟩ := hc k hlt
      have hsx := lenD_succ ds hlt
      generalize hd : ds.getD k dz = d at *
      obtain ⟨Lv, l⟩ := d
      simp only at c1 c2 c3 c4 hsx
      obtain ⟨-, al, capl, rfl, hl⟩ := c2
      have q1 := cell_of (unhide HK) c1
      have Q1 := hide c1
      have HL := hide hl
      have HC4 := hide c4
      have HS : Hid ((lenD ds (k + 1) : Int) ≤ z + (l.length : Int)) := by
        have := unhide HB
        unfold Hid
        omega
      have hb1 : (k : Int) * 562949953421312 ≤ 40 * 562949953421312 := by omega
      clear hl c4 hsx hd hc hh HB c1 hb
      go_wp2
      go_loopw [5, 3] (fun j n w3 => ∃ (s : Nat) (y : Int), s ≤ l.length ∧ j = .int .i64 s ∧ n = .int .i64 y ∧ z + (l.length : Int) ≤ y ∧ (y ≤ z + (l.length : Int) ∨ y ≤ 140737488353232) ∧ Hid (Kp w w3)) (fun j _ _ => l.length - (intOf j).toNat)
      case atStart => exact ⟨0, z + (l.length : Int), Nat.zero_le _, rfl, by go_num, by omega, by omega, unhide HK⟩
      case round =>
        obtain ⟨s, y, hs, rfl, rfl, hy0, hy1, HK3⟩ := hrel
        have p1 := cell_of (unhide HK3) (unhide Q1)
        by_cases hsl : s < l.length
        · have hslI : (s : Int) < (l.length : Int) := by omega
          by_cases hy4 : y ≤ 2000
          · obtain ⟨b2, off2, rfl, hb2, hc2⟩ := unhide HL (by omega)
            obtain ⟨g1, -, ⟨-, -, av, capv, ev, -⟩, -, -⟩ := hc2 s hsl
            rw [ev] at g1
            have hw4 := unhide HC4 s
            generalize (l.getD s d0).2.1.length = wl at *
            have p2 := cell_of (unhide HK3) g1
            clear hc2 ev g1 hb2 HC4
            go_wp2
            go_roundw
            case rel => exact ⟨s + 1, y + (wl : Int), by omega, by go_num, by go_num, by omega, .inr (by omega), unhide HK3⟩
            case measure => simp [intOf]; omega
          · go_wp2
            go_roundw
            case rel => exact ⟨k + 1, y, by omega, by go_num, by go_num, by omega, by omega, by have := unhide HS; unfold Hid; omega, unhide HK3⟩
            case measure => simp [intOf]; omega
        · obtain rfl : s = l.length := by omega
          go_wp2
          go_roundw
          case rel => exact ⟨k + 1, y, by omega, by go_num, by go_num, by omega, by omega, by have := unhide HS; unfold Hid; omega, unhide HK3⟩
          case measure => simp [intOf]; omega
    · obtain rfl : k = ds.length := by omega
      have h40I : (ds.length : Int) ≤ 40 := by omega
      have HR : Hid (z ≤ 2000 → ds.length ≤ 40 ∧ capD ds ≤ 2040) := fun hz => ⟨h40, by have := unhide HB; rw [capD_lenD]; omega⟩
      clear HB
      go_wp2
      go_ret
      refine ⟨retSm_yes rfl fun hb => ?_, unhide HK⟩
      exact unhide HR (by simpa using hb)

set_option maxRecDepth 20000 in
set_option maxHeartbeats 8000000 in
theorem smallD_many (a : Option Addr) (cap : Nat) (ds : List (Value × List (Value × List Int × Int))) (w : World) (h : TasksAt w (.slice a ds.length cap) ds) (h40 : ¬ ds.length ≤ 40) :
    Calls Try.prog 10 #[.slice a ds.length cap] w fun e w' => RetSm ds e ∧ Kp w w' := by
  have H := hide h
  have hlen := h.1
  clear h
  go_enter Try.func10, Try.ntmps10
  go_wp2
  go_loopw [4, 3] (fun i n wr => ∃ (k : Nat) (z : Int), k ≤ ds.length ∧ i = .int .i64 k ∧ n = .int .i64 z ∧ I64 z ∧ Hid (Kp w wr)) (fun i _ _ => ds.length - (intOf i).toNat)
  case atStart => exact ⟨0, 0, by omega, rfl, rfl, by unfold I64; omega, Kp.refl w⟩
  case round =>
    obtain ⟨k, z, hk, rfl, rfl, hz, HK⟩ := hrel
    by_cases hlt : k < ds.length
    · have hltI : (k : Int) < (ds.length : Int) := by omega
      obtain ⟨-, a', cap', e, hh⟩ := unhide H
      cases e
      obtain ⟨b, off, rfl, hb, hc⟩ := hh (by omega)
      obtain ⟨c1, c2, c3, c4⟩ := hc k hlt
      have hsx := lenD_succ ds hlt
      generalize hd : ds.getD k dz = d at *
      obtain ⟨Lv, l⟩ := d
      simp only at c1 c2 c3 c4 hsx
      obtain ⟨-, al, capl, rfl, hl⟩ := c2
      have q1 := cell_of (unhide HK) c1
      have Q1 := hide c1
      have HL := hide hl
      have HC4 := hide c4
      clear hl c4 hsx hd hc hh c1 hb
      go_wp2
      go_loopw [5, 3] (fun j n w3 => ∃ (s : Nat) (y : Int), s ≤ l.length ∧ j = .int .i64 s ∧ n = .int .i64 y ∧ I64 y ∧ Hid (Kp w w3)) (fun j _ _ => l.length - (intOf j).toNat)
      case atStart =>
        refine ⟨0, _, Nat.zero_le _, rfl, rfl, ?_, unhide HK⟩
        unfold I64 wrap64
        omega
      case round =>
        obtain ⟨s, y, hs, rfl, rfl, hy, HK3⟩ := hrel
        have p1 := cell_of (unhide HK3) (unhide Q1)
        by_cases hsl : s < l.length
        · have hslI : (s : Int) < (l.length : Int) := by omega
          by_cases hy4 : y ≤ 2000
          · obtain ⟨b2, off2, rfl, hb2, hc2⟩ := unhide HL (by omega)
            obtain ⟨g1, -, ⟨-, -, av, capv, ev, -⟩, -, -⟩ := hc2 s hsl
            rw [ev] at g1
            have hw4 := unhide HC4 s
            generalize (l.getD s d0).2.1.length = wl at *
            have p2 := cell_of (unhide HK3) g1
            have hy0 : -9223372036854775808 ≤ y ∧ y ≤ 9223372036854775807 := hy
            clear hc2 ev g1 hb2 HC4
            go_wp2
            go_roundw
            case rel => exact ⟨s + 1, y + (wl : Int), by omega, by go_num, by go_num, by unfold I64; omega, unhide HK3⟩
            case measure => simp [intOf]; omega
          · go_wp2
            go_roundw
            case rel => exact ⟨k + 1, y, by omega, by go_num, rfl, hy, unhide HK3⟩
            case measure => simp [intOf]; omega
        · obtain rfl : s = l.length := by omega
          go_wp2
          go_roundw
          case rel => exact ⟨k + 1, y, by omega, by go_num, rfl, hy, unhide HK3⟩
          case measure => simp [intOf]; omega
    · obtain rfl : k = ds.length := by omega
      have h40I : ¬ (ds.length : Int) ≤ 40 := by omega
      go_wp2
      go_ret
      exact ⟨retSm_no rfl, unhide HK⟩

theorem smallD_any (v : Value) (ds : List (Value × List (Value × List Int × Int))) (w : World) (h : TasksAt w v ds) :
    Calls Try.prog 10 #[v] w fun e w' => RetSm ds e ∧ Kp w w' := by
  obtain ⟨-, a, cap, rfl, -⟩ := id h
  by_cases h40 : ds.length ≤ 40
  · exact smallD_few a cap ds w h h40
  · exact smallD_many a cap ds w h h40

end Go.Proofs.Ytenbmfhhmbfgoaa
