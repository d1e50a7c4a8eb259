
/- Ids with their ranks: their order; rows of them in memory; the document's Best. -/
import Derived.Test.YthcilobmoeihbaaHepD
import Derived.BigQuiet
namespace Go.Proofs.Ythcilobmoeihbaa
open Go.RowKit

/-- an id with its rank comes ahead of another one -/
def ltI (a b : Int × Int) : Bool := decide (b.2 < a.2) || (decide (a.2 = b.2) && decide (a.1 < b.1))
theorem ltI_yes {a b : Int × Int} : ltI a b = true ↔ (b.2 < a.2 ∨ (a.2 = b.2 ∧ a.1 < b.1)) := by unfold ltI; simp
theorem ltI_no {a b : Int × Int} : ltI a b = false ↔ ¬ (b.2 < a.2 ∨ (a.2 = b.2 ∧ a.1 < b.1)) := by rw [← ltI_yes]; simp
theorem ordI : Ord2 ltI where
  asym h := by rw [ltI_yes] at h; rw [ltI_no]; omega
  trans h h' := by rw [ltI_no] at h h' ⊢; omega
  one {a b} h h' := by
    rw [ltI_no] at h h'
    obtain ⟨a1, a2⟩ := a
    obtain ⟨b1, b2⟩ := b
    simp only [Prod.mk.injEq] at *
    omega

/-- the slice value v reads as ids with ranks -/
structure Its (w : World) (v : Value) (ms : List (Int × Int)) : Prop where
  room : ms.length ≤ 1000000
  val : ∃ a cap, v = .slice a ms.length cap ∧ ms.length ≤ cap ∧ (0 < ms.length → ∃ b off, a = some ⟨b, off, none⟩ ∧ b < w.heap.size ∧ ∀ i, i < ms.length → I64 (ms.getD i (0, 0)).1 ∧ I64 (ms.getD i (0, 0)).2 ∧
    w.cell? ⟨b, off + i * 2, none⟩ = some (.int .i64 (ms.getD i (0, 0)).1) ∧ w.cell? ⟨b, off + i * 2 + 1, none⟩ = some (.int .i64 (ms.getD i (0, 0)).2))
theorem Its.keep {w w' : World} {v : Value} {ms : List (Int × Int)} (h : Its w v ms) (k : Kp w w') : Its w' v ms := by
  obtain ⟨h1, a, cap, rfl, h3, h2⟩ := h
  refine ⟨h1, a, cap, rfl, h3, fun hp => ?_⟩
  obtain ⟨b, off, rfl, hb, hc⟩ := h2 hp
  refine ⟨b, off, rfl, Nat.lt_of_lt_of_le hb k.size, fun i hi => ?_⟩
  obtain ⟨g1, g2, g3, g4⟩ := hc i hi
  exact ⟨g1, g2, (Below.cell k (p := ⟨b, off + i * 2, none⟩) hb).trans g3, (Below.cell k (p := ⟨b, off + i * 2 + 1, none⟩) hb).trans g4⟩
/-- who comes next among the first k -/
def BestP (ms : List (Int × Int)) (k : Nat) (b : Int) : Prop := (k = 0 ∧ b = -1) ∨ ∃ q : Nat, b = (q : Int) ∧ q < k ∧ ∀ j, j < k → ltI (ms.getD j (0, 0)) (ms.getD q (0, 0)) = false
theorem BestP.first (ms : List (Int × Int)) : BestP ms 1 0 := .inr ⟨0, rfl, by omega, fun j hj => by
  have e : j = 0 := by omega
  subst e
  exact ordI.irr _⟩
theorem BestP.new {ms : List (Int × Int)} {k q : Nat} (h : ∀ j, j < k → ltI (ms.getD j (0, 0)) (ms.getD q (0, 0)) = false) (hl : ltI (ms.getD k (0, 0)) (ms.getD q (0, 0)) = true) : BestP ms (k + 1) (k : Int) := .inr ⟨k, rfl, by omega, fun j hj => by
  by_cases e : j = k
  · subst e; exact ordI.irr _
  · exact ordI.trans (ordI.asym hl) (h j (by omega))⟩
theorem BestP.old {ms : List (Int × Int)} {k q : Nat} (hq : q < k) (h : ∀ j, j < k → ltI (ms.getD j (0, 0)) (ms.getD q (0, 0)) = false) (hl : ltI (ms.getD k (0, 0)) (ms.getD q (0, 0)) = false) : BestP ms (k + 1) (q : Int) := .inr ⟨q, rfl, by omega, fun j hj => by
  by_cases e : j = k
  · subst e; exact hl
  · exact h j (by omega)⟩

set_option maxRecDepth 20000 in
set_option maxHeartbeats 8000000 in
theorem best_any (a : Option Addr) (c : Nat) (ms : List (Int × Int)) (w : World) (h : Its w (.slice a ms.length c) ms) :
    Calls Try.prog 11 #[.slice a ms.length c] w fun e w' => ∃ b, e = .returned (.int .i64 b) ∧ BestP ms ms.length b ∧ Kp w w' := by
  have hr := h.room
  have H := hide h
  clear h
  go_enter Try.func11, Try.ntmps11
  go_wp2
  go_loopw [4, 3] (fun i b wr => ∃ (k : Nat) (z : Int), k ≤ ms.length ∧ i = .int .i64 k ∧ b = .int .i64 z ∧ Hid (BestP ms k z) ∧ Hid (Kp w wr)) (fun i _ _ => ms.length - (intOf i).toNat)
  case atStart => exact ⟨0, -1, Nat.zero_le _, rfl, rfl, .inl ⟨rfl, rfl⟩, Kp.refl w⟩
  case round =>
    obtain ⟨k, z, hk, rfl, rfl, HB, HK⟩ := hrel
    by_cases hlt : k < ms.length
    · have hltI : (k : Int) < (ms.length : Int) := by omega
      obtain ⟨a', c', e', _, hcc⟩ := ((unhide H).keep (unhide HK)).val
      cases e'
      obtain ⟨b, off, rfl, hb, hc⟩ := hcc (by omega)
      rcases unhide HB with ⟨rfl, rfl⟩ | ⟨q, rfl, hq, hbest⟩
      · have HB2 := hide (BestP.first ms)
        clear hcc hc
        go_wp2_with fail
        go_quiet (fail)
        go_wp2
        go_roundw
        case rel => exact ⟨1, 0, by omega, by go_num, rfl, unhide HB2, (unhide HK).trans (Kp.drewN _ _)⟩
        case measure => simp [intOf]; omega
      · have hqI : ¬ (q : Int) < 0 := by omega
        have hqD : decide ((q : Int) < 0) = false := decide_eq_false hqI
        have hqL : (q : Int) < (ms.length : Int) := by omega
        obtain ⟨_, _, k1, k2⟩ := hc k hlt
        obtain ⟨_, _, q1, q2⟩ := hc q (by omega)
        have HN := hide (fun hl => BestP.new hbest hl)
        have HO := hide (fun hl => BestP.old hq hbest hl)
        clear hcc hc hbest
        generalize ms.getD k (0, 0) = x at *
        generalize ms.getD q (0, 0) = y at *
        obtain ⟨x1, x2⟩ := x
        obtain ⟨y1, y2⟩ := y
        simp only at k1 k2 q1 q2
        by_cases g1 : y2 < x2
        · have HB2 := hide (unhide HN (ltI_yes.2 (.inl g1)))
          clear HN HO
          go_wp2_with fail
          go_quiet (fail)
          go_wp2
          go_roundw
          case rel => exact ⟨k + 1, k, by omega, by go_num, rfl, unhide HB2, (unhide HK).trans (Kp.drewN _ _)⟩
          case measure => simp [intOf]; omega
        · have g1D : decide (y2 < x2) = false := decide_eq_false g1
          by_cases g2 : x2 = y2
          · subst g2
            by_cases g3 : x1 < y1
            · have HB2 := hide (unhide HN (ltI_yes.2 (.inr ⟨rfl, g3⟩)))
              clear HN HO
              go_wp2_with fail
              go_quiet (fail)
              go_wp2
              go_roundw
              case rel => exact ⟨k + 1, k, by omega, by go_num, rfl, unhide HB2, (unhide HK).trans (Kp.drewN _ _)⟩
              case measure => simp [intOf]; omega
            · have g3D : decide (x1 < y1) = false := decide_eq_false g3
              have HB2 := hide (unhide HO (ltI_no.2 (by simp only; omega)))
              clear HN HO
              go_wp2_with fail
              go_quiet (fail)
              go_wp2
              go_roundw
              case rel => exact ⟨k + 1, q, by omega, by go_num, rfl, unhide HB2, (unhide HK).trans (Kp.drewN _ _)⟩
              case measure => simp [intOf]; omega
          · have g2D : (x2 == y2) = false := beq_eq_false_iff_ne.2 g2
            have HB2 := hide (unhide HO (ltI_no.2 (by simp only; omega)))
            clear HN HO
            go_wp2_with fail
            go_quiet (fail)
            go_wp2
            go_roundw
            case rel => exact ⟨k + 1, q, by omega, by go_num, rfl, unhide HB2, (unhide HK).trans (Kp.drewN _ _)⟩
            case measure => simp [intOf]; omega
    · obtain rfl : k = ms.length := by omega
      go_wp2
      go_ret
      exact ⟨z, rfl, unhide HB, unhide HK⟩

end Go.Proofs.Ythcilobmoeihbaa
