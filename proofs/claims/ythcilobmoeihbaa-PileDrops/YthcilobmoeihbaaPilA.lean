
/- Entries of the pile: cmp's Compare and Or at ints; who comes ahead. -/
import Derived.Test.YthcilobmoeihbaaHepJ
import Derived.Deep.RegionHeld3
namespace Go.Proofs.Ythcilobmoeihbaa
open Go.RowKit

def cmpI (x y : Int) : Int := if x < y then -1 else if y < x then 1 else 0
def orI (x y : Int) : Int := if x = 0 then y else x
theorem orI_lt (a b : Int × Int) : decide (orI (cmpI b.2 a.2) (cmpI a.1 b.1) < 0) = ltI a b := by
  unfold orI cmpI ltI
  by_cases h1 : b.2 < a.2
  · simp [h1]
  · by_cases h2 : a.2 < b.2
    · have h3 : ¬ a.2 = b.2 := by omega
      simp [h1, h2, h3]
    · have h3 : a.2 = b.2 := by omega
      by_cases h4 : a.1 < b.1
      · simp [h3, h4]
      · by_cases h5 : b.1 < a.1
        · simp [h3, h4, h5]
        · simp [h3, h4, h5]

theorem cell_lit2 (w : World) (a b : Value) (t : TypeId) (n : Nat) (h : n = w.heap.size) : (w.alloc (.cells #[a, b] t)).drew.cell? ⟨n, 0, none⟩ = some a ∧ (w.alloc (.cells #[a, b] t)).drew.cell? ⟨n, 1, none⟩ = some b := by
  subst h
  have e : (w.alloc (.cells #[a, b] t)).drew.heap[w.heap.size]? = some (.cells #[a, b] t) := by
    show (w.alloc (.cells #[a, b] t)).heap[w.heap.size]? = _
    simp only [World.alloc, Array.getElem?_push_size]
  constructor <;> (unfold World.cell?; rw [e]; rfl)

theorem isnan_any (x : Int) (w : World) : Calls Try.prog 48 #[.int .i64 x] w fun e w' => e = .returned (.bool false) ∧ w' = w := by
  go_enter Try.func48, Try.ntmps48
  go_wp2
  go_ret
  exact ⟨by simp, rfl⟩

theorem compare_any (x y : Int) (w : World) : Calls Try.prog 47 #[.int .i64 x, .int .i64 y] w fun e w' => e = .returned (.int .i64 (cmpI x y)) ∧ w' = w := by
  go_enter Try.func47, Try.ntmps47
  by_cases h1 : x < y
  · have h1D : decide (x < y) = true := decide_eq_true h1
    have hE : Hid (cmpI x y = -1) := by unfold Hid cmpI; rw [if_pos h1]
    go_wp2_with (first
      | (go_at_call 48; refine (isnan_any _ _).mono ?_; rintro e w2 ⟨rfl, rfl⟩))
    go_ret
    exact ⟨ret_int (unhide hE).symm, rfl⟩
  · have h1D : decide (x < y) = false := decide_eq_false h1
    by_cases h2 : y < x
    · have h2D : decide (y < x) = true := decide_eq_true h2
      have hE : Hid (cmpI x y = 1) := by unfold Hid cmpI; rw [if_neg h1, if_pos h2]
      go_wp2_with (first
        | (go_at_call 48; refine (isnan_any _ _).mono ?_; rintro e w2 ⟨rfl, rfl⟩))
      go_ret
      exact ⟨ret_int (unhide hE).symm, rfl⟩
    · have h2D : decide (y < x) = false := decide_eq_false h2
      have hE : Hid (cmpI x y = 0) := by unfold Hid cmpI; rw [if_neg h1, if_neg h2]
      go_wp2_with (first
        | (go_at_call 48; refine (isnan_any _ _).mono ?_; rintro e w2 ⟨rfl, rfl⟩))
      go_ret
      exact ⟨ret_int (unhide hE).symm, rfl⟩

/-- Or of a row of two -/
theorem or_any (B c : Nat) (x y : Int) (w : World) (h0 : w.cell? ⟨B, 0, none⟩ = some (.int .i64 x)) (h1 : w.cell? ⟨B, 1, none⟩ = some (.int .i64 y)) : Calls Try.prog 46 #[.slice (some ⟨B, 0, none⟩) 2 c] w fun e w' => e = .returned (.int .i64 (orI x y)) ∧ w' = w := by
  have H0 := hide h0
  have H1 := hide h1
  clear h0 h1
  go_enter Try.func46, Try.ntmps46
  go_wp2
  go_loopw [8] (fun i wr => ∃ k : Nat, k ≤ 2 ∧ i = .int .i64 k ∧ wr = w ∧ Hid (0 < k → x = 0) ∧ Hid (1 < k → y = 0)) (fun i _ => 2 - (intOf i).toNat)
  case atStart => exact ⟨0, by omega, rfl, rfl, fun h => absurd h (by omega), fun h => absurd h (by omega)⟩
  case round =>
    obtain ⟨k, hk, rfl, rfl, HX, HY⟩ := hrel
    by_cases k0 : k = 0
    · subst k0
      have c0 := unhide H0
      by_cases hx : x = 0
      · subst hx
        go_wp2
        go_roundw
        case rel => exact ⟨1, by omega, by first | rfl | trivial, by first | rfl | trivial, fun _ => by first | trivial | rfl, fun h => absurd h (by omega)⟩
        case measure => simp [intOf]
      · have hxD : (x != 0) = true := by simp [hx]
        have hE : Hid (orI x y = x) := by unfold Hid orI; rw [if_neg hx]
        go_wp2
        go_ret
        exact ⟨ret_int (unhide hE).symm, rfl⟩
    · by_cases k1 : k = 1
      · subst k1
        have c1 := unhide H1
        have hx := unhide HX (by omega)
        have hE : Hid (orI x y = y) := by unfold Hid orI; rw [if_pos hx]
        clear hx
        by_cases hy : y = 0
        · subst hy
          go_wp2
          go_roundw
          case rel => exact ⟨2, by omega, by first | rfl | trivial, by first | rfl | trivial, fun _ => unhide HX (by omega), fun _ => by first | trivial | rfl⟩
          case measure => simp [intOf]
        · have hyD : (y != 0) = true := by simp [hy]
          go_wp2
          go_ret
          exact ⟨ret_int (unhide hE).symm, rfl⟩
      · obtain rfl : k = 2 := by omega
        have hE : Hid (orI x y = 0) := by unfold Hid orI; rw [if_pos (unhide HX (by omega)), unhide HY (by omega)]
        go_wp2
        go_ret
        exact ⟨ret_int (unhide hE).symm, rfl⟩

set_option maxRecDepth 20000 in
set_option maxHeartbeats 4000000 in
theorem ahead_any (a b : Int × Int) (w : World) : Calls Try.prog 45 #[.agg #[.int .i64 a.1, .int .i64 a.2], .agg #[.int .i64 b.1, .int .i64 b.2]] w fun e w' => e = .returned (.bool (ltI a b)) ∧ Kp w w' := by
  have hE := hide (orI_lt a b)
  obtain ⟨a1, a2⟩ := a
  obtain ⟨b1, b2⟩ := b
  simp only at hE ⊢
  have ka := Kp.alloc w (.cells #[.int .i64 a1, .int .i64 a2] 60)
  have ea := cell_lit2 w (.int .i64 a1) (.int .i64 a2) 60 _ rfl
  have sa : (w.alloc (.cells #[.int .i64 a1, .int .i64 a2] 60)).heap.size = w.heap.size + 1 := by simp
  go_enter Try.func45, Try.ntmps45
  go_wp2_with fail
  generalize w.alloc (.cells #[.int .i64 a1, .int .i64 a2] 60) = wa at *
  have kb := Kp.alloc wa (.cells #[.int .i64 b1, .int .i64 b2] 60)
  have eb := cell_lit2 wa (.int .i64 b1) (.int .i64 b2) 60 _ rfl
  rw [sa] at eb
  have ltA : w.heap.size < wa.heap.size := by omega
  have ltB : w.heap.size + 1 < (wa.alloc (.cells #[.int .i64 b1, .int .i64 b2] 60)).heap.size := by simp; omega
  generalize wa.alloc (.cells #[.int .i64 b1, .int .i64 b2] 60) = wb at *
  have a0 : wb.cell? ⟨w.heap.size, 0, none⟩ = some (.int .i64 a1) := (Below.cell kb ltA).trans ea.1
  have a0' : wb.cell? ⟨w.heap.size, 1, none⟩ = some (.int .i64 a2) := (Below.cell kb ltA).trans ea.2
  have b0 : wb.cell? ⟨w.heap.size + 1, 0, none⟩ = some (.int .i64 b1) := eb.1
  have b0' : wb.cell? ⟨w.heap.size + 1, 1, none⟩ = some (.int .i64 b2) := eb.2
  have K0 := hide (ka.trans kb)
  have ltA2 : w.heap.size < wb.heap.size := by omega
  clear ka kb ea eb sa ltA
  generalize w.heap.size + 1 = B at *
  generalize w.heap.size = A at *
  have CC := hide (fun w0 (k0 : Kp wb w0) x y => (compare_any x y w0).mono (R' := fun e w' => e = .returned (.int .i64 (cmpI x y)) ∧ Hid (Kp wb w') ∧ w'.cell? ⟨A, 0, none⟩ = some (.int .i64 a1) ∧ w'.cell? ⟨A, 1, none⟩ = some (.int .i64 a2) ∧ w'.cell? ⟨B, 0, none⟩ = some (.int .i64 b1) ∧ w'.cell? ⟨B, 1, none⟩ = some (.int .i64 b2)) (by
    rintro e w' ⟨rfl, rfl⟩
    exact ⟨rfl, k0, (Below.cell k0 ltA2).trans a0, (Below.cell k0 ltA2).trans a0', (Below.cell k0 ltB).trans b0, (Below.cell k0 ltB).trans b0'⟩))
  have CO := hide (fun w0 (k0 : Kp wb w0) => (or_any w0.heap.size 2 _ _ (w0.alloc (.cells #[.int .i64 (cmpI b2 a2), .int .i64 (cmpI a1 b1)] 3)) (cell_lit2 w0 _ _ _ _ rfl).1 (cell_lit2 w0 _ _ _ _ rfl).2).mono (R' := fun e w' => e = .returned (.int .i64 (orI (cmpI b2 a2) (cmpI a1 b1))) ∧ Hid (Kp wb w') ∧ w'.cell? ⟨A, 0, none⟩ = some (.int .i64 a1) ∧ w'.cell? ⟨A, 1, none⟩ = some (.int .i64 a2) ∧ w'.cell? ⟨B, 0, none⟩ = some (.int .i64 b1) ∧ w'.cell? ⟨B, 1, none⟩ = some (.int .i64 b2)) (by
    rintro e w' ⟨rfl, rfl⟩
    have k1 := k0.trans (Kp.alloc w0 (.cells #[.int .i64 (cmpI b2 a2), .int .i64 (cmpI a1 b1)] 3))
    exact ⟨rfl, k1, (Below.cell k1 ltA2).trans a0, (Below.cell k1 ltA2).trans a0', (Below.cell k1 ltB).trans b0, (Below.cell k1 ltB).trans b0'⟩))
  go_region_held3 (fun w' => w'.cell? ⟨A, 0, none⟩ = some (.int .i64 a1) ∧ w'.cell? ⟨A, 1, none⟩ = some (.int .i64 a2) ∧ w'.cell? ⟨B, 0, none⟩ = some (.int .i64 b1) ∧ w'.cell? ⟨B, 1, none⟩ = some (.int .i64 b2)) (go_keep)
    (first
      | (go_at_call 47; refine ((unhide CC) _ ?_ _ _).mono ?_; (first | (exact unhide (by assumption)) | exact Kp.drew wb); rintro e w3 ⟨rfl, K3, e0, e1, e2, e3⟩)
      | (go_at_call 46; refine ((unhide CO) _ ?_).mono ?_; (first | (exact unhide (by assumption)) | exact Kp.drew wb); rintro e w3 ⟨rfl, K3, e0, e1, e2, e3⟩))
  all_goals (
    have K4 := hide ((unhide K0).trans (unhide K3))
    clear e0 e1 e2 e3
    go_wp2
    go_ret
    exact ⟨ret_bool (unhide hE), unhide K4⟩)

end Go.Proofs.Ythcilobmoeihbaa
