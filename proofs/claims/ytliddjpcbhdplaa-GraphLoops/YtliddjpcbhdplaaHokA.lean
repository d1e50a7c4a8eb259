
/- Hooks in memory; contracts of what asks whether hooks may be: the program's, the document's. -/
import Derived.Test.YtliddjpcbhdplaaGa
import Derived.Test.YtliddjpcbhdplaaGc
namespace Go.Proofs.Ytliddjpcbhdplaa
open Go.RowKit

/-- block B holds a pair of type t, and is not frozen -/
def Px (t : TypeId) (w : World) (B : Nat) (x y : Value) : Prop := w.heap[B]? = some (.cells #[x, y] t)
theorem Px.lt {t : TypeId} {w : World} {B : Nat} {x y : Value} (h : Px t w B x y) : B < w.heap.size := (Array.getElem?_eq_some_iff.1 h).1
theorem Px.c0 {t : TypeId} {w : World} {B : Nat} {x y : Value} (h : Px t w B x y) : w.cell? ⟨B, 0, none⟩ = some x := by
  unfold Px at h
  simp [World.cell?, h]
theorem Px.c1 {t : TypeId} {w : World} {B : Nat} {x y : Value} (h : Px t w B x y) : w.cell? ⟨B, 1, none⟩ = some y := by
  unfold Px at h
  simp [World.cell?, h]
theorem Px.keep {t : TypeId} {w w' : World} {B : Nat} {x y : Value} (h : Px t w B x y) (k : Kp w w') : Px t w' B x y := by
  unfold Px
  rw [k.block B h.lt]
  exact h
theorem Px.keepx {t : TypeId} {w w' : World} {B G : Nat} {x y : Value} (h : Px t w B x y) (k : Kx G w w') (hne : ¬ B = G) : Px t w' B x y := by
  unfold Px
  rw [k.block B h.lt (fun e => hne (by cases e; rfl))]
  exact h
theorem Px.made (t : TypeId) (w : World) (x y : Value) : Px t (w.alloc (.cells #[x, y] t)) w.heap.size x y := by
  unfold Px
  simp only [World.alloc, Array.getElem?_push_size]
theorem px_in (t : TypeId) (w : World) (x y : Value) : ∃ W, W = w.alloc (.cells #[x, y] t) ∧ Px t W w.heap.size x y ∧ Kp w W := ⟨_, rfl, Px.made t w x y, Kp.alloc w _⟩

/-- at that place of block b a hook lies -/
def HkAt (w : World) (b o : Nat) (h : Hk) : Prop := w.cell? ⟨b, o, none⟩ = some (.int .i64 h.k) ∧ w.cell? ⟨b, o + 1, none⟩ = some (.float .f64 h.x) ∧ I64 h.k ∧ W64 h.x
theorem HkAt.keep {w w' : World} {b o : Nat} {h : Hk} (hk : HkAt w b o h) (hb : b < w.heap.size) (k : Kp w w') : HkAt w' b o h :=
  ⟨(Below.cell k (p := ⟨b, o, none⟩) hb).trans hk.1, (Below.cell k (p := ⟨b, o + 1, none⟩) hb).trans hk.2.1, hk.2.2⟩

/-- the slice value v reads as the hooks hs -/
structure Hooks (w : World) (v : Value) (hs : List Hk) : Prop where
  room : hs.length ≤ 1000000
  val : ∃ a cap, v = .slice a hs.length cap ∧ (0 < hs.length → ∃ b off, a = some ⟨b, off, none⟩ ∧ b < w.heap.size ∧ ∀ i, i < hs.length → HkAt w b (off + i * 2) (hs.getD i hnil))
theorem Hooks.nil (w : World) (a : Option Addr) (c : Nat) : Hooks w (.slice a 0 c) [] := ⟨by simp, a, c, rfl, by simp⟩
theorem Hooks.keep {w w' : World} {v : Value} {hs : List Hk} (h : Hooks w v hs) (k : Kp w w') : Hooks w' v hs := by
  obtain ⟨h1, a, cap, rfl, h2⟩ := h
  refine ⟨h1, a, cap, rfl, fun hp => ?_⟩
  obtain ⟨b, off, rfl, hb, hc⟩ := h2 hp
  exact ⟨b, off, rfl, Nat.lt_of_lt_of_le hb k.size, fun i hi => (hc i hi).keep hb k⟩
theorem Hooks.one {w w' : World} {a : Option Addr} {n c : Nat} {hs : List Hk} (h : Hooks w (.slice a n c) hs) (k : Kp w w') {i : Nat} (hi : i < hs.length) : ∃ b off, a = some ⟨b, off, none⟩ ∧ b < w'.heap.size ∧ HkAt w' b (off + i * 2) (hs.getD i hnil) := by
  obtain ⟨_, a', cap, e, h2⟩ := h
  cases e
  obtain ⟨b, off, rfl, hb, hc⟩ := h2 (by omega)
  exact ⟨b, off, rfl, Nat.lt_of_lt_of_le hb k.size, (hc i hi).keep hb k⟩

set_option maxHeartbeats 1000000 in
theorem wrong_any (h : Hk) (w : World) :
    Calls Try.prog 58 #[.agg #[.int .i64 h.k, .float .f64 h.x]] w fun e w' => e = .returned (.bool (wrB h)) ∧ Kp w w' := by
  obtain ⟨k, x⟩ := h
  show Calls Try.prog 58 #[.agg #[.int .i64 k, .float .f64 x]] w _
  by_cases h1 : k = 1
  · subst h1
    have E := hide (wrB_1 (h := ⟨1, x⟩) rfl)
    go_enter Try.func58, Try.ntmps58
    go_wp2
    go_ret
    exact ⟨ret_bool (unhide E).symm, Kp.alloc _ _⟩
  by_cases h2 : k = 2
  · subst h2
    have E := hide (wrB_2 (h := ⟨2, x⟩) rfl)
    unfold geB at E
    rw [Bool.not_or] at E
    go_enter Try.func58, Try.ntmps58
    go_wp2
    go_ret
    exact ⟨ret_bool (unhide E).symm, Kp.alloc _ _⟩
  by_cases h3 : k = 3
  · subst h3
    have E := hide (wrB_34 (h := ⟨3, x⟩) (.inl rfl))
    go_enter Try.func58, Try.ntmps58
    go_wp2
    go_ret
    exact ⟨ret_bool (unhide E).symm, Kp.alloc _ _⟩
  by_cases h4 : k = 4
  · subst h4
    have E := hide (wrB_34 (h := ⟨4, x⟩) (.inr rfl))
    go_enter Try.func58, Try.ntmps58
    go_wp2
    go_ret
    exact ⟨ret_bool (unhide E).symm, Kp.alloc _ _⟩
  have E := hide (wrB_other (h := ⟨k, x⟩) (by rintro (e | e | e | e) <;> contradiction))
  have q1 : (k == 1) = false := beq_eq_false_iff_ne.2 h1
  have q2 : (k == 2) = false := beq_eq_false_iff_ne.2 h2
  have q3 : (k == 3) = false := beq_eq_false_iff_ne.2 h3
  have q4 : (k == 4) = false := beq_eq_false_iff_ne.2 h4
  go_enter Try.func58, Try.ntmps58
  go_wp2
  go_ret
  exact ⟨ret_bool (unhide E).symm, Kp.alloc _ _⟩

set_option maxHeartbeats 1000000 in
theorem ixhook_any (v : Value) (hs : List Hk) (w : World) (h : Hooks w v hs) :
    Calls Try.prog 64 #[v, .func (.func 58) #[] #[]] w fun e w' => ∃ i : Int, e = .returned (.int .i64 i) ∧ (decide (0 ≤ i) = anyH hs) ∧ Kp w w' := by
  have hr := h.room
  have H := hide h
  obtain ⟨a, cap, rfl, -⟩ := h.val
  clear h
  have hcall := Try.call58
  go_enter Try.func64, Try.ntmps64
  go_wp2
  go_loopw [8] (fun i wr => ∃ k : Nat, k ≤ hs.length ∧ i = .int .i64 k ∧ Hid (∀ j, j < k → wrB (hs.getD j hnil) = false) ∧ Hid (Kp w wr)) (fun i _ => hs.length - (intOf i).toNat)
  case atStart => exact ⟨0, Nat.zero_le _, rfl, by unfold Hid; omega, Kp.refl _⟩
  case round =>
    obtain ⟨k, hk, rfl, HA, KR⟩ := hrel
    by_cases hlt : k < hs.length
    · obtain ⟨b, off, rfl, hb, c0, c1, -, -⟩ := (unhide H).one (unhide KR) hlt
      cases hx : wrB (hs.getD k hnil)
      · have HB : Hid (∀ j, j < k + 1 → wrB (hs.getD j hnil) = false) := by
          intro j hj
          by_cases e : j = k
          · subst e; exact hx
          · exact unhide HA j (by omega)
        have HX := hide hx
        clear hx
        generalize hs.getD k hnil = y at *
        go_wp2_with fail
        refine (wrong_any y _).mono ?_
        rw [unhide HX]
        rintro e w2 ⟨rfl, k2⟩
        have K2 := hide ((unhide KR).trans k2)
        clear k2
        go_wp2
        go_roundw
        case rel => exact ⟨k + 1, by omega, by go_num, unhide HB, unhide K2⟩
        case measure => simp [intOf]; omega
      · have HB := hide (anyH_at hlt hx)
        have HX := hide hx
        clear hx
        generalize hs.getD k hnil = y at *
        go_wp2_with fail
        refine (wrong_any y _).mono ?_
        rw [unhide HX]
        rintro e w2 ⟨rfl, k2⟩
        have K2 := hide ((unhide KR).trans k2)
        clear k2
        go_wp2
        go_ret
        exact ⟨_, rfl, by rw [unhide HB]; simp, unhide K2⟩
    · have HB := hide (anyH_no (fun j hj => unhide HA j (by omega)))
      go_wp2
      go_ret
      exact ⟨_, rfl, by rw [unhide HB]; simp, unhide KR⟩

set_option maxHeartbeats 1000000 in
theorem conthook_any (v : Value) (hs : List Hk) (w : World) (h : Hooks w v hs) :
    Calls Try.prog 57 #[v, .func (.func 58) #[] #[]] w fun e w' => e = .returned (.bool (anyH hs)) ∧ Kp w w' := by
  have HC := hide (ixhook_any v hs w h)
  clear h
  go_enter Try.func57, Try.ntmps57
  go_wp2_with fail
  refine (unhide HC).mono ?_
  rintro e w2 ⟨i, rfl, hi, k2⟩
  have HI := hide hi
  have K2 := hide k2
  clear hi k2
  go_wp2
  go_ret
  exact ⟨ret_bool (unhide HI), unhide K2⟩

set_option maxHeartbeats 1000000 in
theorem mayH_run (v : Value) (hs : List Hk) (w : World) (h : Hooks w v hs) :
    Calls Try.prog 49 #[v] w fun e w' => e = .returned (.bool (mayH hs)) ∧ Kp w w' := by
  have hr := h.room
  have HC := hide (conthook_any v hs w h)
  obtain ⟨a, cap, rfl, -⟩ := h.val
  clear h
  by_cases hl : hs.length ≤ 4
  · have E := hide (mayH_short hl)
    have hl' : decide ((hs.length : Int) ≤ 4) = true := decide_eq_true (by omega)
    have hl2 : (hs.length : Int) ≤ 4 := by omega
    generalize hs.length = n at *
    go_enter Try.func49, Try.ntmps49
    go_wp2_with fail
    refine (unhide HC).mono ?_
    rintro e w2 ⟨rfl, k2⟩
    have K2 := hide k2
    clear k2
    generalize anyH hs = r at *
    go_wp2
    go_ret
    exact ⟨ret_bool (unhide E).symm, unhide K2⟩
  · have E := hide (mayH_long hl)
    have hl' : decide ((hs.length : Int) ≤ 4) = false := decide_eq_false (by omega)
    have hl2 : ¬ (hs.length : Int) ≤ 4 := by omega
    clear hl
    generalize hs.length = n at *
    go_enter Try.func49, Try.ntmps49
    go_wp2
    go_ret
    exact ⟨ret_bool (unhide E).symm, Kp.refl _⟩

end Go.Proofs.Ytliddjpcbhdplaa
