
/- The contract of the copy of a tensor. -/
import Derived.Test.YtlfjclnocbohbaaTenA
import Derived.Deep.RegionHeld3
namespace Go.Proofs.Ytlfjclnocbohbaa
open Go.RowKit

theorem Own.weak {w : World} {e : TypeId} {base base' : Nat} {v : Value} {xs : List Int} (h : Own w e base v xs) (hb : base' ≤ base) : Own w e base' v xs := by
  obtain ⟨h0, h | ⟨g, cap, cur, rfl, hg, r⟩⟩ := h
  · exact ⟨h0, .inl h⟩
  · exact ⟨h0, .inr ⟨g, cap, cur, rfl, Nat.le_trans hb hg, r⟩⟩
theorem OwnF.weak {w : World} {e : TypeId} {base base' : Nat} {v : Value} {xs : List Nat} (h : OwnF w e base v xs) (hb : base' ≤ base) : OwnF w e base' v xs := by
  obtain ⟨h0, h | ⟨g, cap, cur, rfl, hg, r⟩⟩ := h
  · exact ⟨h0, .inl h⟩
  · exact ⟨h0, .inr ⟨g, cap, cur, rfl, Nat.le_trans hb hg, r⟩⟩

theorem Own.sl {w : World} {e : TypeId} {base : Nat} {v : Value} {xs : List Int} (h : Own w e base v xs) : ∃ a n c, v = .slice a n c := by
  obtain ⟨_, ⟨rfl, _⟩ | ⟨g, cap, cur, rfl, _⟩⟩ := h
  · exact ⟨_, _, _, rfl⟩
  · exact ⟨_, _, _, rfl⟩
theorem OwnF.sl {w : World} {e : TypeId} {base : Nat} {v : Value} {xs : List Nat} (h : OwnF w e base v xs) : ∃ a n c, v = .slice a n c := by
  obtain ⟨_, ⟨rfl, _⟩ | ⟨g, cap, cur, rfl, _⟩⟩ := h
  · exact ⟨_, _, _, rfl⟩
  · exact ⟨_, _, _, rfl⟩

theorem Own.setBelow {w : World} {e : TypeId} {base : Nat} {v : Value} {xs : List Int} (h : Own w e base v xs) {B : Nat} (hB : B < base) (i : Nat) (u : Value) : Own (w.setCell ⟨B, i, none⟩ u) e base v xs := by
  obtain ⟨h0, h | ⟨g, cap, cur, rfl, hg, hh, r⟩⟩ := h
  · exact ⟨h0, .inl h⟩
  · exact ⟨h0, .inr ⟨g, cap, cur, rfl, hg, (Below.heap_setCell w ⟨B, i, none⟩ u g (by simp; omega)).trans hh, r⟩⟩
theorem OwnF.setBelow {w : World} {e : TypeId} {base : Nat} {v : Value} {xs : List Nat} (h : OwnF w e base v xs) {B : Nat} (hB : B < base) (i : Nat) (u : Value) : OwnF (w.setCell ⟨B, i, none⟩ u) e base v xs := by
  obtain ⟨h0, h | ⟨g, cap, cur, rfl, hg, hh, r⟩⟩ := h
  · exact ⟨h0, .inl h⟩
  · exact ⟨h0, .inr ⟨g, cap, cur, rfl, hg, (Below.heap_setCell w ⟨B, i, none⟩ u g (by simp; omega)).trans hh, r⟩⟩

/-- block B holds a pair, and is not frozen -/
def Bx (w : World) (B : Nat) (x y : Value) : Prop := w.heap[B]? = some (.cells #[x, y] 31)
theorem Bx.lt {w : World} {B : Nat} {x y : Value} (h : Bx w B x y) : B < w.heap.size := (Array.getElem?_eq_some_iff.1 h).1
theorem Bx.c0 {w : World} {B : Nat} {x y : Value} (h : Bx w B x y) : w.cell? ⟨B, 0, none⟩ = some x := by
  unfold Bx at h
  simp [World.cell?, h]
theorem Bx.c1 {w : World} {B : Nat} {x y : Value} (h : Bx w B x y) : w.cell? ⟨B, 1, none⟩ = some y := by
  unfold Bx at h
  simp [World.cell?, h]
theorem Bx.frozen {w : World} {B : Nat} {x y : Value} (h : Bx w B x y) (i : Nat) : w.frozen? ⟨B, i, none⟩ = false := by
  unfold Bx at h
  simp [World.frozen?, h]
theorem Bx.keep {w w' : World} {B : Nat} {x y : Value} (h : Bx w B x y) (k : Kp w w') : Bx w' B x y := by
  unfold Bx
  rw [k.block B h.lt]
  exact h
theorem Bx.made (w : World) (x y : Value) : Bx (w.alloc (.cells #[x, y] 31)) w.heap.size x y := by
  unfold Bx
  simp only [World.alloc, Array.getElem?_push_size]

theorem Bx.madeAt (w : World) (x y : Value) (B : Nat) (hB : B = w.heap.size) : Bx (w.alloc (.cells #[x, y] 31)) B x y := by
  subst hB
  exact Bx.made w x y

/-- what a walk wants to know of the pair in block B -/
def BxO (w : World) (B : Nat) (x y : Value) : Prop := w.cell? ⟨B, 0, none⟩ = some x ∧ w.cell? ⟨B, 1, none⟩ = some y ∧ w.frozen? ⟨B, 0, none⟩ = false ∧ w.frozen? ⟨B, 1, none⟩ = false ∧ B < w.heap.size
theorem Bx.o {w : World} {B : Nat} {x y : Value} (h : Bx w B x y) : BxO w B x y := ⟨h.c0, h.c1, h.frozen 0, h.frozen 1, h.lt⟩

theorem Bx.set {w : World} {B : Nat} {x y : Value} (h : Bx w B x y) (u v : Value) : Bx ((w.setCell ⟨B, 0, none⟩ u).setCell ⟨B, 1, none⟩ v) B u v := by
  unfold Bx at h ⊢
  simp [World.setCell, Array.getElem?_modify, h]

set_option maxHeartbeats 400000 in
theorem copied_any (sv dv : Value) (s : List Int) (d : List Nat) (w : World) (hs : Ints w sv s) (hd : Flts w dv d) (b1 : s.length ≤ 1000000) (b2 : d.length ≤ 1000000) :
    Calls Try.prog 45 #[.agg #[sv, dv]] w fun e w' => ∃ u1 u2, e = .returned (.agg #[u1, u2]) ∧ Own w' 3 w.heap.size u1 s ∧ OwnF w' 23 w.heap.size u2 d ∧ Kp w w' := by
  have HS := hide hs
  have HD := hide hd
  clear hs hd
  go_enter Try.func45, Try.ntmps45
  go_wp2_with fail
  have x1 := (Bx.made w sv dv).keep (Kp.alloc _ (Obj.cells #[Value.slice none 0 0, Value.slice none 0 0] 31))
  have x2 := Bx.made (w.alloc (Obj.cells #[sv, dv] 31)) (.slice none 0 0) (.slice none 0 0)
  have k0 := (Kp.alloc w (Obj.cells #[sv, dv] 31)).trans (Kp.alloc _ (Obj.cells #[Value.slice none 0 0, Value.slice none 0 0] 31))
  have e1 : (w.alloc (Obj.cells #[sv, dv] 31)).heap.size = w.heap.size + 1 := by simp
  rw [e1] at x2
  have hR : w.heap.size ≤ w.heap.size + 1 := Nat.le_succ _
  clear e1
  generalize w.heap.size + 1 = R at *
  generalize hB : w.heap.size = B at x1 ⊢
  generalize ((w.alloc (Obj.cells #[sv, dv] 31)).alloc (Obj.cells #[Value.slice none 0 0, Value.slice none 0 0] 31)) = W at *
  obtain ⟨p0, p1, -, -, pB⟩ := x1.o
  obtain ⟨q0, q1, q2, q3, qR⟩ := x2.o
  have C1 := hide (fun w0 (k : Kp W w0) => (clone_ints sv s w0 ((unhide HS).keep (k0.trans k)) b1).mono (R' := fun e w' => ∃ a n c, e = .returned (.slice a n c) ∧ Hid (Own w' 3 W.heap.size (.slice a n c) s) ∧ Hid (Kp W w') ∧ BxO w' B sv dv ∧ BxO w' R (.slice none 0 0) (.slice none 0 0)) (by
    rintro e w' ⟨u, rfl, o, k'⟩
    obtain ⟨a, n, c, rfl⟩ := o.sl
    exact ⟨a, n, c, rfl, o.weak k.size, k.trans k', (x1.keep (k.trans k')).o, (x2.keep (k.trans k')).o⟩))
  have C2 := hide (fun w0 (k : Kp W w0) => (clone_flts dv d w0 ((unhide HD).keep (k0.trans k)) b2).mono (R' := fun e w' => ∃ a n c, e = .returned (.slice a n c) ∧ Hid (OwnF w' 23 W.heap.size (.slice a n c) d) ∧ Hid (Kp w0 w') ∧ Hid (Kp W w') ∧ BxO w' B sv dv ∧ BxO w' R (.slice none 0 0) (.slice none 0 0)) (by
    rintro e w' ⟨u, rfl, o, k'⟩
    obtain ⟨a, n, c, rfl⟩ := o.sl
    exact ⟨a, n, c, rfl, o.weak k.size, k', k.trans k', (x1.keep (k.trans k')).o, (x2.keep (k.trans k')).o⟩))
  have K0 := hide k0
  have X2 := hide x2
  clear x1 x2 k0
  go_region_with (first
    | (go_at_call 41; refine ((unhide C1) _ ?_).mono ?_; (first | (exact unhide (by assumption)) | exact Kp.drew W); rintro e w1 ⟨a1, n1, c1', rfl, O1, K1, ⟨c0, c1, c2, c3, c4⟩, ⟨d0, d1, d2, d3, d4⟩⟩)
    | (go_at_call 59; refine ((unhide C2) _ ?_).mono ?_; (first | (exact unhide (by assumption)) | exact Kp.drew W); rintro e w2 ⟨a2, n2, c2', rfl, O2, J2, K2, ⟨c0, c1, c2, c3, c4⟩, ⟨d0, d1, d2, d3, d4⟩⟩))
  all_goals (
    have x3 := Bx.set ((unhide X2).keep (unhide K2)) (.slice a1 n1 c1') (.slice a2 n2 c2')
    have KF := hide ((((unhide K0).trans (unhide K2)).set hR (i := 0) (.slice a1 n1 c1')).set hR (i := 1) (.slice a2 n2 c2'))
    have OF1 := hide (((((unhide O1).keep (unhide J2)).setBelow qR 0 (.slice a1 n1 c1')).setBelow qR 1 (.slice a2 n2 c2')).weak (unhide K0).size)
    have OF2 := hide ((((unhide O2).setBelow qR 0 (.slice a1 n1 c1')).setBelow qR 1 (.slice a2 n2 c2')).weak (unhide K0).size)
    generalize ((w2.setCell { block := R, off := 0 } (Value.slice a1 n1 c1')).setCell { block := R, off := 1 } (Value.slice a2 n2 c2')) = w3 at *
    obtain ⟨z0, z1, z2, z3, z4⟩ := x3.o
    clear c0 c1 c2 c3 c4 d0 d1 d2 d3 d4 x3)
  all_goals go_wp2
  all_goals refine bodyPost_ret (v := .agg #[.slice a1 n1 c1', .slice a2 n2 c2']) (by simp [results, Try.results45, go_sem, z0, z1]) rfl ⟨_, _, rfl, unhide OF1, unhide OF2, unhide KF⟩
end Go.Proofs.Ytlfjclnocbohbaa
