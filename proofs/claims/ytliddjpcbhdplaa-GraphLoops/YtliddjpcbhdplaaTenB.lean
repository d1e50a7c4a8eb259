
/- The contract of the copy of a tensor. -/
import Derived.Test.YtliddjpcbhdplaaTenA
import Derived.Deep.RegionHeld3
namespace Go.Proofs.Ytliddjpcbhdplaa
open Go.RowKit

theorem Own.weak {w : World} {e : TypeId} {base base' : Nat} {v : Value} {xs : List Int} (h : Own w e base v xs) (hb : base' ≤ base) : Own w e base' v xs := by
  obtain ⟨h0, h | ⟨g, cap, cur, rfl, hg, r⟩⟩ := h
  · exact ⟨h0, .inl h⟩
  · exact ⟨h0, .inr ⟨g, cap, cur, rfl, Nat.le_trans hb hg, r⟩⟩
theorem OwnF.weak {w : World} {e : TypeId} {base base' : Nat} {v : Value} {xs : List Nat} (h : OwnF w e base v xs) (hb : base' ≤ base) : OwnF w e base' v xs := by
  obtain ⟨h0, h | ⟨g, cap, cur, rfl, hg, r⟩⟩ := h
  · exact ⟨h0, .inl h⟩
  · exact ⟨h0, .inr ⟨g, cap, cur, rfl, Nat.le_trans hb hg, r⟩⟩

theorem Own.sl {w : World} {e : TypeId} {base : Nat} {v : Value} {xs : List Int} (h : Own w e base v xs) : ∃ a n c, v = .slice a n c := by
  obtain ⟨_, ⟨rfl, _⟩ | ⟨g, cap, cur, rfl, _⟩⟩ := h
  · exact ⟨_, _, _, rfl⟩
  · exact ⟨_, _, _, rfl⟩
theorem OwnF.sl {w : World} {e : TypeId} {base : Nat} {v : Value} {xs : List Nat} (h : OwnF w e base v xs) : ∃ a n c, v = .slice a n c := by
  obtain ⟨_, ⟨rfl, _⟩ | ⟨g, cap, cur, rfl, _⟩⟩ := h
  · exact ⟨_, _, _, rfl⟩
  · exact ⟨_, _, _, rfl⟩

theorem Own.setBelow {w : World} {e : TypeId} {base : Nat} {v : Value} {xs : List Int} (h : Own w e base v xs) {B : Nat} (hB : B < base) (i : Nat) (u : Value) : Own (w.setCell ⟨B, i, none⟩ u) e base v xs := by
  obtain ⟨h0, h | ⟨g, cap, cur, rfl, hg, hh, r⟩⟩ := h
  · exact ⟨h0, .inl h⟩
  · exact ⟨h0, .inr ⟨g, cap, cur, rfl, hg, (Below.heap_setCell w ⟨B, i, none⟩ u g (by simp; omega)).trans hh, r⟩⟩
theorem OwnF.setBelow {w : World} {e : TypeId} {base : Nat} {v : Value} {xs : List Nat} (h : OwnF w e base v xs) {B : Nat} (hB : B < base) (i : Nat) (u : Value) : OwnF (w.setCell ⟨B, i, none⟩ u) e base v xs := by
  obtain ⟨h0, h | ⟨g, cap, cur, rfl, hg, hh, r⟩⟩ := h
  · exact ⟨h0, .inl h⟩
  · exact ⟨h0, .inr ⟨g, cap, cur, rfl, hg, (Below.heap_setCell w ⟨B, i, none⟩ u g (by simp; omega)).trans hh, r⟩⟩

/-- block B holds a pair, and is not frozen -/
def Bx (w : World) (B : Nat) (x y : Value) : Prop := w.heap[B]? = some (.cells #[x, y] 38)
theorem Bx.lt {w : World} {B : Nat} {x y : Value} (h : Bx w B x y) : B < w.heap.size := (Array.getElem?_eq_some_iff.1 h).1
theorem Bx.c0 {w : World} {B : Nat} {x y : Value} (h : Bx w B x y) : w.cell? ⟨B, 0, none⟩ = some x := by
  unfold Bx at h
  simp [World.cell?, h]
theorem Bx.c1 {w : World} {B : Nat} {x y : Value} (h : Bx w B x y) : w.cell? ⟨B, 1, none⟩ = some y := by
  unfold Bx at h
  simp [World.cell?, h]
theorem Bx.frozen {w : World} {B : Nat} {x y : Value} (h : Bx w B x y) (i : Nat) : w.frozen? ⟨B, i, none⟩ = false := by
  unfold Bx at h
  simp [World.frozen?, h]
theorem Bx.keep {w w' : World} {B : Nat} {x y : Value} (h : Bx w B x y) (k : Kp w w') : Bx w' B x y := by
  unfold Bx
  rw [k.block B h.lt]
  exact h
theorem Bx.made (w : World) (x y : Value) : Bx (w.alloc (.cells #[x, y] 38)) w.heap.size x y := by
  unfold Bx
  simp only [World.alloc, Array.getElem?_push_size]

theorem Bx.madeAt (w : World) (x y : Value) (B : Nat) (hB : B = w.heap.size) : Bx (w.alloc (.cells #[x, y] 38)) B x y := by
  subst hB
  exact Bx.made w x y

/-- what a walk wants to know of the pair in block B -/
def BxO (w : World) (B : Nat) (x y : Value) : Prop := w.cell? ⟨B, 0, none⟩ = some x ∧ w.cell? ⟨B, 1, none⟩ = some y ∧ w.frozen? ⟨B, 0, none⟩ = false ∧ w.frozen? ⟨B, 1, none⟩ = false ∧ B < w.heap.size
theorem Bx.o {w : World} {B : Nat} {x y : Value} (h : Bx w B x y) : BxO w B x y := ⟨h.c0, h.c1, h.frozen 0, h.frozen 1, h.lt⟩

theorem Bx.set {w : World} {B : Nat} {x y : Value} (h : Bx w B x y) (u v : Value) : Bx ((w.setCell ⟨B, 0, none⟩ u).setCell ⟨B, 1, none⟩ v) B u v := by
  unfold Bx at h ⊢
  simp [World.setCell, Array.getElem?_modify, h]

end Go.Proofs.Ytliddjpcbhdplaa
