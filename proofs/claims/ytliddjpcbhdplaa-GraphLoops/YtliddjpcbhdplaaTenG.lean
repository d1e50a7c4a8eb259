
/- Contracts of Map: of a tensor, of what is none, by no function. -/
import Derived.Test.YtliddjpcbhdplaaTenF
namespace Go.Proofs.Ytliddjpcbhdplaa
open Go.RowKit

theorem Own.keepx {w w' : World} {e e' : TypeId} {base G n c : Nat} {v : Value} {xs : List Int} {ys : List Nat} (h : Own w e base v xs) (hG : OwnG w e' G n c ys) (hne : e ≠ e') (k : Kx G w w') : Own w' e base v xs := by
  obtain ⟨h0, h | ⟨g, cap, cur, rfl, hg, hh, r⟩⟩ := h
  · exact ⟨h0, .inl h⟩
  · obtain ⟨_, _, cur', hh', _⟩ := hG
    refine ⟨h0, .inr ⟨g, cap, cur, rfl, hg, ?_, r⟩⟩
    rw [k.block g (Array.getElem?_eq_some_iff.1 hh).1 (fun e1 => by cases e1; rw [hh] at hh'; injection hh' with e2; injection e2 with _ e3; exact hne e3)]
    exact hh

/-- two pairs laid into blocks of their own -/
theorem boxes_in (w : World) (x y u v : Value) : ∃ W, W = (w.alloc (.cells #[x, y] 38)).alloc (.cells #[u, v] 38) ∧ Bx W w.heap.size x y ∧ Bx W (w.heap.size + 1) u v ∧ Kp w W := by
  refine ⟨_, rfl, (Bx.made w x y).keep (Kp.alloc _ _), ?_, (Kp.alloc w _).trans (Kp.alloc _ _)⟩
  have := Bx.made (w.alloc (.cells #[x, y] 38)) u v
  have e1 : (w.alloc (Obj.cells #[x, y] 38)).heap.size = w.heap.size + 1 := by simp
  rw [e1] at this
  exact this

end Go.Proofs.Ytliddjpcbhdplaa
