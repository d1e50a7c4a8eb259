
/- Hooks in memory; contracts of what asks whether hooks may be: the program's, the document's. -/
import Derived.Test.YtefohemihiiceaaGa
import Derived.Test.YtefohemihiiceaaGc
namespace Go.Proofs.Ytefohemihiiceaa
open Go.RowKit

/-- block B holds a pair of type t, and is not frozen -/
def Px (t : TypeId) (w : World) (B : Nat) (x y : Value) : Prop := w.heap[B]? = some (.cells #[x, y] t)
theorem Px.lt {t : TypeId} {w : World} {B : Nat} {x y : Value} (h : Px t w B x y) : B < w.heap.size := (Array.getElem?_eq_some_iff.1 h).1
theorem Px.c0 {t : TypeId} {w : World} {B : Nat} {x y : Value} (h : Px t w B x y) : w.cell? ⟨B, 0, none⟩ = some x := by
  unfold Px at h
  simp [World.cell?, h]
theorem Px.c1 {t : TypeId} {w : World} {B : Nat} {x y : Value} (h : Px t w B x y) : w.cell? ⟨B, 1, none⟩ = some y := by
  unfold Px at h
  simp [World.cell?, h]
theorem Px.keep {t : TypeId} {w w' : World} {B : Nat} {x y : Value} (h : Px t w B x y) (k : Kp w w') : Px t w' B x y := by
  unfold Px
  rw [k.block B h.lt]
  exact h
theorem Px.keepx {t : TypeId} {w w' : World} {B G : Nat} {x y : Value} (h : Px t w B x y) (k : Kx G w w') (hne : ¬ B = G) : Px t w' B x y := by
  unfold Px
  rw [k.block B h.lt (fun e => hne (by cases e; rfl))]
  exact h
theorem Px.made (t : TypeId) (w : World) (x y : Value) : Px t (w.alloc (.cells #[x, y] t)) w.heap.size x y := by
  unfold Px
  simp only [World.alloc, Array.getElem?_push_size]
theorem px_in (t : TypeId) (w : World) (x y : Value) : ∃ W, W = w.alloc (.cells #[x, y] t) ∧ Px t W w.heap.size x y ∧ Kp w W := ⟨_, rfl, Px.made t w x y, Kp.alloc w _⟩

/-- at that place of block b a hook lies -/
def HkAt (w : World) (b o : Nat) (h : Hk) : Prop := w.cell? ⟨b, o, none⟩ = some (.int .i64 h.k) ∧ w.cell? ⟨b, o + 1, none⟩ = some (.float .f64 h.x) ∧ I64 h.k ∧ W64 h.x
theorem HkAt.keep {w w' : World} {b o : Nat} {h : Hk} (hk : HkAt w b o h) (hb : b < w.heap.size) (k : Kp w w') : HkAt w' b o h :=
  ⟨(Below.cell k (p := ⟨b, o, none⟩) hb).trans hk.1, (Below.cell k (p := ⟨b, o + 1, none⟩) hb).trans hk.2.1, hk.2.2⟩

/-- the slice value v reads as the hooks hs -/
structure Hooks (w : World) (v : Value) (hs : List Hk) : Prop where
  room : hs.length ≤ 1000000
  val : ∃ a cap, v = .slice a hs.length cap ∧ (0 < hs.length → ∃ b off, a = some ⟨b, off, none⟩ ∧ b < w.heap.size ∧ ∀ i, i < hs.length → HkAt w b (off + i * 2) (hs.getD i hnil))
theorem Hooks.nil (w : World) (a : Option Addr) (c : Nat) : Hooks w (.slice a 0 c) [] := ⟨by simp, a, c, rfl, by simp⟩
theorem Hooks.keep {w w' : World} {v : Value} {hs : List Hk} (h : Hooks w v hs) (k : Kp w w') : Hooks w' v hs := by
  obtain ⟨h1, a, cap, rfl, h2⟩ := h
  refine ⟨h1, a, cap, rfl, fun hp => ?_⟩
  obtain ⟨b, off, rfl, hb, hc⟩ := h2 hp
  exact ⟨b, off, rfl, Nat.lt_of_lt_of_le hb k.size, fun i hi => (hc i hi).keep hb k⟩
theorem Hooks.one {w w' : World} {a : Option Addr} {n c : Nat} {hs : List Hk} (h : Hooks w (.slice a n c) hs) (k : Kp w w') {i : Nat} (hi : i < hs.length) : ∃ b off, a = some ⟨b, off, none⟩ ∧ b < w'.heap.size ∧ HkAt w' b (off + i * 2) (hs.getD i hnil) := by
  obtain ⟨_, a', cap, e, h2⟩ := h
  cases e
  obtain ⟨b, off, rfl, hb, hc⟩ := h2 (by omega)
  exact ⟨b, off, rfl, Nat.lt_of_lt_of_le hb k.size, (hc i hi).keep hb k⟩

end Go.Proofs.Ytefohemihiiceaa
