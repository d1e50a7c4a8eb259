/- Texts of our own that others begin with, in one: TenF, TenG. -/
import Derived.Test.YtefohemihiiceaaGa
import Derived.Defers
import Derived.Recover
import Derived.Laws.Pointers

/- Contracts of the map of a tensor's numbers: the loop behind the deferred call, and what is outside of it. -/
namespace Go.Proofs.Ytefohemihiiceaa
open Go.RowKit

/-- the call's own slice of numbers in block G -/
structure OwnG (w : World) (e : TypeId) (G n c : Nat) (xs : List Nat) : Prop where
  len : xs.length = n
  room : n ≤ c ∧ c ≤ maxLen
  blk : ∃ cur : Array Value, w.heap[G]? = some (.cells cur e) ∧ cur.size = c ∧ cur.toList.take n = xs.map (Value.float .f64)

theorem OwnF.g {w : World} {e : TypeId} {base : Nat} {v : Value} {xs : List Nat} (h : OwnF w e base v xs) (hp : 0 < xs.length) : ∃ G c, base ≤ G ∧ v = .slice (some ⟨G, 0, none⟩) xs.length c ∧ OwnG w e G xs.length c xs := by
  obtain ⟨h0, ⟨_, h⟩ | ⟨g, cap, cur, rfl, hg, hh, h1, h2, h3, h4⟩⟩ := h
  · omega
  · exact ⟨g, cap, hg, rfl, rfl, ⟨h1, h2⟩, cur, hh, by simpa using h3, by simpa using h4⟩
theorem OwnG.own {w : World} {e : TypeId} {G n c : Nat} {xs : List Nat} (h : OwnG w e G n c xs) {base : Nat} (hb : base ≤ G) : OwnF w e base (.slice (some ⟨G, 0, none⟩) n c) xs := by
  obtain ⟨rfl, ⟨h1, h2⟩, cur, hh, h3, h4⟩ := h
  exact ⟨by simp, .inr ⟨G, c, cur, rfl, hb, hh, h1, h2, by simpa using h3, by simpa using h4⟩⟩
theorem OwnG.lt {w : World} {e : TypeId} {G n c : Nat} {xs : List Nat} (h : OwnG w e G n c xs) : G < w.heap.size := by
  obtain ⟨_, _, cur, hh, _⟩ := h
  exact (Array.getElem?_eq_some_iff.1 hh).1
theorem OwnG.frozen {w : World} {e : TypeId} {G n c : Nat} {xs : List Nat} (h : OwnG w e G n c xs) (i : Nat) : w.frozen? ⟨G, i, none⟩ = false := by
  obtain ⟨_, _, cur, hh, _⟩ := h
  simp [World.frozen?, hh]
theorem OwnG.cell {w : World} {e : TypeId} {G n c : Nat} {xs : List Nat} (h : OwnG w e G n c xs) {i : Nat} (hi : i < n) : w.cell? ⟨G, i, none⟩ = some (.float .f64 (xs.getD i 0)) := by
  obtain ⟨rfl, _, cur, hh, h3, h4⟩ := h
  have e1 : cur[i]? = some (.float .f64 (xs.getD i 0)) := by
    have h2 := congrArg (fun l => l[i]?) h4
    simp only [List.getElem?_take, hi, if_true, List.getElem?_map, Array.getElem?_toList] at h2
    rw [h2]
    simp [hi]
  simp [World.cell?, hh, e1]
theorem OwnG.keep {w w' : World} {e : TypeId} {G n c : Nat} {xs : List Nat} (h : OwnG w e G n c xs) (k : Kp w w') : OwnG w' e G n c xs := by
  have hl := h.lt
  obtain ⟨h0, h1, cur, hh, h3, h4⟩ := h
  exact ⟨h0, h1, cur, by rw [k.block G hl]; exact hh, h3, h4⟩
theorem OwnG.set {w : World} {e : TypeId} {G n c : Nat} {xs : List Nat} (h : OwnG w e G n c xs) (i : Nat) (x : Nat) : OwnG (w.setCell ⟨G, i, none⟩ (.float .f64 x)) e G n c (xs.set i x) := by
  obtain ⟨h0, h1, cur, hh, h3, h4⟩ := h
  refine ⟨by simpa using h0, h1, cur.setIfInBounds i (.float .f64 x), ?_, by simpa using h3, ?_⟩
  · simp [World.setCell, Array.getElem?_modify, hh]
  · rw [Array.toList_setIfInBounds, List.take_set, h4, List.map_set]
theorem OwnG.flts {w : World} {e : TypeId} {G n c : Nat} {xs : List Nat} (h : OwnG w e G n c xs) (hw : ∀ x ∈ xs, W64 x) (hr : n * 8 ≤ 140737488351232) : Flts w (.slice (some ⟨G, 0, none⟩) n c) xs := by
  have := (h.own (Nat.le_refl _)).flts hw (by rw [h.len]; exact hr)
  exact this

theorem OwnG.setOther {w : World} {e : TypeId} {G n c : Nat} {xs : List Nat} (h : OwnG w e G n c xs) {B : Nat} (hB : ¬ B = G) (i : Nat) (u : Value) : OwnG (w.setCell ⟨B, i, none⟩ u) e G n c xs := by
  obtain ⟨h0, h1, cur, hh, h3, h4⟩ := h
  exact ⟨h0, h1, cur, (Below.heap_setCell w ⟨B, i, none⟩ u G (fun e => hB e.symm)).trans hh, h3, h4⟩
theorem Kp.kx {G : Nat} {a b c : World} (h : Kp a b) (k : Kx G b c) : Kx G a c :=
  ⟨k.os.trans h.os, k.tape.trans h.tape, k.output.trans h.output, Nat.le_trans h.size k.size, fun i hi hne => (k.block i (Nat.lt_of_lt_of_le hi h.size) hne).trans (h.block i hi)⟩
theorem Kx.setNew {G : Nat} {a b : World} (h : Kx G a b) {B : Nat} (hB : a.heap.size ≤ B) (i : Nat) (v : Value) : Kx G a (b.setCell ⟨B, i, none⟩ v) :=
  ⟨h.os, h.tape, h.output, by simpa using h.size, fun k hk hne => (Below.heap_setCell b ⟨B, i, none⟩ v k (fun e => by simp at e; omega)).trans (h.block k hk hne)⟩

theorem Bx.keepx {w w' : World} {B G : Nat} {x y : Value} (h : Bx w B x y) (k : Kx G w w') (hne : ¬ B = G) : Bx w' B x y := by
  unfold Bx
  rw [k.block B h.lt (fun e => hne (by cases e; rfl))]
  exact h

end Go.Proofs.Ytefohemihiiceaa

/- Contracts of Map: of a tensor, of what is none, by no function. -/
namespace Go.Proofs.Ytefohemihiiceaa
open Go.RowKit

theorem Own.keepx {w w' : World} {e e' : TypeId} {base G n c : Nat} {v : Value} {xs : List Int} {ys : List Nat} (h : Own w e base v xs) (hG : OwnG w e' G n c ys) (hne : e ≠ e') (k : Kx G w w') : Own w' e base v xs := by
  obtain ⟨h0, h | ⟨g, cap, cur, rfl, hg, hh, r⟩⟩ := h
  · exact ⟨h0, .inl h⟩
  · obtain ⟨_, _, cur', hh', _⟩ := hG
    refine ⟨h0, .inr ⟨g, cap, cur, rfl, hg, ?_, r⟩⟩
    rw [k.block g (Array.getElem?_eq_some_iff.1 hh).1 (fun e1 => by cases e1; rw [hh] at hh'; injection hh' with e2; injection e2 with _ e3; exact hne e3)]
    exact hh

/-- two pairs laid into blocks of their own -/
theorem boxes_in (w : World) (x y u v : Value) : ∃ W, W = (w.alloc (.cells #[x, y] 44)).alloc (.cells #[u, v] 44) ∧ Bx W w.heap.size x y ∧ Bx W (w.heap.size + 1) u v ∧ Kp w W := by
  refine ⟨_, rfl, (Bx.made w x y).keep (Kp.alloc _ _), ?_, (Kp.alloc w _).trans (Kp.alloc _ _)⟩
  have := Bx.made (w.alloc (.cells #[x, y] 44)) u v
  have e1 : (w.alloc (Obj.cells #[x, y] 44)).heap.size = w.heap.size + 1 := by simp
  rw [e1] at this
  exact this

end Go.Proofs.Ytefohemihiiceaa
