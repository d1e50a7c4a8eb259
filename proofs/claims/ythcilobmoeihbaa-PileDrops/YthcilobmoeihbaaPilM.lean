
/- Memory of the call's own beside its pile: what is written there leaves the pile alone, what the pile does leaves it alone. -/
import Derived.Test.YthcilobmoeihbaaPilI
namespace Go.Proofs.Ythcilobmoeihbaa
open Go.RowKit

/-- block T is neither a pile's box nor a row of entries -/
def Oth (w : World) (T : Nat) : Prop := ∃ (c : Array Value) (t : TypeId) (f : Nat × Nat), w.heap[T]? = some (Obj.cells c t f) ∧ t ≠ 56 ∧ t ≠ 60
theorem Oth.kty {w w' : World} {T : Nat} (h : Oth w T) (k : Kty w w') : Oth w' T := by
  obtain ⟨c, t, f, h1, h2, h3⟩ := h
  exact ⟨c, t, f, (k T c t f h1 h2 h3).trans h1, h2, h3⟩
theorem Oth.boxed {w : World} {T P : Nat} {v : Value} (h : Oth w T) (hb : Boxed w P 56 v) : P ≠ T := by
  rintro rfl
  obtain ⟨c, t, f, h1, h2, h3⟩ := h
  have := (show w.heap[P]? = _ from hb).symm.trans h1
  simp at this
  exact h2 this.2.1.symm
theorem Oth.own {w : World} {T : Nat} {v : Value} {ms : List (Int × Int)} (h : Oth w T) (ho : OwnP w v ms) : v.ownBlock ≠ some T := by
  intro e
  obtain ⟨c, t, f, h1, h2, h3⟩ := h
  obtain ⟨_, ⟨e2, _⟩ | ⟨g, cap', cur, e2, _, hh, _⟩⟩ := ho
  · rw [e2] at e; cases e
  · rw [e2] at e
    injection e with e3
    subst e3
    have := h1.symm.trans hh
    simp at this
    exact h3 this.2.1
theorem Pile.other {w w' : World} {P T : Nat} {G : Option Nat} {ss : List (Int × Int)} (h : Pile w P G ss) (ho : Oth w T) (k : w.grownBy w' (some T)) : Pile w' P G ss := by
  obtain ⟨h1, h2, a, cap, ys, hb, hw, hr⟩ := h
  exact ⟨h1, h2, a, cap, ys, hb.kept k (by simpa using ho.boxed hb), World.ownsRow.kept hw k (.inr (ho.own hw)), hr⟩
theorem kp_other {w0 w w' : World} {T : Nat} (k0 : Kp w0 w) (k : w.grownBy w' (some T)) (hT : w0.heap.size ≤ T) : Kp w0 w' :=
  ⟨k.os.trans k0.os, k.tape.trans k0.tape, k.output.trans k0.output, Nat.le_trans k0.size k.size, fun i hi => (k.block i (Nat.lt_of_lt_of_le hi k0.size) (by simp; omega)).trans (k0.block i hi)⟩
theorem MyP.other {w0 w w' : World} {P T : Nat} {ss : List (Int × Int)} (h : MyP w0 w P ss) (ho : Oth w T) (hT : w0.heap.size ≤ T) (k : w.grownBy w' (some T)) : MyP w0 w' P ss := by
  obtain ⟨⟨G, hp, hG⟩, h2, h3⟩ := h
  exact ⟨⟨G, hp.other ho k, hG⟩, h2, kp_other h3 k hT⟩
theorem grown_set (w : World) (T i : Nat) (v : Value) : w.grownBy (w.setCell ⟨T, i, none⟩ v) (some T) :=
  ⟨rfl, rfl, rfl, (KeepsWalks.setCell w _ v).size, fun k _ hk => Below.heap_setCell _ _ _ k (fun e => hk (by rw [e]))⟩

theorem Blk.oth {w : World} {e : TypeId} {T : Nat} {ys : List Int} (h : Blk w e T ys) (h1 : e ≠ 56) (h2 : e ≠ 60) : Oth w T := ⟨_, e, _, h, h1, h2⟩
theorem Blk.kty {w w' : World} {e : TypeId} {T : Nat} {ys : List Int} (h : Blk w e T ys) (k : Kty w w') (h1 : e ≠ 56) (h2 : e ≠ 60) : Blk w' e T ys := (k T _ e _ h h1 h2).trans h

end Go.Proofs.Ythcilobmoeihbaa
