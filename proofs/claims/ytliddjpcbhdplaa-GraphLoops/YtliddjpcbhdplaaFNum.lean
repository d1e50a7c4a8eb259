
/- Numbers that are none but one, literal slices of numbers, what is left of a contract. -/
import Derived.Test.YtliddjpcbhdplaaRealA
namespace Go.Proofs.Ytliddjpcbhdplaa
open Go.RowKit

/-- a slice's room is not below its length -/
def Roomy (v : Value) : Prop := ∀ a n c, v = .slice a n c → n ≤ c ∧ c ≤ 9223372036854775807

theorem lit_flts (w : World) (e : TypeId) (ys : List Nat) (c : Array Value) (B n : Nat) (hc : c = (ys.map (Value.float .f64)).toArray) (hB : B = w.heap.size) (hn : ys.length = n) (hw : ∀ x ∈ ys, W64 x) (hr : n * 8 ≤ 140737488351232) :
    Flts (w.alloc (.cells c e)) (.slice (some ⟨B, 0, none⟩) n n) ys := by
  subst hc hB
  refine BlkF.flts (e := e) ?_ hn hw hr
  unfold BlkF
  simp only [World.alloc, Array.getElem?_push_size]

theorem roomy (a : Option Addr) (n c : Nat) (h : n ≤ c) (h' : c ≤ 9223372036854775807) : Roomy (.slice a n c) := by
  intro a n c e
  cases e
  exact ⟨h, h'⟩

theorem is_num {r c L : Nat} (h : cn r = c) (hc : c = L) (hL : nanW L = false) : r = L := by
  subst hc
  have : nanW r = false := by rw [← nan_cn, h]; exact hL
  rw [← h, cn_num this]

theorem num_of {f : Nat} {args : Array Value} {w : World} {c L : Nat} (h : Calls Try.prog f args w fun e w' => ∃ r, e = .returned (.float .f64 r) ∧ (cn r = c ∧ W64 r) ∧ w'.heap = w.heap ∧ Kp w w') (hc : c = L) (hL : nanW L = false) :
    Calls Try.prog f args w fun e w' => e = .returned (.float .f64 L) ∧ Kp w w' :=
  h.mono (by
    rintro e w' ⟨r, rfl, ⟨h1, _⟩, _, k⟩
    exact ⟨by rw [is_num h1 hc hL], k⟩)

theorem kp_of {f : Nat} {args : Array Value} {w : World} {v : Value} (h : Calls Try.prog f args w fun e w' => e = .returned v ∧ w' = w) : Calls Try.prog f args w fun e w' => e = .returned v ∧ Kp w w' :=
  h.mono (by
    rintro e w' ⟨rfl, rfl⟩
    exact ⟨rfl, Kp.refl _⟩)

end Go.Proofs.Ytliddjpcbhdplaa
