
/- Contracts of the steps of hooks. -/
import Derived.Test.YtliddjpcbhdplaaHokA
namespace Go.Proofs.Ytliddjpcbhdplaa
open Go.RowKit

/-- a hook as it is handed over -/
def hkV (h : Hk) : Value := .agg #[.int .i64 h.k, .float .f64 h.x]

/-- what a step hands back -/
def stE (h : Hk) (d : List Nat) : Int := if h.k = 4 ∧ anyB endB d = true then 8 else 0
def stS (h : Hk) (s : List Int) (d : List Nat) : List Int := if h.k = 4 ∧ anyB endB d = true then [] else s
def stD (h : Hk) (d : List Nat) : List Nat := if h.k = 4 ∧ anyB endB d = true then [] else d.map (hkC h)
theorem st_ok {h : Hk} {s : List Int} {d : List Nat} (e : h.k ≠ 4 ∨ anyB endB d = false) : stE h d = 0 ∧ stS h s d = s ∧ stD h d = d.map (hkC h) := by
  have q : ¬ (h.k = 4 ∧ anyB endB d = true) := by
    rintro ⟨a, b⟩
    rcases e with e | e
    · exact e a
    · rw [e] at b; cases b
  exact ⟨if_neg q, if_neg q, if_neg q⟩
theorem st_bad {h : Hk} {s : List Int} {d : List Nat} (e : h.k = 4) (b : anyB endB d = true) : stE h d = 8 ∧ stS h s d = [] ∧ stD h d = [] := ⟨if_pos ⟨e, b⟩, if_pos ⟨e, b⟩, if_pos ⟨e, b⟩⟩

/-- the contract of all four -/
def Steps (g : Nat) (h : Hk) : Prop := ∀ (sv dv : Value) (s : List Int) (d : List Nat) (w : World), Ints w sv s → Flts w dv d → Roomy dv → mayT s d = true →
  Calls Try.prog g #[.agg #[.int .i64 h.k, .float .f64 h.x], .agg #[sv, dv]] w fun e w' => ∃ ds, HandR e w' (stS h s d) ds (stE h d) ∧ ds.map cn = stD h d ∧ Kp w w'

theorem two_pairs (t : TypeId) (w : World) (a b x y u v : Value) : ∃ W, W = ((w.alloc (.cells #[a, b] t)).alloc (.cells #[x, y] 38)).alloc (.cells #[u, v] 38) ∧ Px t W w.heap.size a b ∧ Bx W (w.heap.size + 1) x y ∧ Bx W (w.heap.size + 2) u v ∧ Kp w W := by
  obtain ⟨W, hW, x1, x2, k⟩ := boxes_in (w.alloc (.cells #[a, b] t)) x y u v
  have e1 : (w.alloc (Obj.cells #[a, b] t)).heap.size = w.heap.size + 1 := by simp
  rw [e1] at x1 x2
  exact ⟨W, hW, (Px.made t w a b).keep k, x1, x2, (Kp.alloc w _).trans k⟩

end Go.Proofs.Ytliddjpcbhdplaa
