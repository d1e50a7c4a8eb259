
/- Contracts of the steps of hooks. -/
import Derived.Test.YtlfjclnocbohbaaHokA
namespace Go.Proofs.Ytlfjclnocbohbaa
open Go.RowKit

/-- a hook as it is handed over -/
def hkV (h : Hk) : Value := .agg #[.int .i64 h.k, .float .f64 h.x]

set_option maxHeartbeats 1000000 in
theorem htimes_any (k : Int) (X x : Nat) (w : World) :
    Calls Try.prog 63 #[.agg #[.int .i64 k, .float .f64 X], .float .f64 x] w fun e w' => ∃ r, e = .returned (.float .f64 r) ∧ (cn r = muC x X ∧ W64 r) ∧ Kp w w' := by
  go_enter Try.func63, Try.ntmps63
  go_wp2_with fail
  have K0 := hide (Kp.alloc w (.cells #[.int .i64 k, .float .f64 X] 71))
  generalize w.alloc (.cells #[.int .i64 k, .float .f64 X] 71) = W at *
  refine (times_any x X W).mono ?_
  rintro e w1 ⟨r, rfl, hr, -, k1⟩
  have HR := hide hr
  have K1 := hide ((unhide K0).trans k1)
  clear hr k1
  go_wp2
  go_ret
  exact ⟨r, rfl, unhide HR, unhide K1⟩

set_option maxHeartbeats 1000000 in
theorem hwithin_any (k : Int) (X x : Nat) (w : World) (hX : W64 X) (hx : W64 x) :
    Calls Try.prog 64 #[.agg #[.int .i64 k, .float .f64 X], .float .f64 x] w fun e w' => ∃ r, e = .returned (.float .f64 r) ∧ (cn r = cn (clN X x) ∧ W64 r) ∧ Kp w w' := by
  have hn := fun w => run_neg_any (P := Try.prog) w X (ngN X) rfl
  have W1 := hide (clN_w64 hX hx)
  have K0 := hide (Kp.alloc w (.cells #[.int .i64 k, .float .f64 X] 71))
  clear hX hx
  by_cases h1 : (FloatKind.f64.format.order x (ngN X) == some .lt) = true
  · have E := hide (clN_lt h1)
    generalize ngN X = N at *
    go_enter Try.func64, Try.ntmps64
    go_wp2
    go_ret
    exact ⟨_, rfl, ⟨by rw [unhide E], by rw [← unhide E]; exact unhide W1⟩, unhide K0⟩
  have h1 := eq_false_of_ne_true h1
  by_cases h2 : (FloatKind.f64.format.order x X == some .gt) = true
  · have E := hide (clN_gt h1 h2)
    generalize ngN X = N at *
    go_enter Try.func64, Try.ntmps64
    go_wp2
    go_ret
    exact ⟨_, rfl, ⟨by rw [unhide E], by rw [← unhide E]; exact unhide W1⟩, unhide K0⟩
  have h2 := eq_false_of_ne_true h2
  have E := hide (clN_in h1 h2)
  generalize ngN X = N at *
  go_enter Try.func64, Try.ntmps64
  go_wp2
  go_ret
  exact ⟨_, rfl, ⟨by rw [unhide E], by rw [← unhide E]; exact unhide W1⟩, unhide K0⟩

/-- what a step hands back -/
def stE (h : Hk) (d : List Nat) : Int := if h.k = 4 ∧ anyB endB d = true then 8 else 0
def stS (h : Hk) (s : List Int) (d : List Nat) : List Int := if h.k = 4 ∧ anyB endB d = true then [] else s
def stD (h : Hk) (d : List Nat) : List Nat := if h.k = 4 ∧ anyB endB d = true then [] else d.map (hkC h)
theorem st_ok {h : Hk} {s : List Int} {d : List Nat} (e : h.k ≠ 4 ∨ anyB endB d = false) : stE h d = 0 ∧ stS h s d = s ∧ stD h d = d.map (hkC h) := by
  have q : ¬ (h.k = 4 ∧ anyB endB d = true) := by
    rintro ⟨a, b⟩
    rcases e with e | e
    · exact e a
    · rw [e] at b; cases b
  exact ⟨if_neg q, if_neg q, if_neg q⟩
theorem st_bad {h : Hk} {s : List Int} {d : List Nat} (e : h.k = 4) (b : anyB endB d = true) : stE h d = 8 ∧ stS h s d = [] ∧ stD h d = [] := ⟨if_pos ⟨e, b⟩, if_pos ⟨e, b⟩, if_pos ⟨e, b⟩⟩

/-- the contract of all four -/
def Steps (g : Nat) (h : Hk) : Prop := ∀ (sv dv : Value) (s : List Int) (d : List Nat) (w : World), Ints w sv s → Flts w dv d → Roomy dv → mayT s d = true →
  Calls Try.prog g #[.agg #[.int .i64 h.k, .float .f64 h.x], .agg #[sv, dv]] w fun e w' => ∃ ds, HandR e w' (stS h s d) ds (stE h d) ∧ ds.map cn = stD h d ∧ Kp w w'

theorem two_pairs (t : TypeId) (w : World) (a b x y u v : Value) : ∃ W, W = ((w.alloc (.cells #[a, b] t)).alloc (.cells #[x, y] 31)).alloc (.cells #[u, v] 31) ∧ Px t W w.heap.size a b ∧ Bx W (w.heap.size + 1) x y ∧ Bx W (w.heap.size + 2) u v ∧ Kp w W := by
  obtain ⟨W, hW, x1, x2, k⟩ := boxes_in (w.alloc (.cells #[a, b] t)) x y u v
  have e1 : (w.alloc (Obj.cells #[a, b] t)).heap.size = w.heap.size + 1 := by simp
  rw [e1] at x1 x2
  exact ⟨W, hW, (Px.made t w a b).keep k, x1, x2, (Kp.alloc w _).trans k⟩

end Go.Proofs.Ytlfjclnocbohbaa
