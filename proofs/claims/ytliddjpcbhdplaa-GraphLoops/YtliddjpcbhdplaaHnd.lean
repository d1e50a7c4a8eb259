
/- What is handed back: a pair of rows that lie anew, or none, in one form. -/
import Derived.Test.YtliddjpcbhdplaaTenJ
import Derived.Test.YtliddjpcbhdplaaRealB
namespace Go.Proofs.Ytliddjpcbhdplaa
open Go.RowKit

theorem getD_w64 {d : List Nat} (h : ∀ x ∈ d, W64 x) (k : Nat) : W64 (d.getD k 0) := by
  by_cases hk : k < d.length
  · have : d.getD k 0 = d[k] := by simp [hk]
    rw [this]
    exact h _ (List.getElem_mem _)
  · have : d.getD k 0 = 0 := by simp [Nat.le_of_not_lt hk]
    rw [this]
    exact w64_0

theorem boxes3_in (w : World) (x y u v p q : Value) : ∃ W, W = ((w.alloc (.cells #[x, y] 38)).alloc (.cells #[u, v] 38)).alloc (.cells #[p, q] 38) ∧ Bx W w.heap.size x y ∧ Bx W (w.heap.size + 1) u v ∧ Bx W (w.heap.size + 2) p q ∧ Kp w W := by
  obtain ⟨W, hW, x1, x2, k⟩ := boxes_in w x y u v
  refine ⟨_, rfl, ?_, ?_, ?_, ?_⟩
  · rw [← hW]; exact x1.keep (Kp.alloc _ _)
  · rw [← hW]; exact x2.keep (Kp.alloc _ _)
  · have := Bx.made ((w.alloc (.cells #[x, y] 38)).alloc (.cells #[u, v] 38)) p q
    have e1 : ((w.alloc (Obj.cells #[x, y] 38)).alloc (Obj.cells #[u, v] 38)).heap.size = w.heap.size + 2 := by simp
    rw [e1] at this
    exact this
  · rw [← hW]; exact k.trans (Kp.alloc _ _)

/-- the box of a result is filled, and what it is handed back as -/
structure Fin (w w9 : World) (s : List Int) (a1 : Option Addr) (n1 c1 G : Nat) (c : Nat) (d : List Nat) : Prop where
  own : Own w9 3 w.heap.size (.slice a1 n1 c1) s
  gs : w.heap.size ≤ G
  og : OwnG w9 89 G d.length c d
  kp : Kp w w9

theorem Fin.mk' {w w1 w2 : World} {R : Nat} {s : List Int} {a1 : Option Addr} {n1 c1 G c : Nat} {d : List Nat} {x y : Value} (o : Own w2 3 w1.heap.size (.slice a1 n1 c1) s) (hG : w1.heap.size ≤ G) (og : OwnG w2 89 G d.length c d)
    (k1 : Kp w w1) (k2 : Kp w1 w2) (hb : Bx w1 R x y) (hR : w.heap.size ≤ R) : Fin w ((w2.setCell ⟨R, 0, none⟩ (.slice a1 n1 c1)).setCell ⟨R, 1, none⟩ (.slice (some ⟨G, 0, none⟩) d.length c)) s a1 n1 c1 G c d := by
  have hlt := hb.lt
  refine ⟨((o.setBelow hlt 0 _).setBelow hlt 1 _).weak k1.size, Nat.le_trans k1.size hG, ?_, ((k1.trans k2).set hR (i := 0) _).set hR (i := 1) _⟩
  have hne : ¬ R = G := by omega
  exact (og.setOther hne 0 _).setOther hne 1 _

theorem Fin.ints {w w9 : World} {s : List Int} {a1 : Option Addr} {n1 c1 G c : Nat} {d : List Nat} (h : Fin w w9 s a1 n1 c1 G c d) (hm : mayT s d = true) (hw : ∀ x ∈ s, I64 x) : Ints w9 (.slice a1 n1 c1) s :=
  h.own.ints hw (by have := (may_good (mayT_may hm)).1; omega)

theorem Fin.flts {w w9 : World} {s : List Int} {a1 : Option Addr} {n1 c1 G c : Nat} {d : List Nat} (h : Fin w w9 s a1 n1 c1 G c d) (hm : mayT s d = true) (hw : ∀ x ∈ d, W64 x) : Flts w9 (.slice (some ⟨G, 0, none⟩) d.length c) d :=
  h.og.flts hw (by have := mayT_len hm; have := may_prod (mayT_may hm); omega)

/-- a pair and an error handed back -/
def Hands (e : Ending) (w' : World) (s : List Int) (d : List Nat) (q : Int) : Prop :=
  ∃ a1 c1 a2 c2, e = .returned (.tuple #[.agg #[.slice a1 s.length c1, .slice a2 d.length c2], .int .i64 q]) ∧ Ints w' (.slice a1 s.length c1) s ∧ Flts w' (.slice a2 d.length c2) d

theorem Hands.nil (w' : World) (q : Int) : Hands (.returned (.tuple #[.agg #[.slice none 0 0, .slice none 0 0], .int .i64 q])) w' [] [] q := ⟨none, 0, none, 0, rfl, Ints.nil _, Flts.nil _⟩

theorem Hands.fin {w w9 : World} {s : List Int} {a1 : Option Addr} {n1 c1 G c : Nat} {d : List Nat} (h : Fin w w9 s a1 n1 c1 G c d) (hm : mayT s d = true) (hs : ∀ x ∈ s, I64 x) (hw : ∀ x ∈ d, W64 x) : Hands (.returned (.tuple #[.agg #[.slice a1 n1 c1, .slice (some ⟨G, 0, none⟩) d.length c], .int .i64 0])) w9 s d 0 := by
  have hi := h.ints hm hs
  obtain ⟨a, cap, e, _⟩ := hi.val
  injection e with e1 e2 e3
  subst e1 e2 e3
  exact ⟨_, _, _, _, rfl, hi, h.flts hm hw⟩

theorem cn_list {ds : List Nat} {n : Nat} {g : Nat → Nat} (hl : ds.length = n) (h : ∀ j, j < ds.length → cn (ds.getD j 0) = g j) : ds.map cn = (List.range n).map g := by
  subst hl
  apply List.ext_getElem
  · simp
  · intro i h1 h2
    have hi : i < ds.length := by simpa using h1
    have := h i hi
    simp only [List.getElem_map, List.getElem_range]
    rw [← this]
    simp [hi]

theorem flts_at' {w : World} {p : Option Addr} {n c : Nat} {d : List Nat} (h : Flts w (.slice p n c) d) (h0 : 0 < d.length) : ∃ b off, p = some ⟨b, off, none⟩ ∧ b < w.heap.size ∧ ∀ i, i < d.length → w.cell? ⟨b, off + i, none⟩ = some (.float .f64 (d.getD i 0)) := by
  obtain ⟨_, _, _, a, cap, e, hv⟩ := h
  cases e
  exact hv h0
theorem ints_at' {w : World} {p : Option Addr} {n c : Nat} {d : List Int} (h : Ints w (.slice p n c) d) (h0 : 0 < d.length) : ∃ b off, p = some ⟨b, off, none⟩ ∧ b < w.heap.size ∧ ∀ i, i < d.length → w.cell? ⟨b, off + i, none⟩ = some (.int .i64 (d.getD i 0)) := by
  obtain ⟨_, _, _, a, cap, e, hv⟩ := h
  cases e
  exact hv h0

theorem cell_other {B G o j : Nat} (h : ¬ B = G) (w : World) (v : Value) : (w.setCell ⟨G, j, none⟩ v).cell? ⟨B, o, none⟩ = w.cell? ⟨B, o, none⟩ :=
  World.cell?_setCell_other _ _ _ _ (fun e => h (congrArg Addr.block e).symm)

/-- a pair and an error handed back, the numbers with room behind them -/
def HandR (e : Ending) (w' : World) (s : List Int) (d : List Nat) (q : Int) : Prop :=
  ∃ a1 c1 a2 c2, e = .returned (.tuple #[.agg #[.slice a1 s.length c1, .slice a2 d.length c2], .int .i64 q]) ∧ Ints w' (.slice a1 s.length c1) s ∧ Flts w' (.slice a2 d.length c2) d ∧ d.length ≤ c2 ∧ c2 ≤ 9223372036854775807
theorem HandR.nil (w' : World) (q : Int) : HandR (.returned (.tuple #[.agg #[.slice none 0 0, .slice none 0 0], .int .i64 q])) w' [] [] q := ⟨none, 0, none, 0, rfl, Ints.nil _, Flts.nil _, Nat.le_refl _, by omega⟩
theorem HandR.fin {w w9 : World} {s : List Int} {a1 : Option Addr} {n1 c1 G c : Nat} {d : List Nat} (h : Fin w w9 s a1 n1 c1 G c d) (hm : mayT s d = true) (hs : ∀ x ∈ s, I64 x) (hw : ∀ x ∈ d, W64 x) : HandR (.returned (.tuple #[.agg #[.slice a1 n1 c1, .slice (some ⟨G, 0, none⟩) d.length c], .int .i64 0])) w9 s d 0 := by
  have hi := h.ints hm hs
  obtain ⟨a, cap, e, _⟩ := hi.val
  injection e with e1 e2 e3
  subst e1 e2 e3
  exact ⟨_, _, _, _, rfl, hi, h.flts hm hw, h.og.room.1, by have := h.og.room.2; unfold maxLen at this; omega⟩

end Go.Proofs.Ytliddjpcbhdplaa
