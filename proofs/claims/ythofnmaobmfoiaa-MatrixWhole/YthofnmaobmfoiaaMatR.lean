
/- Steps of a region that draws its order and makes three tensors by three calls: its states, and what each step makes of them. -/
import Derived.Test.YthofnmaobmfoiaaMatO
import Derived.Deep.RegionHeld3
namespace Go.Proofs.Ythofnmaobmfoiaa
open Go.RowKit

/-- six slots of a frame written over -/
def ch (A : Act) (u5 u6 u7 u37 u49 u61 : Value) : Act := ⟨(((((A.tmps.setIfInBounds 5 u5).setIfInBounds 6 u6).setIfInBounds 7 u7).setIfInBounds 37 u37).setIfInBounds 49 u49).setIfInBounds 61 u61, A.defers⟩
theorem set_set {a : Array Value} {i : Nat} {u v : Value} : (a.setIfInBounds i u).setIfInBounds i v = a.setIfInBounds i v := by
  obtain ⟨l⟩ := a
  simp [List.setIfInBounds_toArray, List.set_set]
section
variable (A : Act) (u5 u6 u7 u37 u49 u61 v : Value)
theorem ch_put5 : (ch A u5 u6 u7 u37 u49 u61).put (some 5) v = ch A v u6 u7 u37 u49 u61 := by
  simp only [ch, Act.put]
  rw [Array.setIfInBounds_comm _ _ (by decide : (61 : Nat) ≠ 5), Array.setIfInBounds_comm _ _ (by decide : (49 : Nat) ≠ 5), Array.setIfInBounds_comm _ _ (by decide : (37 : Nat) ≠ 5), Array.setIfInBounds_comm _ _ (by decide : (7 : Nat) ≠ 5), Array.setIfInBounds_comm _ _ (by decide : (6 : Nat) ≠ 5), set_set]
theorem ch_put6 : (ch A u5 u6 u7 u37 u49 u61).put (some 6) v = ch A u5 v u7 u37 u49 u61 := by
  simp only [ch, Act.put]
  rw [Array.setIfInBounds_comm _ _ (by decide : (61 : Nat) ≠ 6), Array.setIfInBounds_comm _ _ (by decide : (49 : Nat) ≠ 6), Array.setIfInBounds_comm _ _ (by decide : (37 : Nat) ≠ 6), Array.setIfInBounds_comm _ _ (by decide : (7 : Nat) ≠ 6), set_set]
theorem ch_put7 : (ch A u5 u6 u7 u37 u49 u61).put (some 7) v = ch A u5 u6 v u37 u49 u61 := by
  simp only [ch, Act.put]
  rw [Array.setIfInBounds_comm _ _ (by decide : (61 : Nat) ≠ 7), Array.setIfInBounds_comm _ _ (by decide : (49 : Nat) ≠ 7), Array.setIfInBounds_comm _ _ (by decide : (37 : Nat) ≠ 7), set_set]
theorem ch_put37 : (ch A u5 u6 u7 u37 u49 u61).put (some 37) v = ch A u5 u6 u7 v u49 u61 := by
  simp only [ch, Act.put]
  rw [Array.setIfInBounds_comm _ _ (by decide : (61 : Nat) ≠ 37), Array.setIfInBounds_comm _ _ (by decide : (49 : Nat) ≠ 37), set_set]
theorem ch_put49 : (ch A u5 u6 u7 u37 u49 u61).put (some 49) v = ch A u5 u6 u7 u37 v u61 := by
  simp only [ch, Act.put]
  rw [Array.setIfInBounds_comm _ _ (by decide : (61 : Nat) ≠ 49), set_set]
theorem ch_put61 : (ch A u5 u6 u7 u37 u49 u61).put (some 61) v = ch A u5 u6 u7 u37 u49 v := by
  simp only [ch, Act.put]
  rw [set_set]
theorem ch_putn : (ch A u5 u6 u7 u37 u49 u61).put none v = ch A u5 u6 u7 u37 u49 u61 := rfl
end

/-- a box that is made -/
theorem step_alloc {ops : Array Oper} {o : Oper} {a : Act} {w : World} {K : Act → World → Prop} {Q : Exit → Act → World → Prop} {E : Prop}
    (hg : o.guard = none) (hop : o.op = Op.alloc 28) (h : K (a.put o.dst (.pointer (some ⟨w.heap.size, 0, none⟩))) (w.alloc (.cells #[.slice none 0 0, .slice none 0 0] 28))) :
    if Region.wanted o (yielded ops a.tmps) = true then Oper.wp Try.prog o a w K Q else E := by
  have hw : Region.wanted o (yielded ops a.tmps) = true := by simp [Region.wanted, hg]
  rw [if_pos hw]
  obtain ⟨dst, op, ty, pos, after, guard⟩ := o
  cases hop
  unfold Oper.wp
  go_simp
  exact h

/-- a call of what lays a matrix -/
theorem step_call {ops : Array Oper} {o : Oper} {a : Act} {w : World} {K : Act → World → Prop} {Q : Exit → Act → World → Prop} {E : Prop}
    (hg : o.guard = none) (k1 k2 k3 : Nat) (v4 : Value) (ts : Array TypeId) (hop : o.op = Op.call { callee := Callee.value (Operand.func 5), args := #[.tmp k1, .tmp k2, .tmp k3, .const v4], argTypes := ts })
    (v1 v2 v3 : Value) (e1 : a.tmps[k1]?.getD undef = v1) (e2 : a.tmps[k2]?.getD undef = v2) (e3 : a.tmps[k3]?.getD undef = v3)
    (h : Calls Try.prog 5 #[v1, v2, v3, v4] w fun e w' => ∃ v, e = .returned v ∧ K (a.put o.dst v) w') :
    if Region.wanted o (yielded ops a.tmps) = true then Oper.wp Try.prog o a w K Q else E := by
  have hw : Region.wanted o (yielded ops a.tmps) = true := by simp [Region.wanted, hg]
  rw [if_pos hw]
  obtain ⟨dst, op, ty, pos, after, guard⟩ := o
  cases hop
  unfold Oper.wp
  go_simp
  refine h.mono ?_
  rintro e w' ⟨v, rfl, hk⟩
  exact hk

/-- a pair stored into its box -/
theorem step_store {ops : Array Oper} {o : Oper} {a : Act} {w : World} {K : Act → World → Prop} {Q : Exit → Act → World → Prop} {E : Prop}
    (hg : o.guard = none) (k1 k2 : Nat) (hop : o.op = Op.store 28 (.tmp k1) (.tmp k2)) (hd : o.dst = none) (T : Nat) (a1 a2 : Option Addr) (n1 c1 n2 c2 : Nat) (x y : Value) (e1 : a.tmps[k1]?.getD undef = .pointer (some ⟨T, 0, none⟩)) (e2 : a.tmps[k2]?.getD undef = .agg #[.slice a1 n1 c1, .slice a2 n2 c2]) (hb : Bx w T x y)
    (h : K a ((w.setCell ⟨T, 0, none⟩ (.slice a1 n1 c1)).setCell ⟨T, 1, none⟩ (.slice a2 n2 c2))) :
    if Region.wanted o (yielded ops a.tmps) = true then Oper.wp Try.prog o a w K Q else E := by
  have hw : Region.wanted o (yielded ops a.tmps) = true := by simp [Region.wanted, hg]
  rw [if_pos hw]
  obtain ⟨dst, op, ty, pos, after, guard⟩ := o
  cases hop
  cases hd
  obtain ⟨b0, b1, b2, b3, b4⟩ := hb.o
  unfold Oper.wp
  go_simp
  exact h

/-- a tensor that was made: its two rows are its own -/
def Tn (w1 w : World) (u : Value) (a b : Nat) (D : List Nat) : Prop := ∃ L a2 n2 c2, u = .agg #[.slice (some ⟨L, 0, none⟩) 2 2, .slice a2 n2 c2] ∧ Own w 3 w1.heap.size (.slice (some ⟨L, 0, none⟩) 2 2) [(a : Int), (b : Int)] ∧ OwnF w 36 w1.heap.size (.slice a2 n2 c2) D
theorem Tn.keep {w1 w w' : World} {u : Value} {a b : Nat} {D : List Nat} (h : Tn w1 w u a b D) (k : Kp w w') : Tn w1 w' u a b D := by
  obtain ⟨L, a2, n2, c2, e, o, d⟩ := h
  exact ⟨L, a2, n2, c2, e, o.keep k, d.keep k⟩
theorem Tn.set {w1 w : World} {u : Value} {a b T : Nat} {D : List Nat} {x y : Value} (h : Tn w1 w u a b D) (hb : Bx w T x y) (p q : Value) : Tn w1 ((w.setCell ⟨T, 0, none⟩ p).setCell ⟨T, 1, none⟩ q) u a b D := by
  obtain ⟨L, a2, n2, c2, e, o, d⟩ := h
  exact ⟨L, a2, n2, c2, e, o.setBx hb (by decide) p q, d.setBx5 hb (by decide) p q⟩
def pt (T : Nat) : Value := .pointer (some ⟨T, 0, none⟩)
theorem pt_inj {T T' : Nat} (h : pt T = pt T') : T = T' := by
  unfold pt at h
  injection h with h
  injection h with h
  injection h
theorem Bx.far {w : World} {T B : Nat} {x y : Value} (h : Bx w B x y) (hne : B ≠ T) (p q : Value) : Bx ((w.setCell ⟨T, 0, none⟩ p).setCell ⟨T, 1, none⟩ q) B x y := by
  unfold Bx
  rw [Below.heap_setCell _ ⟨T, 1, none⟩ q B hne, Below.heap_setCell w ⟨T, 0, none⟩ p B hne]
  exact h

/-- how far the region is: which boxes are made, which tensors, which of them are stored -/
structure St (w1 w : World) (b5 b6 b7 c1 c2 c3 s1 s2 s3 : Bool) (u5 u6 u7 u37 u49 u61 : Value) (n0 n1 n2 n3 : Nat) (D1 D2 D3 : List Nat) : Prop where
  kp : Kp w1 w
  x5 : b5 = true → ∃ T x y, u5 = pt T ∧ w1.heap.size ≤ T ∧ Bx w T x y
  x6 : b6 = true → ∃ T x y, u6 = pt T ∧ w1.heap.size ≤ T ∧ Bx w T x y
  x7 : b7 = true → ∃ T x y, u7 = pt T ∧ w1.heap.size ≤ T ∧ Bx w T x y
  n56 : b5 = true → b6 = true → u5 ≠ u6
  n57 : b5 = true → b7 = true → u5 ≠ u7
  n67 : b6 = true → b7 = true → u6 ≠ u7
  t1 : c1 = true → Tn w1 w u37 n0 n1 D1
  t2 : c2 = true → Tn w1 w u49 n1 n2 D2
  t3 : c3 = true → Tn w1 w u61 n2 n3 D3
  y5 : s1 = true → b5 = true ∧ ∃ T p q, u5 = pt T ∧ u37 = .agg #[p, q] ∧ Bx w T p q
  y6 : s2 = true → b6 = true ∧ ∃ T p q, u6 = pt T ∧ u49 = .agg #[p, q] ∧ Bx w T p q
  y7 : s3 = true → b7 = true ∧ ∃ T p q, u7 = pt T ∧ u61 = .agg #[p, q] ∧ Bx w T p q
section
variable {w1 w w' : World} {b5 b6 b7 c1 c2 c3 s1 s2 s3 : Bool} {u5 u6 u7 u37 u49 u61 : Value} {n0 n1 n2 n3 : Nat} {D1 D2 D3 : List Nat}
theorem St.keep (h : St w1 w b5 b6 b7 c1 c2 c3 s1 s2 s3 u5 u6 u7 u37 u49 u61 n0 n1 n2 n3 D1 D2 D3) (k : Kp w w') : St w1 w' b5 b6 b7 c1 c2 c3 s1 s2 s3 u5 u6 u7 u37 u49 u61 n0 n1 n2 n3 D1 D2 D3 where
  kp := h.kp.trans k
  x5 := fun e => by obtain ⟨T, x, y, e1, e2, e3⟩ := h.x5 e; exact ⟨T, x, y, e1, e2, e3.keep k⟩
  x6 := fun e => by obtain ⟨T, x, y, e1, e2, e3⟩ := h.x6 e; exact ⟨T, x, y, e1, e2, e3.keep k⟩
  x7 := fun e => by obtain ⟨T, x, y, e1, e2, e3⟩ := h.x7 e; exact ⟨T, x, y, e1, e2, e3.keep k⟩
  n56 := h.n56
  n57 := h.n57
  n67 := h.n67
  t1 := fun e => (h.t1 e).keep k
  t2 := fun e => (h.t2 e).keep k
  t3 := fun e => (h.t3 e).keep k
  y5 := fun e => by obtain ⟨e0, T, p, q, e1, e2, e3⟩ := h.y5 e; exact ⟨e0, T, p, q, e1, e2, e3.keep k⟩
  y6 := fun e => by obtain ⟨e0, T, p, q, e1, e2, e3⟩ := h.y6 e; exact ⟨e0, T, p, q, e1, e2, e3.keep k⟩
  y7 := fun e => by obtain ⟨e0, T, p, q, e1, e2, e3⟩ := h.y7 e; exact ⟨e0, T, p, q, e1, e2, e3.keep k⟩
theorem St.al5 (h : St w1 w false b6 b7 c1 c2 c3 false s2 s3 u5 u6 u7 u37 u49 u61 n0 n1 n2 n3 D1 D2 D3) : St w1 (w.alloc (.cells #[.slice none 0 0, .slice none 0 0] 28)) true b6 b7 c1 c2 c3 false s2 s3 (pt w.heap.size) u6 u7 u37 u49 u61 n0 n1 n2 n3 D1 D2 D3 where
  kp := (h.keep (Kp.alloc w (.cells #[.slice none 0 0, .slice none 0 0] 28))).kp
  x5 := fun _ => ⟨w.heap.size, _, _, rfl, h.kp.size, Bx.made w _ _⟩
  x6 := (h.keep (Kp.alloc w (.cells #[.slice none 0 0, .slice none 0 0] 28))).x6
  x7 := (h.keep (Kp.alloc w (.cells #[.slice none 0 0, .slice none 0 0] 28))).x7
  n56 := fun _ e => by
    obtain ⟨T, x, y, e1, e2, e3⟩ := h.x6 e
    rw [e1]
    intro e4
    have := pt_inj e4
    have := e3.lt
    omega
  n57 := fun _ e => by
    obtain ⟨T, x, y, e1, e2, e3⟩ := h.x7 e
    rw [e1]
    intro e4
    have := pt_inj e4
    have := e3.lt
    omega
  n67 := h.n67
  t1 := (h.keep (Kp.alloc w (.cells #[.slice none 0 0, .slice none 0 0] 28))).t1
  t2 := (h.keep (Kp.alloc w (.cells #[.slice none 0 0, .slice none 0 0] 28))).t2
  t3 := (h.keep (Kp.alloc w (.cells #[.slice none 0 0, .slice none 0 0] 28))).t3
  y5 := fun e => by cases e
  y6 := (h.keep (Kp.alloc w (.cells #[.slice none 0 0, .slice none 0 0] 28))).y6
  y7 := (h.keep (Kp.alloc w (.cells #[.slice none 0 0, .slice none 0 0] 28))).y7
theorem St.al6 (h : St w1 w b5 false b7 c1 c2 c3 s1 false s3 u5 u6 u7 u37 u49 u61 n0 n1 n2 n3 D1 D2 D3) : St w1 (w.alloc (.cells #[.slice none 0 0, .slice none 0 0] 28)) b5 true b7 c1 c2 c3 s1 false s3 u5 (pt w.heap.size) u7 u37 u49 u61 n0 n1 n2 n3 D1 D2 D3 where
  kp := (h.keep (Kp.alloc w (.cells #[.slice none 0 0, .slice none 0 0] 28))).kp
  x5 := (h.keep (Kp.alloc w (.cells #[.slice none 0 0, .slice none 0 0] 28))).x5
  x6 := fun _ => ⟨w.heap.size, _, _, rfl, h.kp.size, Bx.made w _ _⟩
  x7 := (h.keep (Kp.alloc w (.cells #[.slice none 0 0, .slice none 0 0] 28))).x7
  n56 := fun e _ => by
    obtain ⟨T, x, y, e1, e2, e3⟩ := h.x5 e
    rw [e1]
    intro e4
    have := pt_inj e4
    have := e3.lt
    omega
  n57 := h.n57
  n67 := fun _ e => by
    obtain ⟨T, x, y, e1, e2, e3⟩ := h.x7 e
    rw [e1]
    intro e4
    have := pt_inj e4
    have := e3.lt
    omega
  t1 := (h.keep (Kp.alloc w (.cells #[.slice none 0 0, .slice none 0 0] 28))).t1
  t2 := (h.keep (Kp.alloc w (.cells #[.slice none 0 0, .slice none 0 0] 28))).t2
  t3 := (h.keep (Kp.alloc w (.cells #[.slice none 0 0, .slice none 0 0] 28))).t3
  y5 := (h.keep (Kp.alloc w (.cells #[.slice none 0 0, .slice none 0 0] 28))).y5
  y6 := fun e => by cases e
  y7 := (h.keep (Kp.alloc w (.cells #[.slice none 0 0, .slice none 0 0] 28))).y7
theorem St.al7 (h : St w1 w b5 b6 false c1 c2 c3 s1 s2 false u5 u6 u7 u37 u49 u61 n0 n1 n2 n3 D1 D2 D3) : St w1 (w.alloc (.cells #[.slice none 0 0, .slice none 0 0] 28)) b5 b6 true c1 c2 c3 s1 s2 false u5 u6 (pt w.heap.size) u37 u49 u61 n0 n1 n2 n3 D1 D2 D3 where
  kp := (h.keep (Kp.alloc w (.cells #[.slice none 0 0, .slice none 0 0] 28))).kp
  x5 := (h.keep (Kp.alloc w (.cells #[.slice none 0 0, .slice none 0 0] 28))).x5
  x6 := (h.keep (Kp.alloc w (.cells #[.slice none 0 0, .slice none 0 0] 28))).x6
  x7 := fun _ => ⟨w.heap.size, _, _, rfl, h.kp.size, Bx.made w _ _⟩
  n56 := h.n56
  n57 := fun e _ => by
    obtain ⟨T, x, y, e1, e2, e3⟩ := h.x5 e
    rw [e1]
    intro e4
    have := pt_inj e4
    have := e3.lt
    omega
  n67 := fun e _ => by
    obtain ⟨T, x, y, e1, e2, e3⟩ := h.x6 e
    rw [e1]
    intro e4
    have := pt_inj e4
    have := e3.lt
    omega
  t1 := (h.keep (Kp.alloc w (.cells #[.slice none 0 0, .slice none 0 0] 28))).t1
  t2 := (h.keep (Kp.alloc w (.cells #[.slice none 0 0, .slice none 0 0] 28))).t2
  t3 := (h.keep (Kp.alloc w (.cells #[.slice none 0 0, .slice none 0 0] 28))).t3
  y5 := (h.keep (Kp.alloc w (.cells #[.slice none 0 0, .slice none 0 0] 28))).y5
  y6 := (h.keep (Kp.alloc w (.cells #[.slice none 0 0, .slice none 0 0] 28))).y6
  y7 := fun e => by cases e
theorem St.ca1 {v : Value} (h : St w1 w b5 b6 b7 false c2 c3 false false false u5 u6 u7 u37 u49 u61 n0 n1 n2 n3 D1 D2 D3) (k : Kp w w') (t : Tn w1 w' v n0 n1 D1) : St w1 w' b5 b6 b7 true c2 c3 false false false u5 u6 u7 v u49 u61 n0 n1 n2 n3 D1 D2 D3 where
  kp := (h.keep k).kp
  x5 := (h.keep k).x5
  x6 := (h.keep k).x6
  x7 := (h.keep k).x7
  n56 := h.n56
  n57 := h.n57
  n67 := h.n67
  t1 := fun _ => t
  t2 := (h.keep k).t2
  t3 := (h.keep k).t3
  y5 := fun e => by cases e
  y6 := fun e => by cases e
  y7 := fun e => by cases e
theorem St.ca2 {v : Value} (h : St w1 w b5 b6 b7 c1 false c3 false false false u5 u6 u7 u37 u49 u61 n0 n1 n2 n3 D1 D2 D3) (k : Kp w w') (t : Tn w1 w' v n1 n2 D2) : St w1 w' b5 b6 b7 c1 true c3 false false false u5 u6 u7 u37 v u61 n0 n1 n2 n3 D1 D2 D3 where
  kp := (h.keep k).kp
  x5 := (h.keep k).x5
  x6 := (h.keep k).x6
  x7 := (h.keep k).x7
  n56 := h.n56
  n57 := h.n57
  n67 := h.n67
  t1 := (h.keep k).t1
  t2 := fun _ => t
  t3 := (h.keep k).t3
  y5 := fun e => by cases e
  y6 := fun e => by cases e
  y7 := fun e => by cases e
theorem St.ca3 {v : Value} (h : St w1 w b5 b6 b7 c1 c2 false false false false u5 u6 u7 u37 u49 u61 n0 n1 n2 n3 D1 D2 D3) (k : Kp w w') (t : Tn w1 w' v n2 n3 D3) : St w1 w' b5 b6 b7 c1 c2 true false false false u5 u6 u7 u37 u49 v n0 n1 n2 n3 D1 D2 D3 where
  kp := (h.keep k).kp
  x5 := (h.keep k).x5
  x6 := (h.keep k).x6
  x7 := (h.keep k).x7
  n56 := h.n56
  n57 := h.n57
  n67 := h.n67
  t1 := (h.keep k).t1
  t2 := (h.keep k).t2
  t3 := fun _ => t
  y5 := fun e => by cases e
  y6 := fun e => by cases e
  y7 := fun e => by cases e
theorem St.st5 (h : St w1 w true b6 b7 true true true false s2 s3 u5 u6 u7 u37 u49 u61 n0 n1 n2 n3 D1 D2 D3) : ∃ T a1 n1' c1' a2 n2' c2' x y, u5 = pt T ∧ u37 = .agg #[.slice a1 n1' c1', .slice a2 n2' c2'] ∧ Bx w T x y ∧ St w1 ((w.setCell ⟨T, 0, none⟩ (.slice a1 n1' c1')).setCell ⟨T, 1, none⟩ (.slice a2 n2' c2')) true b6 b7 true true true true s2 s3 u5 u6 u7 u37 u49 u61 n0 n1 n2 n3 D1 D2 D3 := by
  obtain ⟨T, x, y, e1, e2, e3⟩ := h.x5 rfl
  obtain ⟨L, a2, n2', c2', f1, f2, f3⟩ := h.t1 rfl
  refine ⟨T, _, _, _, _, _, _, x, y, e1, f1, e3, ?_⟩
  refine ⟨(h.kp.set e2 (i := 0) _).set e2 (i := 1) _, ?_, ?_, ?_, h.n56, h.n57, h.n67, fun e => (h.t1 e).set e3 _ _, fun e => (h.t2 e).set e3 _ _, fun e => (h.t3 e).set e3 _ _, ?_, ?_, ?_⟩
  · exact fun _ => ⟨T, _, _, e1, e2, e3.set _ _⟩
  · intro e
    obtain ⟨T2, x2, y2, g1, g2, g3⟩ := h.x6 e
    refine ⟨T2, x2, y2, g1, g2, g3.far (fun g => ?_) _ _⟩
    have hn := h.n56 rfl e
    apply hn
    rw [e1, g1, g]
  · intro e
    obtain ⟨T2, x2, y2, g1, g2, g3⟩ := h.x7 e
    refine ⟨T2, x2, y2, g1, g2, g3.far (fun g => ?_) _ _⟩
    have hn := h.n57 rfl e
    apply hn
    rw [e1, g1, g]
  · exact fun _ => ⟨rfl, T, _, _, e1, f1, e3.set _ _⟩
  · intro e
    obtain ⟨g0, T2, x2, y2, g1, g2, g3⟩ := h.y6 e
    refine ⟨g0, T2, x2, y2, g1, g2, g3.far (fun g => ?_) _ _⟩
    have hn := h.n56 rfl g0
    apply hn
    rw [e1, g1, g]
  · intro e
    obtain ⟨g0, T2, x2, y2, g1, g2, g3⟩ := h.y7 e
    refine ⟨g0, T2, x2, y2, g1, g2, g3.far (fun g => ?_) _ _⟩
    have hn := h.n57 rfl g0
    apply hn
    rw [e1, g1, g]
theorem St.st6 (h : St w1 w b5 true b7 true true true s1 false s3 u5 u6 u7 u37 u49 u61 n0 n1 n2 n3 D1 D2 D3) : ∃ T a1 n1' c1' a2 n2' c2' x y, u6 = pt T ∧ u49 = .agg #[.slice a1 n1' c1', .slice a2 n2' c2'] ∧ Bx w T x y ∧ St w1 ((w.setCell ⟨T, 0, none⟩ (.slice a1 n1' c1')).setCell ⟨T, 1, none⟩ (.slice a2 n2' c2')) b5 true b7 true true true s1 true s3 u5 u6 u7 u37 u49 u61 n0 n1 n2 n3 D1 D2 D3 := by
  obtain ⟨T, x, y, e1, e2, e3⟩ := h.x6 rfl
  obtain ⟨L, a2, n2', c2', f1, f2, f3⟩ := h.t2 rfl
  refine ⟨T, _, _, _, _, _, _, x, y, e1, f1, e3, ?_⟩
  refine ⟨(h.kp.set e2 (i := 0) _).set e2 (i := 1) _, ?_, ?_, ?_, h.n56, h.n57, h.n67, fun e => (h.t1 e).set e3 _ _, fun e => (h.t2 e).set e3 _ _, fun e => (h.t3 e).set e3 _ _, ?_, ?_, ?_⟩
  · intro e
    obtain ⟨T2, x2, y2, g1, g2, g3⟩ := h.x5 e
    refine ⟨T2, x2, y2, g1, g2, g3.far (fun g => ?_) _ _⟩
    have hn := h.n56 e rfl
    apply hn
    rw [e1, g1, g]
  · exact fun _ => ⟨T, _, _, e1, e2, e3.set _ _⟩
  · intro e
    obtain ⟨T2, x2, y2, g1, g2, g3⟩ := h.x7 e
    refine ⟨T2, x2, y2, g1, g2, g3.far (fun g => ?_) _ _⟩
    have hn := h.n67 rfl e
    apply hn
    rw [e1, g1, g]
  · intro e
    obtain ⟨g0, T2, x2, y2, g1, g2, g3⟩ := h.y5 e
    refine ⟨g0, T2, x2, y2, g1, g2, g3.far (fun g => ?_) _ _⟩
    have hn := h.n56 g0 rfl
    apply hn
    rw [e1, g1, g]
  · exact fun _ => ⟨rfl, T, _, _, e1, f1, e3.set _ _⟩
  · intro e
    obtain ⟨g0, T2, x2, y2, g1, g2, g3⟩ := h.y7 e
    refine ⟨g0, T2, x2, y2, g1, g2, g3.far (fun g => ?_) _ _⟩
    have hn := h.n67 rfl g0
    apply hn
    rw [e1, g1, g]
theorem St.st7 (h : St w1 w b5 b6 true true true true s1 s2 false u5 u6 u7 u37 u49 u61 n0 n1 n2 n3 D1 D2 D3) : ∃ T a1 n1' c1' a2 n2' c2' x y, u7 = pt T ∧ u61 = .agg #[.slice a1 n1' c1', .slice a2 n2' c2'] ∧ Bx w T x y ∧ St w1 ((w.setCell ⟨T, 0, none⟩ (.slice a1 n1' c1')).setCell ⟨T, 1, none⟩ (.slice a2 n2' c2')) b5 b6 true true true true s1 s2 true u5 u6 u7 u37 u49 u61 n0 n1 n2 n3 D1 D2 D3 := by
  obtain ⟨T, x, y, e1, e2, e3⟩ := h.x7 rfl
  obtain ⟨L, a2, n2', c2', f1, f2, f3⟩ := h.t3 rfl
  refine ⟨T, _, _, _, _, _, _, x, y, e1, f1, e3, ?_⟩
  refine ⟨(h.kp.set e2 (i := 0) _).set e2 (i := 1) _, ?_, ?_, ?_, h.n56, h.n57, h.n67, fun e => (h.t1 e).set e3 _ _, fun e => (h.t2 e).set e3 _ _, fun e => (h.t3 e).set e3 _ _, ?_, ?_, ?_⟩
  · intro e
    obtain ⟨T2, x2, y2, g1, g2, g3⟩ := h.x5 e
    refine ⟨T2, x2, y2, g1, g2, g3.far (fun g => ?_) _ _⟩
    have hn := h.n57 e rfl
    apply hn
    rw [e1, g1, g]
  · intro e
    obtain ⟨T2, x2, y2, g1, g2, g3⟩ := h.x6 e
    refine ⟨T2, x2, y2, g1, g2, g3.far (fun g => ?_) _ _⟩
    have hn := h.n67 e rfl
    apply hn
    rw [e1, g1, g]
  · exact fun _ => ⟨T, _, _, e1, e2, e3.set _ _⟩
  · intro e
    obtain ⟨g0, T2, x2, y2, g1, g2, g3⟩ := h.y5 e
    refine ⟨g0, T2, x2, y2, g1, g2, g3.far (fun g => ?_) _ _⟩
    have hn := h.n57 g0 rfl
    apply hn
    rw [e1, g1, g]
  · intro e
    obtain ⟨g0, T2, x2, y2, g1, g2, g3⟩ := h.y6 e
    refine ⟨g0, T2, x2, y2, g1, g2, g3.far (fun g => ?_) _ _⟩
    have hn := h.n67 g0 rfl
    apply hn
    rw [e1, g1, g]
  · exact fun _ => ⟨rfl, T, _, _, e1, f1, e3.set _ _⟩
end

end Go.Proofs.Ythofnmaobmfoiaa
