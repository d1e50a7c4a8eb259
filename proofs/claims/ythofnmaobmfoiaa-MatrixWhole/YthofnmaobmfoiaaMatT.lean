
/- What the region of three tensors leaves, opened; Mul and Turn of small matrices. -/
import Derived.Test.YthofnmaobmfoiaaMatS
import Derived.Test.YthofnmaobmfoiaaFMatB
namespace Go.Proofs.Ythofnmaobmfoiaa
open Go.RowKit

theorem Tn.opened {w1 w : World} {u p q : Value} {a b T : Nat} {D : List Nat} (t : Tn w1 w u a b D) (ha : a ≤ 4) (hb : b ≤ 4) (hw : ∀ x ∈ D, W64 x) (hl : D.length ≤ 16) (e2 : u = .agg #[p, q]) (hx : Bx w T p q) :
    ∃ L a2 c2, Bx w T (.slice (some ⟨L, 0, none⟩) 2 2) (.slice a2 D.length c2) ∧ Ints w (.slice (some ⟨L, 0, none⟩) 2 2) [(a : Int), (b : Int)] ∧ Flts w (.slice a2 D.length c2) D ∧ Roomy (.slice a2 D.length c2) := by
  obtain ⟨L, a2, n2, c2, e, o, d⟩ := t
  rw [e2] at e
  simp only [Value.agg.injEq, Array.mk.injEq, List.cons.injEq, and_true] at e
  obtain ⟨rfl, rfl⟩ := e
  have hf := d.flts hw (by omega)
  have hr := d.lens _ _ _ rfl
  obtain ⟨a3, c3, e4, -⟩ := hf.val
  injection e4 with e5 e6 e7
  subst e5 e6 e7
  exact ⟨L, a2, c2, hx, o.ints (i64_two (by omega) (by omega)) (by simp), hf, roomy _ _ _ hr.1 hr.2⟩
theorem St.boxes {w1 w : World} {T5 T6 T7 n0 n1 n2 n3 : Nat} {u37 u49 u61 : Value} {D1 D2 D3 : List Nat} (h : St w1 w true true true true true true true true true (pt T5) (pt T6) (pt T7) u37 u49 u61 n0 n1 n2 n3 D1 D2 D3) (g0 : n0 ≤ 4) (g1 : n1 ≤ 4) (g2 : n2 ≤ 4) (g3 : n3 ≤ 4)
    (v1 : ∀ x ∈ D1, W64 x) (v2 : ∀ x ∈ D2, W64 x) (v3 : ∀ x ∈ D3, W64 x) (l1 : D1.length ≤ 16) (l2 : D2.length ≤ 16) (l3 : D3.length ≤ 16) :
    (∃ L a2 c2, Bx w T5 (.slice (some ⟨L, 0, none⟩) 2 2) (.slice a2 D1.length c2) ∧ Ints w (.slice (some ⟨L, 0, none⟩) 2 2) [(n0 : Int), (n1 : Int)] ∧ Flts w (.slice a2 D1.length c2) D1 ∧ Roomy (.slice a2 D1.length c2)) ∧
    (∃ L a2 c2, Bx w T6 (.slice (some ⟨L, 0, none⟩) 2 2) (.slice a2 D2.length c2) ∧ Ints w (.slice (some ⟨L, 0, none⟩) 2 2) [(n1 : Int), (n2 : Int)] ∧ Flts w (.slice a2 D2.length c2) D2 ∧ Roomy (.slice a2 D2.length c2)) ∧
    (∃ L a2 c2, Bx w T7 (.slice (some ⟨L, 0, none⟩) 2 2) (.slice a2 D3.length c2) ∧ Ints w (.slice (some ⟨L, 0, none⟩) 2 2) [(n2 : Int), (n3 : Int)] ∧ Flts w (.slice a2 D3.length c2) D3 ∧ Roomy (.slice a2 D3.length c2)) := by
  refine ⟨?_, ?_, ?_⟩
  · obtain ⟨-, T, p, q, e1, e2, e3⟩ := h.y5 rfl
    obtain rfl := pt_inj e1
    exact (h.t1 rfl).opened g0 g1 v1 l1 e2 e3
  · obtain ⟨-, T, p, q, e1, e2, e3⟩ := h.y6 rfl
    obtain rfl := pt_inj e1
    exact (h.t2 rfl).opened g1 g2 v2 l2 e2 e3
  · obtain ⟨-, T, p, q, e1, e2, e3⟩ := h.y7 rfl
    obtain rfl := pt_inj e1
    exact (h.t3 rfl).opened g2 g3 v3 l3 e2 e3

theorem mul4 (sv dv sv2 dv2 : Value) (p m n : Nat) (d e : List Nat) (w : World) (gp : 1 ≤ p ∧ p ≤ 4) (gm : 1 ≤ m ∧ m ≤ 4) (gn : 1 ≤ n ∧ n ≤ 4) (dl : d.length = p * m) (el : e.length = m * n) (h1 : Ints w sv [(p : Int), (m : Int)]) (hd : Flts w dv d) (hr : Roomy dv) (h2 : Ints w sv2 [(m : Int), (n : Int)]) (hd2 : Flts w dv2 e) :
    Calls Try.prog 6 #[.agg #[sv, dv], .agg #[sv2, dv2]] w fun ee w' => ∃ ds, HandR ee w' [(p : Int), (n : Int)] ds 0 ∧ (ds.map cn = mulL p m n d e ∧ ds.length = p * n) ∧ Kp w w' := by
  have b1 : p * m ≤ 4 * 4 := Nat.mul_le_mul gp.2 gm.2
  have b2 : m * n ≤ 4 * 4 := Nat.mul_le_mul gm.2 gn.2
  have b3 : p * n ≤ 4 * 4 := Nat.mul_le_mul gp.2 gn.2
  have m1 : matB [(p : Int), (m : Int)] d = true := matB_yes.2 ⟨mayT_two gp.1 gm.1 dl (by omega), rfl⟩
  have m2 : matB [(m : Int), (n : Int)] e = true := matB_yes.2 ⟨mayT_two gm.1 gn.1 el (by omega), rfl⟩
  have hf : fitB [(p : Int), (m : Int)] d [(m : Int), (n : Int)] e = true := by
    unfold fitB
    rw [m1, m2]
    simp
  obtain ⟨e1, e2, e3⟩ := mul_yes hf gp.1 gn.1 (by omega)
  have h := mul_all sv dv sv2 dv2 _ _ d e w h1 hd hr h2 hd2
  rw [e1, e2, e3] at h
  refine h.mono ?_
  rintro ee w' ⟨ds, q1, q2, q3⟩
  exact ⟨ds, q1, ⟨q2, by have := congrArg List.length q2; rw [List.length_map, mulL_length] at this; exact this⟩, q3⟩
theorem turn4 (sv dv : Value) (p m : Nat) (d : List Nat) (w : World) (gp : 1 ≤ p ∧ p ≤ 4) (gm : 1 ≤ m ∧ m ≤ 4) (dl : d.length = p * m) (h1 : Ints w sv [(p : Int), (m : Int)]) (hd : Flts w dv d) :
    Calls Try.prog 7 #[.agg #[sv, dv]] w fun e w' => HandR e w' [(m : Int), (p : Int)] (turnD p m d) 0 ∧ Kp w w' := by
  have b1 : p * m ≤ 4 * 4 := Nat.mul_le_mul gp.2 gm.2
  have m1 : matB [(p : Int), (m : Int)] d = true := matB_yes.2 ⟨mayT_two gp.1 gm.1 dl (by omega), rfl⟩
  obtain ⟨e1, e2, e3⟩ := tur_yes m1
  have h := turn_all sv dv _ d w h1 hd
  rw [e1, e2, e3] at h
  exact h

/-- the numbers that are laid are whole and small -/
theorem mofT_wh {zs : List Int} {l0 : Nat} (h : ∀ i, i < l0 → -128 ≤ zs.getD i 0 ∧ zs.getD i 0 ≤ 127) (fr N : Nat) : WhM N (mofT zs l0 fr N) (mofZ zs l0 fr) 128 := by
  have hb : ∀ q, (mofZ zs l0 fr q).natAbs ≤ 128 := by
    intro q
    unfold mofZ
    by_cases hq : fr + q < l0
    · rw [if_pos hq]
      have := h _ hq
      omega
    · rw [if_neg hq]
      omega
  refine ⟨mofT_length _ _ _ _, ?_, fun q _ => hb q⟩
  intro q hq
  unfold mofT
  rw [range_getD hq]
  exact wh_ofI (by have := hb q; omega)
theorem mofT_w64 (zs : List Int) (l0 fr N : Nat) : ∀ x ∈ mofT zs l0 fr N, W64 x := by
  intro x hx
  unfold mofT at hx
  obtain ⟨i, -, rfl⟩ := List.mem_map.1 hx
  exact ofI_w64 _

end Go.Proofs.Ythofnmaobmfoiaa
