
/- Rows and columns of a product; pairs of other types in a block; arrays of small numbers that came in. -/
import Derived.Test.YtgdmhmnmhfpkkaaMatF
import Derived.Test.YtgdmhmnmhfpkkaaOpn
namespace Go.Proofs.Ytgdmhmnmhfpkkaa
open Go.RowKit

/-- block B holds two values -/
def Pr (w : World) (e : TypeId) (B : Nat) (x y : Value) : Prop := w.heap[B]? = some (.cells #[x, y] e)
theorem Pr.keep {w w' : World} {e : TypeId} {B : Nat} {x y : Value} (h : Pr w e B x y) (k : Kp w w') : Pr w' e B x y := by
  unfold Pr
  rw [k.block B (Array.getElem?_eq_some_iff.1 h).1]
  exact h
theorem Pr.madeAt (w : World) (x y : Value) (e : TypeId) (B : Nat) (hB : B = w.heap.size) : Pr (w.alloc (.cells #[x, y] e)) e B x y := by
  subst hB
  unfold Pr
  simp only [World.alloc, Array.getElem?_push_size]
theorem Pr.o {w : World} {e : TypeId} {B : Nat} {x y : Value} (h : Pr w e B x y) : w.cell? ⟨B, 0, none⟩ = some x ∧ w.cell? ⟨B, 1, none⟩ = some y ∧ w.frozen? ⟨B, 0, none⟩ = false ∧ w.frozen? ⟨B, 1, none⟩ = false ∧ B < w.heap.size := by
  unfold Pr at h
  exact ⟨by simp [World.cell?, h], by simp [World.cell?, h], by simp [World.frozen?, h], by simp [World.frozen?, h], (Array.getElem?_eq_some_iff.1 h).1⟩

theorem fit_two {p m n : Nat} {d e : List Nat} (p1 : 1 ≤ p) (m1 : 1 ≤ m) (n1 : 1 ≤ n) (dl : d.length = p * m) (dm : p * m ≤ 4096) (el : e.length = m * n) (em : m * n ≤ 4096) : fitB [(p : Int), (m : Int)] d [(m : Int), (n : Int)] e = true := by
  have h1 : matB [(p : Int), (m : Int)] d = true := matB_yes.2 ⟨mayT_two p1 m1 dl dm, rfl⟩
  have h2 : matB [(m : Int), (n : Int)] e = true := matB_yes.2 ⟨mayT_two m1 n1 el em, rfl⟩
  unfold fitB
  rw [h1, h2]
  simp
theorem len_of {p m n : Nat} {l d e : List Nat} (h : l.map cn = mulL p m n d e) : l.length = p * n := by
  have := congrArg List.length h
  rw [List.length_map, mulL_length] at this
  exact this
theorem at_of {p m n i k : Nat} {l d e : List Nat} (h : l.map cn = mulL p m n d e) (hi : i < p) (hk : k < n) : cn (l.getD (i * n + k) 0) = rowC (prodsL m n d e i k) := by
  have hl := len_of h
  have e1 := congrArg (fun l => l.getD (i * n + k) 0) h
  simp only [getD_mapcn l (i * n + k) (by rw [hl]; exact inrow hi hk), mulL_getD hi hk] at e1
  exact e1
theorem sub_len1 {d : List Nat} {i m : Nat} (_h : i * m + m ≤ d.length) : ∀ j, j < m → ((d.drop (i * m)).take m).getD (0 * m + j) 0 = d.getD (i * m + j) 0 := by
  intro j hj
  rw [Nat.zero_mul, Nat.zero_add]
  simp [List.getD_eq_getElem?_getD, hj]
theorem row_same {p m n i k : Nat} {lx lz d e row : List Nat} (hk : k < n) (hi : i < p) (hr : ∀ j, j < m → row.getD (0 * m + j) 0 = d.getD (i * m + j) 0) (hx : lx.map cn = mulL 1 m n row e) (hz : lz.map cn = mulL p m n d e) : i * n + k < lz.length ∧ k < lx.length ∧ cn (lx.getD k 0) = cn (lz.getD (i * n + k) 0) := by
  have h1 := at_of hx (i := 0) (k := k) (by decide) hk
  have h2 := at_of hz hi hk
  refine ⟨by rw [len_of hz]; exact inrow hi hk, by rw [len_of hx]; omega, ?_⟩
  rw [Nat.zero_mul, Nat.zero_add] at h1
  rw [h1, h2]
  congr 1
  unfold prodsL
  apply List.map_congr_left
  intro j hj
  rw [hr j (List.mem_range.1 hj)]
theorem col_prods {m n i k : Nat} {d e : List Nat} : ∀ j, j < m → ((d.drop (i * m)).take m).getD (0 * m + j) 0 = d.getD (i * m + j) 0 ∧ ((List.range m).map (fun q => e.getD (q * n + k) 0)).getD (j * 1 + 0) 0 = e.getD (j * n + k) 0 := by
  intro j hj
  refine ⟨?_, ?_⟩
  · rw [Nat.zero_mul, Nat.zero_add]
    simp [List.getD_eq_getElem?_getD, hj]
  · rw [Nat.mul_one, Nat.add_zero]
    exact range_getD (f := fun q => e.getD (q * n + k) 0) hj
theorem col_same {p m n i k : Nat} {lq lz d e row col : List Nat} (hk : k < n) (hi : i < p) (hr : ∀ j, j < m → row.getD (0 * m + j) 0 = d.getD (i * m + j) 0 ∧ col.getD (j * 1 + 0) 0 = e.getD (j * n + k) 0) (hq : lq.map cn = mulL 1 m 1 row col) (hz : lz.map cn = mulL p m n d e) : 0 < lq.length ∧ cn (lq.getD 0 0) = cn (lz.getD (i * n + k) 0) := by
  have h1 := at_of hq (i := 0) (k := 0) (by decide) (by decide)
  have h2 := at_of hz hi hk
  refine ⟨by rw [len_of hq]; decide, ?_⟩
  rw [Nat.zero_mul, Nat.zero_add] at h1
  rw [h1, h2]
  congr 1
  unfold prodsL
  apply List.map_congr_left
  intro j hj
  rw [(hr j (List.mem_range.1 hj)).1, (hr j (List.mem_range.1 hj)).2]

end Go.Proofs.Ytgdmhmnmhfpkkaa
