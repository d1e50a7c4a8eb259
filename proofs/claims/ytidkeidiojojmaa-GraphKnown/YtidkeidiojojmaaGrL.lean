
/- The law GraphKnown: each fault of a node by hand. -/
import Derived.Test.YtidkeidiojojmaaGrK
namespace Go.Proofs.Ytidkeidiojojmaa
open Go.RowKit

def ndOne : Nd := ⟨2, [], [], 0, [1], [4607182418800017408], []⟩
def knN : List Nd := [⟨0, [], [], 0, [], [], []⟩, ⟨17, [5], [], 0, [], [], []⟩, ⟨4, [0], [], 0, [], [], []⟩, ⟨3, [], [], 0, [], [], []⟩, ⟨8, [1], [], 0, [], [], []⟩, ⟨8, [-1], [], 0, [], [], []⟩, ⟨16, [0], [], 1, [], [], []⟩, ⟨16, [0], [], -1, [], [], []⟩, ⟨1, [], [], 1, [], [], []⟩, ⟨1, [], [], -1, [], [], []⟩, ⟨2, [], [], 0, [], [], []⟩, ⟨8, [0], [], 0, [], [], [⟨0, 0⟩]⟩, ⟨4, [-1, 1], [], 0, [], [], []⟩]
def knE : List Int := [4, 4, 1, 1, 5, 6, 6, 6, 7, 7, 2, 8, 5]
theorem knF : ∀ k, k < 13 → chE [[1]] [[ndOne, knN.getD k ndnil]] = knE.getD k 0 ∧ chG [[1]] [[ndOne, knN.getD k ndnil]] = 0 ∧ chA [[1]] [[ndOne, knN.getD k ndnil]] = 1 := by decide +kernel
theorem knM1 : chE [] (List.replicate 17 []) = 13 := by decide +kernel
theorem knM2 : chE (List.replicate 33 []) [] = 13 := by decide +kernel
theorem kn3 : chE [[1]] [[ndLf], []] = 13 ∧ chG [[1]] [[ndLf], []] = 1 := by decide +kernel
theorem kn4 : chE [[0]] [[ndLf]] = 2 ∧ chA [[0]] [[ndLf]] = 0 := by decide +kernel
theorem kn5 : chE [] [] = 0 := by decide +kernel

theorem ints_one {W : World} {b : Nat} {e : TypeId} {xs : List Int} {cs : Array Value} (h : W.heap[b]? = some (.cells cs e)) (hc : cs = (xs.map (Value.int .i64)).toArray) {n m : Nat} (hn : xs.length = n) (hl : n * 8 ≤ 140737488351232) (hx : ∀ x ∈ xs, I64 x) : Ints W (.slice (some ⟨b, 0, none⟩) n m) xs :=
  Blk.ints (e := e) (ys := xs) (by unfold Blk; rw [← hc]; exact h) hn hx hl

theorem knI : ∀ x ∈ ([5, 0, 1, -1, 0, 2] : List Int) ++ knE, I64 x := by
  intro x hx
  simp only [knE, List.cons_append, List.nil_append, List.mem_cons, List.not_mem_nil, or_false] at hx
  unfold I64
  omega
theorem knI1 {xs : List Int} (h : ∀ x ∈ xs, x ∈ ([5, 0, 1, -1, 0, 2] : List Int) ++ knE) : ∀ x ∈ xs, I64 x := fun x hx => knI x (h x hx)

theorem knI2 : ∀ x ∈ knE, I64 x := fun x hx => knI x (List.mem_append_right _ hx)
theorem knW : ∀ x ∈ ([4607182418800017408] : List Nat), W64 x := by
  intro x hx
  simp only [List.mem_cons, List.not_mem_nil, or_false] at hx
  subst hx
  unfold W64
  decide

set_option maxRecDepth 20000 in
set_option maxHeartbeats 4000000 in
theorem known_at {W : World} {b3 b4 b5 b6 b7 b8 b9 b10 b11 b12 : Nat} {e3 e4 e5 e6 e7 e8 e9 e10 e11 e12 : TypeId}
    (h3 : W.heap[b3]? = some (.cells #[.int .i64 5] e3))
    (h4 : W.heap[b4]? = some (.cells #[.int .i64 0] e4))
    (h5 : W.heap[b5]? = some (.cells #[.int .i64 1] e5))
    (h6 : W.heap[b6]? = some (.cells #[.int .i64 (-1)] e6))
    (h7 : W.heap[b7]? = some (.cells #[.int .i64 0] e7))
    (h8 : W.heap[b8]? = some (.cells #[.int .i64 0] e8))
    (h9 : W.heap[b9]? = some (.cells #[.int .i64 0] e9))
    (h11 : W.heap[b11]? = some (.cells #[.int .i64 (-1), .int .i64 1] e11))
    (h10 : W.heap[b10]? = some (.cells #[.int .i64 0, .float .f64 0] e10))
    (h12 : W.heap[b12]? = some (.cells ((.int .i64 0 : Value) :: .slice none 0 0 :: .slice none 0 0 :: .int .i64 0 :: .slice none 0 0 :: .slice none 0 0 :: .slice none 0 0 :: .int .i64 17 :: .slice (some ⟨b3, 0, none⟩) 1 1 :: .slice none 0 0 :: .int .i64 0 :: .slice none 0 0 :: .slice none 0 0 :: .slice none 0 0 :: .int .i64 4 :: .slice (some ⟨b4, 0, none⟩) 1 1 :: .slice none 0 0 :: .int .i64 0 :: .slice none 0 0 :: .slice none 0 0 :: .slice none 0 0 :: .int .i64 3 :: .slice none 0 0 :: .slice none 0 0 :: .int .i64 0 :: .slice none 0 0 :: .slice none 0 0 :: .slice none 0 0 :: .int .i64 8 :: .slice (some ⟨b5, 0, none⟩) 1 1 :: .slice none 0 0 :: .int .i64 0 :: .slice none 0 0 :: .slice none 0 0 :: .slice none 0 0 :: .int .i64 8 :: .slice (some ⟨b6, 0, none⟩) 1 1 :: .slice none 0 0 :: .int .i64 0 :: .slice none 0 0 :: .slice none 0 0 :: .slice none 0 0 :: .int .i64 16 :: .slice (some ⟨b7, 0, none⟩) 1 1 :: .slice none 0 0 :: .int .i64 1 :: .slice none 0 0 :: .slice none 0 0 :: .slice none 0 0 :: .int .i64 16 :: .slice (some ⟨b8, 0, none⟩) 1 1 :: .slice none 0 0 :: .int .i64 (-1) :: .slice none 0 0 :: .slice none 0 0 :: .slice none 0 0 :: .int .i64 1 :: .slice none 0 0 :: .slice none 0 0 :: .int .i64 1 :: .slice none 0 0 :: .slice none 0 0 :: .slice none 0 0 :: .int .i64 1 :: .slice none 0 0 :: .slice none 0 0 :: .int .i64 (-1) :: .slice none 0 0 :: .slice none 0 0 :: .slice none 0 0 :: .int .i64 2 :: .slice none 0 0 :: .slice none 0 0 :: .int .i64 0 :: .slice none 0 0 :: .slice none 0 0 :: .slice none 0 0 :: .int .i64 8 :: .slice (some ⟨b9, 0, none⟩) 1 1 :: .slice none 0 0 :: .int .i64 0 :: .slice none 0 0 :: .slice none 0 0 :: .slice (some ⟨b10, 0, none⟩) 1 1 :: .int .i64 4 :: .slice (some ⟨b11, 0, none⟩) 2 2 :: .slice none 0 0 :: .int .i64 0 :: .slice none 0 0 :: .slice none 0 0 :: .slice none 0 0 :: []).toArray e12)) : Nodes W (.slice (some ⟨b12, 0, none⟩) 13 13) knN := by
  have i3 : Ints W (.slice (some ⟨b3, 0, none⟩) 1 1) [5] := ints_one h3 rfl rfl (by decide) (knI1 (by simp))
  have i4 : Ints W (.slice (some ⟨b4, 0, none⟩) 1 1) [0] := ints_one h4 rfl rfl (by decide) (knI1 (by simp))
  have i5 : Ints W (.slice (some ⟨b5, 0, none⟩) 1 1) [1] := ints_one h5 rfl rfl (by decide) (knI1 (by simp))
  have i6 : Ints W (.slice (some ⟨b6, 0, none⟩) 1 1) [-1] := ints_one h6 rfl rfl (by decide) (knI1 (by simp))
  have i7 : Ints W (.slice (some ⟨b7, 0, none⟩) 1 1) [0] := ints_one h7 rfl rfl (by decide) (knI1 (by simp))
  have i8 : Ints W (.slice (some ⟨b8, 0, none⟩) 1 1) [0] := ints_one h8 rfl rfl (by decide) (knI1 (by simp))
  have i9 : Ints W (.slice (some ⟨b9, 0, none⟩) 1 1) [0] := ints_one h9 rfl rfl (by decide) (knI1 (by simp))
  have i11 : Ints W (.slice (some ⟨b11, 0, none⟩) 2 2) [-1, 1] := ints_one h11 rfl rfl (by decide) (knI1 (by simp))
  have hH : Hooks W (.slice (some ⟨b10, 0, none⟩) 1 1) [⟨0, 0⟩] := by
    refine ⟨by decide, _, 1, rfl, fun _ => ⟨b10, 0, rfl, lt_heap h10, fun i hi => ?_⟩⟩
    obtain rfl : i = 0 := by simp at hi; omega
    exact ⟨by rw [Blk.cells h10]; rfl, by rw [Blk.cells h10]; rfl, ⟨by decide, by decide⟩, by unfold W64; decide⟩
  refine nodes_blk (lt_heap h12) rfl (by decide) fun i hi => ?_
  match i, hi with
  | 0, _ => exact (ndR_nil W (0) (0) ⟨by decide, by decide⟩ ⟨by decide, by decide⟩).at (by rw [Blk.cells h12]; rfl) (by rw [Blk.cells h12]; rfl) (by rw [Blk.cells h12]; rfl) (by rw [Blk.cells h12]; rfl) (by rw [Blk.cells h12]; rfl) (by rw [Blk.cells h12]; rfl) (by rw [Blk.cells h12]; rfl)
  | 1, _ => exact (ndR_in W (some ⟨b3, 0, none⟩) 1 [5] (17) (0) ⟨by decide, by decide⟩ ⟨by decide, by decide⟩ i3).at (by rw [Blk.cells h12]; rfl) (by rw [Blk.cells h12]; rfl) (by rw [Blk.cells h12]; rfl) (by rw [Blk.cells h12]; rfl) (by rw [Blk.cells h12]; rfl) (by rw [Blk.cells h12]; rfl) (by rw [Blk.cells h12]; rfl)
  | 2, _ => exact (ndR_in W (some ⟨b4, 0, none⟩) 1 [0] (4) (0) ⟨by decide, by decide⟩ ⟨by decide, by decide⟩ i4).at (by rw [Blk.cells h12]; rfl) (by rw [Blk.cells h12]; rfl) (by rw [Blk.cells h12]; rfl) (by rw [Blk.cells h12]; rfl) (by rw [Blk.cells h12]; rfl) (by rw [Blk.cells h12]; rfl) (by rw [Blk.cells h12]; rfl)
  | 3, _ => exact (ndR_nil W (3) (0) ⟨by decide, by decide⟩ ⟨by decide, by decide⟩).at (by rw [Blk.cells h12]; rfl) (by rw [Blk.cells h12]; rfl) (by rw [Blk.cells h12]; rfl) (by rw [Blk.cells h12]; rfl) (by rw [Blk.cells h12]; rfl) (by rw [Blk.cells h12]; rfl) (by rw [Blk.cells h12]; rfl)
  | 4, _ => exact (ndR_in W (some ⟨b5, 0, none⟩) 1 [1] (8) (0) ⟨by decide, by decide⟩ ⟨by decide, by decide⟩ i5).at (by rw [Blk.cells h12]; rfl) (by rw [Blk.cells h12]; rfl) (by rw [Blk.cells h12]; rfl) (by rw [Blk.cells h12]; rfl) (by rw [Blk.cells h12]; rfl) (by rw [Blk.cells h12]; rfl) (by rw [Blk.cells h12]; rfl)
  | 5, _ => exact (ndR_in W (some ⟨b6, 0, none⟩) 1 [-1] (8) (0) ⟨by decide, by decide⟩ ⟨by decide, by decide⟩ i6).at (by rw [Blk.cells h12]; rfl) (by rw [Blk.cells h12]; rfl) (by rw [Blk.cells h12]; rfl) (by rw [Blk.cells h12]; rfl) (by rw [Blk.cells h12]; rfl) (by rw [Blk.cells h12]; rfl) (by rw [Blk.cells h12]; rfl)
  | 6, _ => exact (ndR_in W (some ⟨b7, 0, none⟩) 1 [0] (16) (1) ⟨by decide, by decide⟩ ⟨by decide, by decide⟩ i7).at (by rw [Blk.cells h12]; rfl) (by rw [Blk.cells h12]; rfl) (by rw [Blk.cells h12]; rfl) (by rw [Blk.cells h12]; rfl) (by rw [Blk.cells h12]; rfl) (by rw [Blk.cells h12]; rfl) (by rw [Blk.cells h12]; rfl)
  | 7, _ => exact (ndR_in W (some ⟨b8, 0, none⟩) 1 [0] (16) (-1) ⟨by decide, by decide⟩ ⟨by decide, by decide⟩ i8).at (by rw [Blk.cells h12]; rfl) (by rw [Blk.cells h12]; rfl) (by rw [Blk.cells h12]; rfl) (by rw [Blk.cells h12]; rfl) (by rw [Blk.cells h12]; rfl) (by rw [Blk.cells h12]; rfl) (by rw [Blk.cells h12]; rfl)
  | 8, _ => exact (ndR_nil W (1) (1) ⟨by decide, by decide⟩ ⟨by decide, by decide⟩).at (by rw [Blk.cells h12]; rfl) (by rw [Blk.cells h12]; rfl) (by rw [Blk.cells h12]; rfl) (by rw [Blk.cells h12]; rfl) (by rw [Blk.cells h12]; rfl) (by rw [Blk.cells h12]; rfl) (by rw [Blk.cells h12]; rfl)
  | 9, _ => exact (ndR_nil W (1) (-1) ⟨by decide, by decide⟩ ⟨by decide, by decide⟩).at (by rw [Blk.cells h12]; rfl) (by rw [Blk.cells h12]; rfl) (by rw [Blk.cells h12]; rfl) (by rw [Blk.cells h12]; rfl) (by rw [Blk.cells h12]; rfl) (by rw [Blk.cells h12]; rfl) (by rw [Blk.cells h12]; rfl)
  | 10, _ => exact (ndR_nil W (2) (0) ⟨by decide, by decide⟩ ⟨by decide, by decide⟩).at (by rw [Blk.cells h12]; rfl) (by rw [Blk.cells h12]; rfl) (by rw [Blk.cells h12]; rfl) (by rw [Blk.cells h12]; rfl) (by rw [Blk.cells h12]; rfl) (by rw [Blk.cells h12]; rfl) (by rw [Blk.cells h12]; rfl)
  | 11, _ => exact (⟨⟨by decide, by decide⟩, ⟨by decide, by decide⟩, i9, Ints.nil W, Ints.nil W, Flts.nil W, hH⟩ : NdR W (some ⟨b9, 0, none⟩) none none none (some ⟨b10, 0, none⟩) 1 0 0 0 1 ⟨8, [0], [], 0, [], [], [⟨0, 0⟩]⟩).at (by rw [Blk.cells h12]; rfl) (by rw [Blk.cells h12]; rfl) (by rw [Blk.cells h12]; rfl) (by rw [Blk.cells h12]; rfl) (by rw [Blk.cells h12]; rfl) (by rw [Blk.cells h12]; rfl) (by rw [Blk.cells h12]; rfl)
  | 12, _ => exact (ndR_in W (some ⟨b11, 0, none⟩) 2 [-1, 1] (4) (0) ⟨by decide, by decide⟩ ⟨by decide, by decide⟩ i11).at (by rw [Blk.cells h12]; rfl) (by rw [Blk.cells h12]; rfl) (by rw [Blk.cells h12]; rfl) (by rw [Blk.cells h12]; rfl) (by rw [Blk.cells h12]; rfl) (by rw [Blk.cells h12]; rfl) (by rw [Blk.cells h12]; rfl)
  | n + 13, h => exact absurd h (by omega)
theorem chain14 {w W : World} {o0 o1 o2 o3 o4 o5 o6 o7 o8 o9 o10 o11 o12 o13 : Obj} (hW : ((((((((((((((w.alloc o0).alloc o1).alloc o2).alloc o3).alloc o4).alloc o5).alloc o6).alloc o7).alloc o8).alloc o9).alloc o10).alloc o11).alloc o12).alloc o13) = W) :
    W.heap[w.heap.size]? = some o0 ∧ W.heap[w.heap.size + 1]? = some o1 ∧ W.heap[w.heap.size + 1 + 1]? = some o2 ∧ W.heap[w.heap.size + 1 + 1 + 1]? = some o3 ∧ W.heap[w.heap.size + 1 + 1 + 1 + 1]? = some o4 ∧ W.heap[w.heap.size + 1 + 1 + 1 + 1 + 1]? = some o5 ∧ W.heap[w.heap.size + 1 + 1 + 1 + 1 + 1 + 1]? = some o6 ∧ W.heap[w.heap.size + 1 + 1 + 1 + 1 + 1 + 1 + 1]? = some o7 ∧ W.heap[w.heap.size + 1 + 1 + 1 + 1 + 1 + 1 + 1 + 1]? = some o8 ∧ W.heap[w.heap.size + 1 + 1 + 1 + 1 + 1 + 1 + 1 + 1 + 1]? = some o9 ∧ W.heap[w.heap.size + 1 + 1 + 1 + 1 + 1 + 1 + 1 + 1 + 1 + 1]? = some o10 ∧ W.heap[w.heap.size + 1 + 1 + 1 + 1 + 1 + 1 + 1 + 1 + 1 + 1 + 1]? = some o11 ∧ W.heap[w.heap.size + 1 + 1 + 1 + 1 + 1 + 1 + 1 + 1 + 1 + 1 + 1 + 1]? = some o12 ∧ W.heap[w.heap.size + 1 + 1 + 1 + 1 + 1 + 1 + 1 + 1 + 1 + 1 + 1 + 1 + 1]? = some o13 ∧ Kp w W := by
  subst hW
  refine ⟨heap_old (heap_old (heap_old (heap_old (heap_old (heap_old (heap_old (heap_old (heap_old (heap_old (heap_old (heap_old (heap_old (heap_new _ _ _ rfl))))))))))))), heap_old (heap_old (heap_old (heap_old (heap_old (heap_old (heap_old (heap_old (heap_old (heap_old (heap_old (heap_old (heap_new _ _ _ (by simp only [sz_alloc]))))))))))))), heap_old (heap_old (heap_old (heap_old (heap_old (heap_old (heap_old (heap_old (heap_old (heap_old (heap_old (heap_new _ _ _ (by simp only [sz_alloc])))))))))))), heap_old (heap_old (heap_old (heap_old (heap_old (heap_old (heap_old (heap_old (heap_old (heap_old (heap_new _ _ _ (by simp only [sz_alloc]))))))))))), heap_old (heap_old (heap_old (heap_old (heap_old (heap_old (heap_old (heap_old (heap_old (heap_new _ _ _ (by simp only [sz_alloc])))))))))), heap_old (heap_old (heap_old (heap_old (heap_old (heap_old (heap_old (heap_old (heap_new _ _ _ (by simp only [sz_alloc]))))))))), heap_old (heap_old (heap_old (heap_old (heap_old (heap_old (heap_old (heap_new _ _ _ (by simp only [sz_alloc])))))))), heap_old (heap_old (heap_old (heap_old (heap_old (heap_old (heap_new _ _ _ (by simp only [sz_alloc]))))))), heap_old (heap_old (heap_old (heap_old (heap_old (heap_new _ _ _ (by simp only [sz_alloc])))))), heap_old (heap_old (heap_old (heap_old (heap_new _ _ _ (by simp only [sz_alloc]))))), heap_old (heap_old (heap_old (heap_new _ _ _ (by simp only [sz_alloc])))), heap_old (heap_old (heap_new _ _ _ (by simp only [sz_alloc]))), heap_old (heap_new _ _ _ (by simp only [sz_alloc])), heap_new _ _ _ (by simp only [sz_alloc]), (((((((((((((Kp.alloc w _).trans (Kp.alloc _ _)).trans (Kp.alloc _ _)).trans (Kp.alloc _ _)).trans (Kp.alloc _ _)).trans (Kp.alloc _ _)).trans (Kp.alloc _ _)).trans (Kp.alloc _ _)).trans (Kp.alloc _ _)).trans (Kp.alloc _ _)).trans (Kp.alloc _ _)).trans (Kp.alloc _ _)).trans (Kp.alloc _ _)).trans (Kp.alloc _ _)⟩
theorem chain4 {w W : World} {o0 o1 o2 o3 : Obj} (hW : ((((w.alloc o0).alloc o1).alloc o2).alloc o3) = W) :
    W.heap[w.heap.size]? = some o0 ∧ W.heap[w.heap.size + 1]? = some o1 ∧ W.heap[w.heap.size + 1 + 1]? = some o2 ∧ W.heap[w.heap.size + 1 + 1 + 1]? = some o3 ∧ Kp w W := by
  subst hW
  refine ⟨heap_old (heap_old (heap_old (heap_new _ _ _ rfl))), heap_old (heap_old (heap_new _ _ _ (by simp only [sz_alloc]))), heap_old (heap_new _ _ _ (by simp only [sz_alloc])), heap_new _ _ _ (by simp only [sz_alloc]), (((Kp.alloc w _).trans (Kp.alloc _ _)).trans (Kp.alloc _ _)).trans (Kp.alloc _ _)⟩

theorem leaf_at {W : World} {b0 : Nat} {e0 : TypeId} (h0 : W.heap[b0]? = some (.cells (Value.int .i64 1 :: .slice none 0 0 :: .slice none 0 0 :: .int .i64 0 :: .slice none 0 0 :: .slice none 0 0 :: .slice none 0 0 :: []).toArray e0)) : Nodes W (.slice (some ⟨b0, 0, none⟩) 1 1) [ndLf] := by
  refine nodes_blk (lt_heap h0) rfl (by decide) fun j hj => ?_
  obtain rfl : j = 0 := by simp at hj; omega
  exact (ndR_nil W 1 0 ⟨by decide, by decide⟩ ⟨by decide, by decide⟩).at (by rw [Blk.cells h0]; rfl) (by rw [Blk.cells h0]; rfl) (by rw [Blk.cells h0]; rfl) (by rw [Blk.cells h0]; rfl) (by rw [Blk.cells h0]; rfl) (by rw [Blk.cells h0]; rfl) (by rw [Blk.cells h0]; rfl)
theorem g3_at {W : World} {b0 b1 : Nat} {e0 e1 : TypeId} (h0 : W.heap[b0]? = some (.cells (Value.int .i64 1 :: .slice none 0 0 :: .slice none 0 0 :: .int .i64 0 :: .slice none 0 0 :: .slice none 0 0 :: .slice none 0 0 :: []).toArray e0))
    (h1 : W.heap[b1]? = some (.cells #[.slice (some ⟨b0, 0, none⟩) 1 1, .slice none 0 0] e1)) : Graphs W (.slice (some ⟨b1, 0, none⟩) 2 2) [[ndLf], []] := by
  refine graphs_blk (lt_heap h1) rfl (by decide) fun i hi2 => ?_
  have hi3 : i < 2 := hi2
  have hc : i = 0 ∨ i = 1 := by omega
  rcases hc with rfl | rfl
  · exact ⟨some ⟨b0, 0, none⟩, 1, by rw [Blk.cells h1]; rfl, leaf_at h0⟩
  · exact ⟨none, 0, by rw [Blk.cells h1]; rfl, Nodes.nil _ _ _⟩
theorem g4_at {W : World} {b0 b1 : Nat} {e0 e1 : TypeId} (h0 : W.heap[b0]? = some (.cells (Value.int .i64 1 :: .slice none 0 0 :: .slice none 0 0 :: .int .i64 0 :: .slice none 0 0 :: .slice none 0 0 :: .slice none 0 0 :: []).toArray e0))
    (h1 : W.heap[b1]? = some (.cells #[.slice (some ⟨b0, 0, none⟩) 1 1] e1)) : Graphs W (.slice (some ⟨b1, 0, none⟩) 1 1) [[ndLf]] := by
  refine graphs_blk (lt_heap h1) rfl (by decide) fun i hi2 => ?_
  obtain rfl : i = 0 := by simp at hi2; omega
  exact ⟨some ⟨b0, 0, none⟩, 1, by rw [Blk.cells h1]; rfl, leaf_at h0⟩
theorem row1_at {W : World} {b4 b5 : Nat} {e4 e5 : TypeId} {x : Int} (hx : I64 x) (h4 : W.heap[b4]? = some (.cells #[.int .i64 x] e4)) (h5 : W.heap[b5]? = some (.cells #[.slice (some ⟨b4, 0, none⟩) 1 1] e5)) :
    Rows2 W (.slice (some ⟨b5, 0, none⟩) 1 1) [[x]] := by
  refine rows_blk (lt_heap h5) rfl (by simp) fun i hi2 => ?_
  obtain rfl : i = 0 := by simp at hi2; omega
  refine ⟨some ⟨b4, 0, none⟩, 1, by rw [Blk.cells h5]; rfl, ints_one (xs := [x]) h4 rfl rfl (show 1 * 8 ≤ 140737488351232 by decide) ?_⟩
  intro y hy
  simp only [List.mem_cons, List.not_mem_nil, or_false] at hy
  subst hy
  exact hx

theorem infoGr : (Try.prog.info? 34).map (fun i => (i.zero, i.size, i.bytes)) = some (some (.agg #[.slice none 0 0]), 1, 24) := by kernel_rfl
theorem mk_graphs (n : Nat) (hn : n ≤ 4096) (w : World) :
    (Instr.makeSlice 22 (.int .i64 n) (.int .i64 n)).run Try.prog w = .ok (.slice (some ⟨w.heap.size, 0, none⟩) n n) (w.alloc (.cells (madeCells #[.slice none 0 0] n) 34)) := by
  obtain ⟨i0, hi, hz0, hz1, hz2⟩ := info_parts infoGr
  have h := run_make (P := Try.prog) w 22 34 i0 (.agg #[.slice none 0 0]) Try.underlying22 hi hz0 .i64 .i64 n n (by omega) (by omega) (by rw [hz2]; omega) (by omega)
  rw [hz1] at h
  simpa [Value.cells] using h
theorem made_at (v : Value) (n i : Nat) (h : i < n) : (madeCells #[v] n)[i]? = some v := by simp [madeCells, h, Nat.mod_one]
theorem made_graphs {w : World} {e : TypeId} (n : Nat) (hn : n ≤ 1000) : Graphs (w.alloc (.cells (madeCells #[.slice none 0 0] n) e)) (.slice (some ⟨w.heap.size, 0, none⟩) n n) (List.replicate n []) := by
  have hb := heap_new w (.cells (madeCells #[.slice none 0 0] n) e) _ rfl
  refine graphs_blk (lt_heap hb) (by simp) (by omega) fun i hi => ⟨none, 0, ?_, ?_⟩
  · rw [Blk.cells hb, made_at _ _ _ hi]
    simp [hi]
  · have : (List.replicate n ([] : List Nd)).getD i [] = [] := by simp [hi]
    rw [this]
    exact Nodes.nil _ _ _
theorem made_rows {w : World} {e : TypeId} (n : Nat) (hn : n ≤ 1000) : Rows2 (w.alloc (.cells (madeCells #[.slice none 0 0] n) e)) (.slice (some ⟨w.heap.size, 0, none⟩) n n) (List.replicate n []) := by
  have hb := heap_new w (.cells (madeCells #[.slice none 0 0] n) e) _ rfl
  refine rows_blk (lt_heap hb) (by simp) (by omega) fun i hi => ⟨none, 0, ?_, ?_⟩
  · rw [Blk.cells hb, made_at _ _ _ hi]
    simp [hi]
  · have : (List.replicate n ([] : List Int)).getD i [] = [] := by simp [hi]
    rw [this]
    exact Ints.nil _

theorem cell_alloc {w : World} {o : Obj} {p : Addr} {v : Value} (h : w.cell? p = some v) : (w.alloc o).cell? p = some v := (Kp.alloc w o).cellT h
theorem cell_drew {w : World} {p : Addr} {v : Value} (h : w.cell? p = some v) : w.drew.cell? p = some v := (Kp.drew w).cellT h
theorem heap_drewx {w : World} {B : Nat} {o : Obj} (h : w.heap[B]? = some o) : w.drew.heap[B]? = some o := h
macro "go_heap" : tactic => `(tactic| ((repeat (first | exact heap_new _ _ _ (by simp only [sz_alloc]) | exact heap_new _ _ _ rfl | refine heap_drewx ?_ | refine heap_old ?_)); done))
macro "go_kp" : tactic => `(tactic| ((repeat (first | exact Kp.refl _ | refine Kp.trans ?_ (Kp.drew _) | refine Kp.trans ?_ (Kp.alloc _ _))); done))
theorem kcall {wr Wc : World} {n : Nd} {b0 b1 G R : Nat} {a1 a2 a4 a5 a6 : Option Addr} {c1 c2 c4 c5 c6 : Nat} {x y z : Int} (hn : Hid (NdR wr a1 a2 a4 a5 a6 c1 c2 c4 c5 c6 n)) (ho : Hid (NdR wr none none (some ⟨b0, 0, none⟩) (some ⟨b1, 0, none⟩) none 0 0 1 1 0 ndOne)) (hx : Hid (chE [[1]] [[ndOne, n]] = z ∧ chG [[1]] [[ndOne, n]] = x ∧ chA [[1]] [[ndOne, n]] = y))
    (hG : ∃ A e e', Wc.heap[G]? = some (.cells #[.slice (some ⟨A, 0, none⟩) 2 2] e) ∧ Wc.heap[A]? = some (.cells (Value.int .i64 2 :: .slice none 0 0 :: .slice none 0 0 :: .int .i64 0 :: .slice (some ⟨b0, 0, none⟩) 1 1 :: .slice (some ⟨b1, 0, none⟩) 1 1 :: .slice none 0 0 ::
      .int .i64 n.op :: .slice a1 n.inn.length c1 :: .slice a2 n.tt.length c2 :: .int .i64 n.no :: .slice a4 n.s.length c4 :: .slice a5 n.d.length c5 :: .slice a6 n.hk.length c6 :: []).toArray e'))
    (hR : ∃ S e e', Wc.heap[R]? = some (.cells #[.slice (some ⟨S, 0, none⟩) 1 1] e) ∧ Wc.heap[S]? = some (.cells #[.int .i64 1] e')) (hk : Kp wr Wc) :
    Calls Try.prog 11 #[.slice (some ⟨G, 0, none⟩) 1 1, .slice (some ⟨R, 0, none⟩) 1 1] Wc fun e w' => e = .returned (.tuple #[.int .i64 x, .int .i64 y, .int .i64 z]) ∧ Kp wr w' := by
  obtain ⟨A, e, e', g1, g2⟩ := hG
  obtain ⟨S, e2, e3, r1, r2⟩ := hR
  obtain ⟨rfl, rfl, rfl⟩ := hx
  have hrow : Rows2 Wc (.slice (some ⟨R, 0, none⟩) 1 1) [[1]] := by
    refine rows_blk (lt_heap r1) rfl (by decide) fun i hi2 => ?_
    obtain rfl : i = 0 := by simp at hi2; omega
    exact ⟨some ⟨S, 0, none⟩, 1, by rw [Blk.cells r1]; rfl, ints_one (xs := [1]) r2 rfl rfl (by decide) (knI1 (by simp))⟩
  have hgs : Graphs Wc (.slice (some ⟨G, 0, none⟩) 1 1) [[ndOne, n]] := by
    refine graphs_blk (lt_heap g1) rfl (by decide) fun i hi2 => ?_
    obtain rfl : i = 0 := by simp at hi2; omega
    refine ⟨some ⟨A, 0, none⟩, 2, by rw [Blk.cells g1]; rfl, nodes_blk (lt_heap g2) rfl (show 2 ≤ 1000000 by decide) fun j hj => ?_⟩
    have hj2 : j < 2 := hj
    have hjc : j = 0 ∨ j = 1 := by omega
    rcases hjc with rfl | rfl
    · exact (NdR.keep (unhide ho) hk).at (by rw [Blk.cells g2]; rfl) (by rw [Blk.cells g2]; rfl) (by rw [Blk.cells g2]; rfl) (by rw [Blk.cells g2]; rfl) (by rw [Blk.cells g2]; rfl) (by rw [Blk.cells g2]; rfl) (by rw [Blk.cells g2]; rfl)
    · exact (NdR.keep (unhide hn) hk).at (by rw [Blk.cells g2]; rfl) (by rw [Blk.cells g2]; rfl) (by rw [Blk.cells g2]; rfl) (by rw [Blk.cells g2]; rfl) (by rw [Blk.cells g2]; rfl) (by rw [Blk.cells g2]; rfl) (by rw [Blk.cells g2]; rfl)
  refine (check_any _ 1 [[1]] _ 1 [[ndOne, n]] Wc hrow hgs).mono ?_
  rintro e w' ⟨rfl, k'⟩
  exact ⟨rfl, hk.trans k'⟩
macro "go_hold" : tactic => `(tactic| ((repeat' (first | assumption | refine cell_drew ?_ | refine cell_alloc ?_ | refine And.intro ?_ ?_)); done))

set_option maxRecDepth 20000 in
set_option maxHeartbeats 8000000 in
theorem known_any (w : World) : Calls Try.prog 5 #[] w fun e w' => e = .returned (.bool true) ∧ Kp w w' := by
  go_enter Try.func5, Try.ntmps5
  go_wp2_with fail
  refine (awake10_any w).mono ?_
  rintro e w1 ⟨rfl, k1⟩
  have K1 := hide k1
  clear k1
  go_wp2_with fail
  generalize hW : World.alloc _ _ = W
  have hh : Nodes W (.slice (some ⟨w1.heap.size + 1 + 1 + 1 + 1 + 1 + 1 + 1 + 1 + 1 + 1 + 1 + 1, 0, none⟩) 13 13) knN ∧ Ints W (.slice (some ⟨w1.heap.size + 1 + 1 + 1 + 1 + 1 + 1 + 1 + 1 + 1 + 1 + 1 + 1 + 1, 0, none⟩) 13 13) knE ∧
      NdR W none none (some ⟨w1.heap.size, 0, none⟩) (some ⟨w1.heap.size + 1, 0, none⟩) none 0 0 1 1 0 ndOne ∧ Px 38 W (w1.heap.size + 1 + 1) (.slice (some ⟨w1.heap.size, 0, none⟩) 1 1) (.slice (some ⟨w1.heap.size + 1, 0, none⟩) 1 1) ∧ Kp w1 W := by
    obtain ⟨h0, h1, h2, h3, h4, h5, h6, h7, h8, h9, h10, h11, h12, h13, hk⟩ := chain14 hW
    clear hW
    refine ⟨known_at h3 h4 h5 h6 h7 h8 h9 h11 h10 h12, ints_one h13 rfl rfl (by decide) knI2,
      ⟨⟨by decide, by decide⟩, ⟨by decide, by decide⟩, Ints.nil _, Ints.nil _, ints_one (xs := [1]) h0 rfl rfl (by decide) (knI1 (by simp)), BlkF.flts (e := 47) (ys := [4607182418800017408]) h1 rfl knW (by decide), Hooks.nil _ none 0⟩, h2, hk⟩
  obtain ⟨hN, hE, hO, hP, hK⟩ := hh
  have HN := hide hN
  have HE := hide hE
  have HO := hide hO
  have HP := hide hP
  have KW := hide ((unhide K1).trans hK)
  have KF := hide knF
  clear hN hE hO hP hK hW K1
  generalize w1.heap.size + 1 + 1 + 1 + 1 + 1 + 1 + 1 + 1 + 1 + 1 + 1 + 1 + 1 = b13 at *
  generalize w1.heap.size + 1 + 1 + 1 + 1 + 1 + 1 + 1 + 1 + 1 + 1 + 1 + 1 = b12 at *
  generalize w1.heap.size + 1 + 1 = b2 at *
  generalize w1.heap.size + 1 = b1 at *
  generalize w1.heap.size = b0 at *
  go_loopw [4] (fun i wr => ∃ k : Nat, k ≤ 13 ∧ i = .int .i64 k ∧ Hid (Kp W wr)) (fun i _ => 13 - (intOf i).toNat)
  case atStart => exact ⟨0, by omega, rfl, Kp.refl _⟩
  case round =>
    obtain ⟨k, hk, rfl, KR⟩ := hrel
    by_cases hlt : k < 13
    · have hltI : (k : Int) < 13 := by omega
      have t0 := ((unhide HP).keep (unhide KR)).c0
      have t1 := ((unhide HP).keep (unhide KR)).c1
      obtain ⟨b, off, e0, hb, hnd⟩ := (unhide HN).one (unhide KR) (show k < knN.length from hlt)
      cases e0
      have c0 := hnd.op
      have c3 := hnd.no
      obtain ⟨a1, a2, a4, a5, a6, c1, c2, c4, c5, c6, hnr, d1, d2, d4, d5, d6⟩ := hnd.slices
      have HNR := hide hnr
      clear hnd hnr
      rw [Nat.zero_add] at c0 c3 d1 d2 d4 d5 d6
      have KE := hide (unhide KF k hlt)
      have we := (unhide HE).keep (unhide KR)
      generalize knN.getD k ndnil = n at *
      have HW := hide (fun w' (h : Kp wr w') => (show w'.cell? ⟨b13, k, none⟩ = some (.int .i64 (knE.getD k 0)) from by
        obtain ⟨a, cap, e, h2⟩ := (we.keep h).opn (n := 13) rfl
        cases e
        obtain ⟨b, o, e2, -, h3⟩ := unhide h2 (by decide)
        cases e2
        have h4 := h3 k hlt
        rw [Nat.zero_add] at h4
        exact h4))
      generalize knE.getD k 0 = z at *
      clear we
      have HOr := hide ((unhide HO).keep (unhide KR))
      go_wp2_with fail
      go_region_held3 (fun w' => w'.cell? ⟨b2, 0, none⟩ = some (.slice (some ⟨b0, 0, none⟩) 1 1) ∧ w'.cell? ⟨b2, 1, none⟩ = some (.slice (some ⟨b1, 0, none⟩) 1 1) ∧ w'.cell? ⟨b12, k * 7, none⟩ = some (.int .i64 n.op) ∧ w'.cell? ⟨b12, k * 7 + 1, none⟩ = some (.slice a1 n.inn.length c1) ∧ w'.cell? ⟨b12, k * 7 + 2, none⟩ = some (.slice a2 n.tt.length c2) ∧ w'.cell? ⟨b12, k * 7 + 3, none⟩ = some (.int .i64 n.no) ∧ w'.cell? ⟨b12, k * 7 + 4, none⟩ = some (.slice a4 n.s.length c4) ∧ w'.cell? ⟨b12, k * 7 + 5, none⟩ = some (.slice a5 n.d.length c5) ∧ w'.cell? ⟨b12, k * 7 + 6, none⟩ = some (.slice a6 n.hk.length c6)) (go_hold)
        ((go_at_call 11; refine Calls.mono (kcall HNR HOr KE ⟨_, _, _, by go_heap, by go_heap⟩ ⟨_, _, _, by go_heap, by go_heap⟩ (by go_kp)) ?_; rintro e w9 ⟨rfl, k9⟩; have K9 := hide k9; have s0 := k9.cellT t0; have s1 := k9.cellT t1; have s2 := k9.cellT c0; have s3 := k9.cellT d1; have s4 := k9.cellT d2; have s5 := k9.cellT c3; have s6 := k9.cellT d4; have s7 := k9.cellT d5; have s8 := k9.cellT d6; clear k9))
      all_goals
        have wk := unhide HW _ (unhide K9)
        have K8 := hide ((unhide KR).trans (unhide K9))
        clear s0 s1 s2 s3 s4 s5 s6 s7 s8 K9
        go_wp2_with fail
        go_roundw
        case rel => exact ⟨k + 1, by omega, by go_num, unhide K8⟩
        case measure => simp [intOf]; omega
    · obtain rfl : k = 13 := by omega
      have hm1 : ∀ w, (Instr.makeSlice 22 (.int .i64 17) (.int .i64 17)).run Try.prog w = .ok (.slice (some ⟨w.heap.size, 0, none⟩) 17 17) (w.alloc (.cells (madeCells #[.slice none 0 0] 17) 34)) := fun w => mk_graphs 17 (by omega) w
      have hm2 : ∀ w, (Instr.makeSlice 23 (.int .i64 33) (.int .i64 33)).run Try.prog w = .ok (.slice (some ⟨w.heap.size, 0, none⟩) 33 33) (w.alloc (.cells (madeCells #[.slice none 0 0] 33) 35)) := fun w => mk_rows2 33 (by omega) w
      have KS := hide ((unhide KW).trans (unhide KR))
      clear KR KW KF HE HN HO HP
      go_wp2_with fail
      have L1 := hide (check_any none 0 [] _ 17 (List.replicate 17 []) (wr.alloc (.cells (madeCells #[.slice none 0 0] 17) 34)) (Rows2.nil _ _ _) (made_graphs 17 (by decide)))
      rw [knM1] at L1
      revert L1
      generalize chG [] (List.replicate 17 []) = x1
      generalize chA [] (List.replicate 17 []) = y1
      intro L1
      refine Calls.mono (unhide L1) ?_
      rintro e wa ⟨rfl, ka⟩
      have KA := hide ((unhide KS).trans ((Kp.alloc _ _).trans ka))
      clear ka L1 KS
      go_wp2_with fail
      have L2 := hide (check_any _ 33 (List.replicate 33 []) none 0 [] (wa.alloc (.cells (madeCells #[.slice none 0 0] 33) 35)) (made_rows 33 (by decide)) (Graphs.nil _ _ _))
      rw [knM2] at L2
      revert L2
      generalize chG (List.replicate 33 []) [] = x2
      generalize chA (List.replicate 33 []) [] = y2
      intro L2
      refine Calls.mono (unhide L2) ?_
      rintro e wb ⟨rfl, kb⟩
      have KB := hide ((unhide KA).trans ((Kp.alloc _ _).trans kb))
      clear kb L2 KA
      go_wp2_with fail
      generalize hW : World.alloc _ _ = W3
      have hh : Graphs W3 (.slice (some ⟨wb.heap.size + 1, 0, none⟩) 2 2) [[ndLf], []] ∧ Rows2 W3 (.slice (some ⟨wb.heap.size + 1 + 1 + 1, 0, none⟩) 1 1) [[1]] ∧ Kp wb W3 := by
        obtain ⟨h0, h1, h2, h3, hk⟩ := chain4 hW
        exact ⟨g3_at h0 h1, row1_at ⟨by decide, by decide⟩ h2 h3, hk⟩
      obtain ⟨hG, hR, hK⟩ := hh
      have L3 := hide (check_any _ 1 [[1]] _ 2 [[ndLf], []] W3 hR hG)
      have KC0 := hide ((unhide KB).trans hK)
      clear hG hR hK hW KB
      rw [kn3.1, kn3.2] at L3
      revert L3
      generalize chA [[1]] [[ndLf], []] = y3
      intro L3
      refine Calls.mono (unhide L3) ?_
      rintro e wc ⟨rfl, kc⟩
      have KC := hide ((unhide KC0).trans kc)
      clear kc L3 KC0
      go_wp2_with fail
      generalize hW : World.alloc _ _ = W4
      have hh : Graphs W4 (.slice (some ⟨wc.heap.size + 1, 0, none⟩) 1 1) [[ndLf]] ∧ Rows2 W4 (.slice (some ⟨wc.heap.size + 1 + 1 + 1, 0, none⟩) 1 1) [[0]] ∧ Kp wc W4 := by
        obtain ⟨h0, h1, h2, h3, hk⟩ := chain4 hW
        exact ⟨g4_at h0 h1, row1_at ⟨by decide, by decide⟩ h2 h3, hk⟩
      obtain ⟨hG, hR, hK⟩ := hh
      have L4 := hide (check_any _ 1 [[0]] _ 1 [[ndLf]] W4 hR hG)
      have KD0 := hide ((unhide KC).trans hK)
      clear hG hR hK hW KC
      rw [kn4.1, kn4.2] at L4
      revert L4
      generalize chG [[0]] [[ndLf]] = x4
      intro L4
      refine Calls.mono (unhide L4) ?_
      rintro e wd ⟨rfl, kd⟩
      have KD := hide ((unhide KD0).trans kd)
      clear kd L4 KD0
      go_wp2_with fail
      have L5 := hide (check_any none 0 [] none 0 [] wd (Rows2.nil _ _ _) (Graphs.nil _ _ _))
      rw [kn5] at L5
      revert L5
      generalize chG [] [] = x5
      generalize chA [] [] = y5
      intro L5
      refine Calls.mono (unhide L5) ?_
      rintro e we ⟨rfl, ke⟩
      have KE := hide ((unhide KD).trans ke)
      clear ke L5 KD
      go_wp2
      go_ret
      exact ⟨rfl, unhide KE⟩

end Go.Proofs.Ytidkeidiojojmaa
