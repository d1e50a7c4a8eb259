
/- Nodes and graphs that are written out; the document's own case, as the laws of graph ask for it first. -/
import Derived.Test.YtliddjpcbhdplaaGrJ
namespace Go.Proofs.Ytliddjpcbhdplaa
open Go.RowKit

theorem NdR.at {w : World} {b o : Nat} {n : Nd} {a1 a2 a4 a5 a6 : Option Addr} {c1 c2 c4 c5 c6 : Nat} (h : NdR w a1 a2 a4 a5 a6 c1 c2 c4 c5 c6 n) (h0 : w.cell? ⟨b, o, none⟩ = some (.int .i64 n.op)) (h1 : w.cell? ⟨b, o + 1, none⟩ = some (.slice a1 n.inn.length c1))
    (h2 : w.cell? ⟨b, o + 2, none⟩ = some (.slice a2 n.tt.length c2)) (h3 : w.cell? ⟨b, o + 3, none⟩ = some (.int .i64 n.no)) (h4 : w.cell? ⟨b, o + 4, none⟩ = some (.slice a4 n.s.length c4)) (h5 : w.cell? ⟨b, o + 5, none⟩ = some (.slice a5 n.d.length c5)) (h6 : w.cell? ⟨b, o + 6, none⟩ = some (.slice a6 n.hk.length c6)) : NdAt w b o n :=
  ⟨h.wop, h.wno, h0, h3, ⟨_, _, h1, h.inn⟩, ⟨_, _, h2, h.tt⟩, ⟨_, _, h4, h.s⟩, ⟨_, _, h5, h.d⟩, ⟨_, _, h6, h.hk⟩⟩
theorem ndR_nil (w : World) (op no : Int) (h : I64 op) (h' : I64 no) : NdR w none none none none none 0 0 0 0 0 ⟨op, [], [], no, [], [], []⟩ :=
  ⟨h, h', Ints.nil w, Ints.nil w, Ints.nil w, Flts.nil w, Hooks.nil w none 0⟩
theorem ndR_in (w : World) (a : Option Addr) (c : Nat) (xs : List Int) (op no : Int) (h : I64 op) (h' : I64 no) (hi : Ints w (.slice a xs.length c) xs) : NdR w a none none none none c 0 0 0 0 ⟨op, xs, [], no, [], [], []⟩ :=
  ⟨h, h', hi, Ints.nil w, Ints.nil w, Flts.nil w, Hooks.nil w none 0⟩

theorem whole_of {gs : List (List Nd)} {g : Int} (S : List Int) (h1 : g ∈ S) (h2 : ∀ x ∈ S, inRg gs x ∧ ∀ y ∈ tg gs x, y ∈ S) : WholeP gs g := by
  have key : ∀ y, Rch gs g y → y ∈ S := by
    intro y hy
    induction hy with
    | base => exact h1
    | step _ _ hy ih => exact (h2 _ ih).2 _ hy
  exact fun y hy => (h2 y (key y hy)).1

theorem wholeA : WholeP gsA 1 := whole_of [1, 0] (by simp) (by
  intro x hx
  simp only [List.mem_cons, List.not_mem_nil, or_false] at hx
  rcases hx with rfl | rfl
  · exact ⟨⟨by decide, by decide⟩, by decide⟩
  · exact ⟨⟨by decide, by decide⟩, by decide⟩)
theorem workA : WorkR gsA 1 3 0 := by
  refine .inr (.inr (.inr ⟨wholeA, ?_, ?_, ?_, rfl⟩))
  · rintro ⟨k, hk, hp⟩
    have hk2 : k < 2 := hk
    have h9 : ∀ k, k < 2 → lv gsA 1 9 k = 0 := by decide +kernel
    rw [h9 k hk2] at hp
    omega
  · decide +kernel
  · decide +kernel
theorem edgesA : edgesN (gsA.getD 1 []) = 1 := by decide +kernel
theorem chA0 : chE [[2]] gsA = 0 := by decide +kernel

/-- a block of nodes -/
theorem nodes_blk {w : World} {B n m : Nat} {ns : List Nd} (hB : B < w.heap.size) (hn : ns.length = n) (hl : n ≤ 1000000) (h : ∀ i, i < n → NdAt w B (i * 7) (ns.getD i ndnil)) : Nodes w (.slice (some ⟨B, 0, none⟩) n m) ns := by
  subst hn
  exact ⟨hl, _, m, rfl, fun _ => ⟨B, 0, rfl, hB, fun i hi => by rw [Nat.zero_add]; exact h i hi⟩⟩
theorem graphs_blk {w : World} {B n m : Nat} {gs : List (List Nd)} (hB : B < w.heap.size) (hn : gs.length = n) (hl : n ≤ 1000000) (h : ∀ i, i < n → ∃ a' c', w.cell? ⟨B, i, none⟩ = some (.slice a' (gs.getD i []).length c') ∧ Nodes w (.slice a' (gs.getD i []).length c') (gs.getD i [])) : Graphs w (.slice (some ⟨B, 0, none⟩) n m) gs := by
  subst hn
  exact ⟨hl, _, m, rfl, fun _ => ⟨B, 0, rfl, hB, fun i hi => by rw [Nat.zero_add]; exact h i hi⟩⟩
theorem rows_blk {w : World} {B n m : Nat} {ls : List (List Int)} (hB : B < w.heap.size) (hn : ls.length = n) (hl : n ≤ 1000000) (h : ∀ i, i < n → ∃ a' c', w.cell? ⟨B, i, none⟩ = some (.slice a' (ls.getD i []).length c') ∧ Ints w (.slice a' (ls.getD i []).length c') (ls.getD i [])) : Rows2 w (.slice (some ⟨B, 0, none⟩) n m) ls := by
  subst hn
  exact ⟨hl, _, m, rfl, fun _ => ⟨B, 0, rfl, hB, fun i hi => by rw [Nat.zero_add]; exact h i hi⟩⟩

theorem Blk.cells {W : World} {b : Nat} {xs : Array Value} {e : TypeId} (h : W.heap[b]? = some (.cells xs e)) (i : Nat) : W.cell? ⟨b, i, none⟩ = xs[i]? := by
  rw [World.cell?, h]
  rfl
theorem lt_heap {W : World} {b : Nat} {o : Obj} (h : W.heap[b]? = some o) : b < W.heap.size := by
  obtain ⟨h, _⟩ := Array.getElem?_eq_some_iff.1 h
  exact h
theorem heap_new (w : World) (o : Obj) (B : Nat) (h : B = w.heap.size) : (w.alloc o).heap[B]? = some o := by 
  subst h
  simp only [World.alloc, Array.getElem?_push_size]
theorem heap_old {w : World} {o o' : Obj} {B : Nat} (h : w.heap[B]? = some o') : (w.alloc o).heap[B]? = some o' := by
  have hb := lt_heap h
  have : (w.alloc o).heap[B]? = w.heap[B]? := by simp only [World.alloc]; rw [Array.getElem?_push, if_neg (by omega)]
  rw [this, h]

theorem sz_alloc (w : World) (o : Obj) : (w.alloc o).heap.size = w.heap.size + 1 := by simp only [World.alloc, Array.size_push]

theorem gsA_at {W : World} {b0 b1 b2 b3 : Nat} {e0 e1 e2 e3 : TypeId}
    (h0 : W.heap[b0]? = some (.cells (Value.int .i64 1 :: .slice none 0 0 :: .slice none 0 0 :: .int .i64 0 :: .slice none 0 0 :: .slice none 0 0 :: .slice none 0 0 :: []).toArray e0))
    (h1 : W.heap[b1]? = some (.cells #[.int .i64 0] e1))
    (h2 : W.heap[b2]? = some (.cells (Value.int .i64 1 :: .slice none 0 0 :: .slice none 0 0 :: .int .i64 0 :: .slice none 0 0 :: .slice none 0 0 :: .slice none 0 0 :: .int .i64 16 :: .slice (some ⟨b1, 0, none⟩) 1 1 :: .slice none 0 0 :: .int .i64 0 :: .slice none 0 0 :: .slice none 0 0 :: .slice none 0 0 :: []).toArray e2))
    (h3 : W.heap[b3]? = some (.cells #[.slice (some ⟨b0, 0, none⟩) 1 1, .slice (some ⟨b2, 0, none⟩) 2 2] e3)) :
    Graphs W (.slice (some ⟨b3, 0, none⟩) 2 2) gsA := by
  have hi : Ints W (.slice (some ⟨b1, 0, none⟩) 1 1) [0] := by
    refine Blk.ints (e := e1) (ys := [0]) (by simpa [Blk] using h1) rfl ?_ (by omega)
    intro x hx
    simp only [List.mem_cons, List.not_mem_nil, or_false] at hx
    subst hx
    exact ⟨by decide, by decide⟩
  refine graphs_blk (lt_heap h3) rfl (by decide) fun i hi2 => ?_
  have hc : i = 0 ∨ i = 1 := by omega
  rcases hc with rfl | rfl
  · refine ⟨some ⟨b0, 0, none⟩, 1, by rw [Blk.cells h3]; rfl, nodes_blk (lt_heap h0) rfl (by decide) fun j hj => ?_⟩
    have hj0 : j = 0 := by simp [gsA] at hj; omega
    subst hj0
    exact (ndR_nil W 1 0 ⟨by decide, by decide⟩ ⟨by decide, by decide⟩).at (by rw [Blk.cells h0]; rfl) (by rw [Blk.cells h0]; rfl) (by rw [Blk.cells h0]; rfl) (by rw [Blk.cells h0]; rfl) (by rw [Blk.cells h0]; rfl) (by rw [Blk.cells h0]; rfl) (by rw [Blk.cells h0]; rfl)
  · refine ⟨some ⟨b2, 0, none⟩, 2, by rw [Blk.cells h3]; rfl, nodes_blk (lt_heap h2) rfl (by decide) fun j hj => ?_⟩
    have hj2 : j < 2 := hj
    have hjc : j = 0 ∨ j = 1 := by omega
    rcases hjc with rfl | rfl
    · exact (ndR_nil W 1 0 ⟨by decide, by decide⟩ ⟨by decide, by decide⟩).at (by rw [Blk.cells h2]; rfl) (by rw [Blk.cells h2]; rfl) (by rw [Blk.cells h2]; rfl) (by rw [Blk.cells h2]; rfl) (by rw [Blk.cells h2]; rfl) (by rw [Blk.cells h2]; rfl) (by rw [Blk.cells h2]; rfl)
    · exact (ndR_in W (some ⟨b1, 0, none⟩) 1 [0] 16 0 ⟨by decide, by decide⟩ ⟨by decide, by decide⟩ hi).at (by rw [Blk.cells h2]; rfl) (by rw [Blk.cells h2]; rfl) (by rw [Blk.cells h2]; rfl) (by rw [Blk.cells h2]; rfl) (by rw [Blk.cells h2]; rfl) (by rw [Blk.cells h2]; rfl) (by rw [Blk.cells h2]; rfl)
theorem rowsA_at {W : World} {b4 b5 : Nat} {e4 e5 : TypeId} (h4 : W.heap[b4]? = some (.cells #[.int .i64 2] e4)) (h5 : W.heap[b5]? = some (.cells #[.slice (some ⟨b4, 0, none⟩) 1 1] e5)) :
    Rows2 W (.slice (some ⟨b5, 0, none⟩) 1 1) [[2]] := by
  refine rows_blk (lt_heap h5) rfl (by decide) fun i hi2 => ?_
  have hj0 : i = 0 := by simp at hi2; omega
  subst hj0
  refine ⟨some ⟨b4, 0, none⟩, 1, by rw [Blk.cells h5]; rfl, Blk.ints (e := e4) (ys := [2]) (by simpa [Blk] using h4) rfl ?_ (by decide)⟩
  intro x hx
  simp only [List.mem_cons, List.not_mem_nil, or_false] at hx
  subst hx
  exact ⟨by decide, by decide⟩

set_option maxRecDepth 20000 in
set_option maxHeartbeats 8000000 in
theorem awake10_any (w : World) : Calls Try.prog 7 #[] w fun e w' => e = .returned (.bool true) ∧ Kp w w' := by
  go_enter Try.func7, Try.ntmps7
  go_wp2_with fail
  generalize hW : World.alloc _ _ = W
  have hG : Graphs W (.slice (some ⟨w.heap.size + 1 + 1 + 1, 0, none⟩) 2 2) gsA ∧ Rows2 W (.slice (some ⟨w.heap.size + 1 + 1 + 1 + 1 + 1, 0, none⟩) 1 1) [[2]] ∧ Kp w W := by
    subst hW
    refine ⟨gsA_at (heap_old (heap_old (heap_old (heap_old (heap_old (heap_new w _ _ rfl)))))) (heap_old (heap_old (heap_old (heap_old (heap_new _ _ _ (by simp only [sz_alloc])))))) (heap_old (heap_old (heap_old (heap_new _ _ _ (by simp only [sz_alloc]))))) (heap_old (heap_old (heap_new _ _ _ (by simp only [sz_alloc])))), rowsA_at (heap_old (heap_new _ _ _ (by simp only [sz_alloc]))) (heap_new _ _ _ (by simp only [sz_alloc])), ?_⟩
    exact (((((Kp.alloc w _).trans (Kp.alloc _ _)).trans (Kp.alloc _ _)).trans (Kp.alloc _ _)).trans (Kp.alloc _ _)).trans (Kp.alloc _ _)
  obtain ⟨hG, hR, hK⟩ := hG
  have HG := hide hG
  have HR := hide hR
  have HK := hide hK
  clear hG hR hK hW
  have HC := hide (check_any _ 1 [[2]] _ 2 gsA W (unhide HR) (unhide HG))
  rw [chA0] at HC
  revert HC
  generalize chG [[2]] gsA = gg
  generalize chA [[2]] gsA = aa
  intro HC
  refine Calls.mono (unhide HC) ?_
  rintro e w' ⟨rfl, k'⟩
  have HK' := hide ((unhide HK).trans k')
  have HG' := hide ((unhide HG).keep k')
  clear HG HR HK HC k'
  go_wp2_with fail
  generalize hW : World.alloc _ _ = W2
  have hh : Graphs W2 (.slice (some ⟨w.heap.size + 1 + 1 + 1, 0, none⟩) 2 2) gsA ∧ Rows2 W2 (.slice (some ⟨w'.heap.size + 1, 0, none⟩) 1 1) [[2]] ∧ Kp w W2 := by
    subst hW
    have k2 := (Kp.alloc w' (Obj.cells #[Value.int IntKind.i64 2] 3)).trans (Kp.alloc _ (Obj.cells #[Value.slice (some { block := w'.heap.size, off := 0 }) 1 1] 35))
    exact ⟨(unhide HG').keep k2, rowsA_at (heap_old (heap_new _ _ _ rfl)) (heap_new _ _ _ (by simp only [sz_alloc])), (unhide HK').trans k2⟩
  obtain ⟨hG, hR, hK⟩ := hh
  have HG := hide hG
  have HR := hide hR
  have HK := hide hK
  clear hG hR hK hW HG' HK'
  refine Calls.mono (shapesA _ _ 2 1 W2 (unhide HG) (unhide HR) chA0 workA) ?_
  rintro e w3 ⟨B, k, rfl, k3⟩
  have HK3 := hide ((unhide HK).trans k3)
  have HG3 := hide ((unhide HG).keep k3)
  clear HG HR HK k3
  go_wp2_with fail
  refine Calls.mono (work_any _ 2 gsA 1 w3 (unhide HG3) ⟨by decide, by decide⟩) ?_
  rintro e w4 ⟨v, r, rfl, hwr, k4⟩
  obtain ⟨rfl, rfl⟩ := WorkR.one hwr workA
  have HK4 := hide ((unhide HK3).trans k4)
  have HG4 := hide ((unhide HG3).keep k4)
  clear HG3 HK3 k4 hwr
  obtain ⟨B1, o1, a1, c1, e1, -, hc, hn⟩ := (unhide HG4).one (Kp.refl w4) (show 1 < gsA.length by decide)
  cases e1
  have hc1 : w4.cell? ⟨w.heap.size + 1 + 1 + 1, 1, none⟩ = some (.slice a1 2 c1) := hc
  have HN := hide hn
  clear hn hc
  go_wp2_with fail
  refine Calls.mono (edges_any a1 c1 (gsA.getD 1 []) w4 (unhide HN) (by rw [edgesA]; omega)) ?_
  rintro e w5 ⟨rfl, k5⟩
  have HK5 := hide ((unhide HK4).trans k5)
  clear HN HK4 k5 HG4
  rw [edgesA]
  go_wp2
  go_ret
  exact ⟨rfl, unhide HK5⟩

end Go.Proofs.Ytliddjpcbhdplaa
