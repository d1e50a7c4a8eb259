
/- Small whole numbers in rows of four: their sums, the tensors that are laid of them; a tensor's row that is being built while another block is written into. -/
import Derived.Test.YtlfjclnocbohbaaFldL
import Derived.Test.YtlfjclnocbohbaaFldJ
import Derived.Test.YtlfjclnocbohbaaFInt
import Derived.Test.YtlfjclnocbohbaaStepB
import Derived.Deep.RegionHeldLaw
namespace Go.Proofs.Ytlfjclnocbohbaa
open Go.RowKit

theorem ofI_w8 (z : Int) : W64 (ofI z) := DD.nearest_lt _ _ _
theorem info_flt8 : (Try.prog.info? 23).map (fun i => (i.zero, i.size, i.bytes)) = some (some (.float .f64 0), 1, 8) := by kernel_rfl

/-- the numbers of a row, as many as are laid; the tensors of the first rows; their sums -/
def qrow (z : Nat → Nat → Int) (i m : Nat) : List Nat := (List.range m).map (fun k => ofI (z i k))
def qts (z : Nat → Nat → Int) (j : Nat) : List Tn := (List.range j).map (fun i => ⟨[2, 2], qrow z i 4⟩)
def qcol (z : Nat → Nat → Int) (k j : Nat) : List Int := (List.range j).map (fun i => z i k)
def qsum (z : Nat → Nat → Int) (k j : Nat) : Int := sumI (qcol z k j)
def qsums (z : Nat → Nat → Int) (j m : Nat) : List Int := (List.range 4).map (fun q => qsum z q (if q < m then j + 1 else j))

theorem range_snoc {α : Type} (f : Nat → α) (j : Nat) : (List.range (j + 1)).map f = (List.range j).map f ++ [f j] := by rw [List.range_succ, List.map_append]; rfl
theorem qrow_length (z : Nat → Nat → Int) (i m : Nat) : (qrow z i m).length = m := by simp [qrow]
theorem qrow_snoc (z : Nat → Nat → Int) (i m : Nat) : qrow z i (m + 1) = qrow z i m ++ [ofI (z i m)] := range_snoc _ m
theorem qts_length (z : Nat → Nat → Int) (j : Nat) : (qts z j).length = j := by simp [qts]
theorem qts_snoc (z : Nat → Nat → Int) (j : Nat) : qts z (j + 1) = qts z j ++ [⟨[2, 2], qrow z j 4⟩] := range_snoc _ j
theorem qts_getD {z : Nat → Nat → Int} {i j : Nat} (h : i < j) : (qts z j).getD i tnil = ⟨[2, 2], qrow z i 4⟩ := by simp [qts, h]
theorem qsum_succ (z : Nat → Nat → Int) (k j : Nat) : qsum z k (j + 1) = qsum z k j + z j k := by
  unfold qsum qcol
  rw [range_snoc, sumI_append]
  simp [sumI]
theorem qsums_length (z : Nat → Nat → Int) (j m : Nat) : (qsums z j m).length = 4 := by simp [qsums]
theorem qsums_zero (z : Nat → Nat → Int) : qsums z 0 0 = [0, 0, 0, 0] := rfl
theorem qsums_next (z : Nat → Nat → Int) (j : Nat) : qsums z j 4 = qsums z (j + 1) 0 := by
  unfold qsums
  apply List.map_congr_left
  intro q hq
  have := List.mem_range.1 hq
  rw [if_pos this, if_neg (by omega)]
theorem qsums_getD {z : Nat → Nat → Int} {j m q : Nat} (hq : q < 4) (h : m ≤ q) : (qsums z j m).getD q 0 = qsum z q j := by
  have : (qsums z j m).getD q 0 = qsum z q (if q < m then j + 1 else j) := by simp [qsums, hq]
  rw [this, if_neg (by omega)]
theorem qsums_set (z : Nat → Nat → Int) (j m : Nat) : (qsums z j m).set m (qsum z m j + z j m) = qsums z j (m + 1) := by
  apply List.ext_getElem
  · simp [qsums]
  · intro i h1 h2
    rw [List.getElem_set]
    by_cases e : m = i
    · subst e
      simp [qsums, qsum_succ]
    · rw [if_neg e]
      simp only [qsums, List.getElem_map, List.getElem_range]
      by_cases hl : i < m
      · rw [if_pos hl, if_pos (by omega)]
      · rw [if_neg hl, if_neg (by omega)]
theorem qsum_bound {z : Nat → Nat → Int} {k j : Nat} (h : ∀ i, i < j → -32768 ≤ z i k ∧ z i k ≤ 32767) (hj : j ≤ 200) : -6553600 ≤ qsum z k j ∧ qsum z k j ≤ 6553600 := by
  have hb : ∀ x ∈ qcol z k j, x.natAbs ≤ 32768 := by
    intro x hx
    obtain ⟨i, hi, rfl⟩ := List.mem_map.1 hx
    have := h i (List.mem_range.1 hi)
    omega
  have := sumI_bound hb
  have hl : (qcol z k j).length = j := by simp [qcol]
  rw [hl] at this
  unfold qsum
  omega
/-- the tree of the rows is their sums -/
theorem qtree {z : Nat → Nat → Int} {n : Nat} (h0 : 0 < n) (hn : n ≤ 200) (h : ∀ i, i < n → ∀ k, k < 4 → -32768 ≤ z i k ∧ z i k ≤ 32767) : trS (qts z n) = [2, 2] ∧ trE (qts z n) = 0 ∧ trD (qts z n) = (qsums z n 0).map ofI := by
  have hof : ∀ k, k < (qts z n).length → ofB ((qts z n).getD 0 tnil).s ((qts z n).getD k tnil) = true := by
    intro k hk
    rw [qts_length] at hk
    rw [qts_getD h0, qts_getD hk]
    show (mayT [2, 2] (qrow z k 4) && sameB [2, 2] [2, 2]) = true
    have : mayT [2, 2] (qrow z k 4) = true := by rw [mayT_yes (by decide +kernel), qrow_length]; decide +kernel
    rw [this]
    decide +kernel
  obtain ⟨s1, s2, s3⟩ := tr_yes (by rw [qts_length]; exact h0) hof
  rw [qts_getD h0] at s1 s2
  refine ⟨s1, s3, ?_⟩
  rw [s2]
  show (List.range (qrow z 0 4).length).map _ = _
  rw [qrow_length]
  unfold qsums
  rw [List.map_map]
  apply List.map_congr_left
  intro k hk
  have hk4 := List.mem_range.1 hk
  have ec : colL (qts z n) k = (qcol z k n).map ofI := by
    unfold colL qts qcol
    rw [List.map_map, List.map_map]
    apply List.map_congr_left
    intro i _
    show (qrow z i 4).getD k 0 = ofI (z i k)
    simp [qrow, hk4]
  rw [ec, foldC_ofI (B := 32768) 200 (by decide) (qcol z k n) (by simpa [qcol] using hn) ?_]
  · show ofI (qsum z k n) = ofI (qsum z k (if k < 0 then n + 1 else n))
    rw [if_neg (by omega)]
  · intro x hx
    obtain ⟨i, hi, rfl⟩ := List.mem_map.1 hx
    have := h i (List.mem_range.1 hi) k hk4
    omega
theorem qnums (l : List Int) : (l.map ofI).all (fun x => !nanW x) = true := by
  rw [List.all_map]
  apply List.all_eq_true.2
  intro x _
  simp [nan_ofI]

/-- of one tensor the tree is it -/
theorem tree_one {s : List Int} {d : List Nat} (h : mayT s d = true) : trS [⟨s, d⟩] = s ∧ trE [⟨s, d⟩] = 0 ∧ trD [⟨s, d⟩] = d.map cn := by
  have hof : ∀ k, k < [(⟨s, d⟩ : Tn)].length → ofB ([(⟨s, d⟩ : Tn)].getD 0 tnil).s ([(⟨s, d⟩ : Tn)].getD k tnil) = true := by
    intro k hk
    obtain rfl : k = 0 := by simpa using hk
    show (mayT s d && sameB s s) = true
    rw [h]
    simp [sameB]
  obtain ⟨s1, s2, s3⟩ := tr_yes (by simp) hof
  refine ⟨s1, s3, ?_⟩
  rw [s2]
  show (List.range d.length).map (fun j => foldC [d.getD j 0]) = _
  apply List.ext_getElem
  · simp
  · intro i h1 h2
    have : i < d.length := by simpa using h1
    simp [foldC_one, this]

/-- blocks of whole numbers and of 64-bit numbers have not turned -/
def Keeps (w w' : World) : Prop := w.heap.size ≤ w'.heap.size ∧ ∀ (b : Nat) (cur : Array Value) (e : TypeId), w.heap[b]? = some (Obj.cells cur e) → (e = 3 ∨ e = 23) → w'.heap[b]? = some (Obj.cells cur e)
/-- the slice, if it has an array, has one of whole or of 64-bit numbers -/
def Tagd (w : World) (u : Value) : Prop := ∀ ad n c, u = .slice (some ad) n c → ∃ (cur : Array Value) (e : TypeId), w.heap[ad.block]? = some (Obj.cells cur e) ∧ (e = 3 ∨ e = 23)
theorem Keeps.trans {a b c : World} (h : Keeps a b) (k : Keeps b c) : Keeps a c := ⟨Nat.le_trans h.1 k.1, fun x cur e hx he => k.2 x cur e (h.2 x cur e hx he) he⟩
theorem Kp.keeps {w w' : World} (k : Kp w w') : Keeps w w' := ⟨k.size, fun b _ _ hb _ => (k.block b (Array.getElem?_eq_some_iff.1 hb).1).trans hb⟩
theorem Kx.keeps {w w' : World} {S : Nat} {ys : List Int} (k : Kx S w w') (hS : Blk w 27 S ys) : Keeps w w' := by
  refine ⟨k.size, fun b cur e hb he => ?_⟩
  refine (k.block b (Array.getElem?_eq_some_iff.1 hb).1 (fun e1 => ?_)).trans hb
  cases e1
  unfold Blk at hS
  rw [hb] at hS
  injection hS with e2
  injection e2 with _ e3
  subst e3
  revert he
  decide
theorem OwnT.keeps {w w' : World} {base n : Nat} {v : Value} {cs : List Value} (h : OwnT w base v n cs) (g : w.grownBy w' v.ownBlock) : Keeps w w' := by
  refine ⟨g.size, fun b cur e hb he => ?_⟩
  refine (g.block b (Array.getElem?_eq_some_iff.1 hb).1 (fun e1 => ?_)).trans hb
  obtain ⟨_, ⟨rfl, _⟩ | ⟨G, cap, cur', rfl, _, hh, _⟩⟩ := h
  · cases e1
  · cases e1
    rw [hb] at hh
    injection hh with e2
    injection e2 with _ e3
    subst e3
    revert he
    decide
theorem Tagd.keep {w w' : World} {u : Value} (h : Tagd w u) (k : Keeps w w') : Tagd w' u := by
  intro ad n c e
  obtain ⟨cur, t, h1, h2⟩ := h ad n c e
  exact ⟨cur, t, k.2 _ _ _ h1 h2, h2⟩
theorem Keeps.cell {w w' : World} {ad : Addr} {cur : Array Value} {e : TypeId} (k : Keeps w w') (h : w.heap[ad.block]? = some (.cells cur e)) (he : e = 3 ∨ e = 23) : w'.cell? ad = w.cell? ad := World.cell?_of_block (w := w) ((k.2 _ _ _ h he).trans h.symm)
theorem Ints.keepT {w w' : World} {v : Value} {xs : List Int} (h : Ints w v xs) (ht : Tagd w v) (k : Keeps w w') : Ints w' v xs := by
  obtain ⟨h1, h2, h0, a, cap, rfl, h3⟩ := h
  refine ⟨h1, h2, h0, a, cap, rfl, fun hp => ?_⟩
  obtain ⟨b, off, rfl, hb, hc⟩ := h3 hp
  obtain ⟨cur, e, g1, g2⟩ := ht _ _ _ rfl
  exact ⟨b, off, rfl, Nat.lt_of_lt_of_le hb k.1, fun i hi => (k.cell (ad := ⟨b, off + i, none⟩) g1 g2).trans (hc i hi)⟩
theorem Flts.keepT {w w' : World} {v : Value} {xs : List Nat} (h : Flts w v xs) (ht : Tagd w v) (k : Keeps w w') : Flts w' v xs := by
  obtain ⟨h1, h2, h0, a, cap, rfl, h3⟩ := h
  refine ⟨h1, h2, h0, a, cap, rfl, fun hp => ?_⟩
  obtain ⟨b, off, rfl, hb, hc⟩ := h3 hp
  obtain ⟨cur, e, g1, g2⟩ := ht _ _ _ rfl
  exact ⟨b, off, rfl, Nat.lt_of_lt_of_le hb k.1, fun i hi => (k.cell (ad := ⟨b, off + i, none⟩) g1 g2).trans (hc i hi)⟩
theorem Reads.keepT {w w' : World} {cs : List Value} {ts : List Tn} (h : Reads w cs ts) (hf : ∀ u ∈ cs, Tagd w u) (k : Keeps w w') : Reads w' cs ts := by
  refine ⟨h.len, fun i hi => ?_⟩
  obtain ⟨p, c, p', c', h1, h2, h3, h4⟩ := h.each i hi
  exact ⟨p, c, p', c', h1, h2, h3.keepT (hf _ (List.mem_of_getElem? h1)) k, h4.keepT (hf _ (List.mem_of_getElem? h2)) k⟩
theorem Tagd.lit (w : World) (c : Array Value) (B n m : Nat) (hB : B = w.heap.size) (e : TypeId) (he : e = 3 ∨ e = 23) : Tagd (w.alloc (.cells c e)) (.slice (some ⟨B, 0, none⟩) n m) := by
  subst hB
  intro ad n' c' e1
  cases e1
  exact ⟨c, e, by simp only [World.alloc, Array.getElem?_push_size], he⟩
theorem OwnF.tagd {w : World} {base : Nat} {v : Value} {xs : List Nat} (h : OwnF w 23 base v xs) : Tagd w v := by
  intro ad n c e
  obtain ⟨_, ⟨rfl, _⟩ | ⟨G, cap, cur', rfl, _, hh, _⟩⟩ := h
  · cases e
  · cases e
    exact ⟨_, _, hh, .inr rfl⟩
theorem OwnT.keepx8 {w w' : World} {base n S : Nat} {v : Value} {cs : List Value} (h : OwnT w base v n cs) (k : Kx S w w') (hS : S < base) : OwnT w' base v n cs := by
  obtain ⟨h0, h | ⟨g, cap, cur, rfl, hg, hh, r⟩⟩ := h
  · exact ⟨h0, .inl h⟩
  · exact ⟨h0, .inr ⟨g, cap, cur, rfl, hg, by rw [k.block g (Array.getElem?_eq_some_iff.1 hh).1 (fun e => by cases e; omega)]; exact hh, r⟩⟩
theorem Kx.trans8 {S : Nat} {a b c : World} (h : Kx S a b) (k : Kx S b c) : Kx S a c :=
  ⟨k.os.trans h.os, k.tape.trans h.tape, k.output.trans h.output, Nat.le_trans h.size k.size, fun i hi hne => (k.block i (Nat.lt_of_lt_of_le hi h.size) hne).trans (h.block i hi hne)⟩
/-- one pair, as cells -/
theorem Reads.pair {w : World} {p p' : Option Addr} {n c n' c' : Nat} {s : List Int} {d : List Nat} (hs : Ints w (.slice p n c) s) (hd : Flts w (.slice p' n' c') d) : Reads w [.slice p n c, .slice p' n' c'] [⟨s, d⟩] := by
  have e1 : n = s.length := by obtain ⟨a, cap, e, _⟩ := hs.val; cases e; rfl
  have e2 : n' = d.length := by obtain ⟨a, cap, e, _⟩ := hd.val; cases e; rfl
  subst e1 e2
  refine ⟨rfl, fun i hi => ?_⟩
  obtain rfl : i = 0 := by simpa using hi
  exact ⟨p, c, p', c', rfl, rfl, hs, hd⟩
theorem pair_cells8 (w : World) (x y : Value) (e : TypeId) : ∀ (j : Nat) (u : Value), [x, y][j]? = some u → (w.alloc (.cells #[x, y] e)).cell? ((⟨w.heap.size, 0, none⟩ : Addr).add j) = some u := by
  have hb : (w.alloc (.cells #[x, y] e)).heap[w.heap.size]? = some (.cells #[x, y] e) := by simp only [World.alloc, Array.getElem?_push_size]
  generalize w.alloc (.cells #[x, y] e) = W at hb ⊢
  generalize w.heap.size = B at hb ⊢
  intro j u hj
  match j, hj with
  | 0, hj =>
    cases hj
    simp [World.cell?, hb, Addr.add]
  | 1, hj =>
    cases hj
    simp [World.cell?, hb, Addr.add]
  | j + 2, hj => simp at hj
theorem Kx.of_grown8 {P : Nat} {a w w' : World} {row : Option Nat} (h : Kx P a w) (g : w.grownBy w' row) (hr : ∀ k, row = some k → a.heap.size ≤ k) : Kx P a w' :=
  ⟨g.os.trans h.os, g.tape.trans h.tape, g.output.trans h.output, Nat.le_trans h.size g.size, fun i hi hne => (g.block i (Nat.lt_of_lt_of_le hi h.size) (fun e => by have := hr i e.symm; omega)).trans (h.block i hi hne)⟩
theorem Kx.setNew8 {P : Nat} {a b : World} (h : Kx P a b) {B i : Nat} (hB : a.heap.size ≤ B) (v : Value) : Kx P a (b.setCell ⟨B, i, none⟩ v) :=
  ⟨h.os, h.tape, h.output, by simpa using h.size, fun k hk hne => (Below.heap_setCell b ⟨B, i, none⟩ v k (fun e => by simp at e; omega)).trans (h.block k hk hne)⟩

theorem Bx.set18 {w : World} {B : Nat} {x y : Value} (h : Bx w B x y) (v : Value) : Bx (w.setCell ⟨B, 1, none⟩ v) B x v := by
  unfold Bx at h ⊢
  simp [World.setCell, Array.getElem?_modify, h]
theorem Bx.other8 {w : World} {B C i : Nat} {x y : Value} (h : Bx w B x y) (hne : B ≠ C) (v : Value) : Bx (w.setCell ⟨C, i, none⟩ v) B x y := by
  unfold Bx at h ⊢
  exact (Below.heap_setCell w ⟨C, i, none⟩ v B hne).trans h
theorem Blk.other8 {w : World} {e : TypeId} {B C i : Nat} {xs : List Int} (h : Blk w e B xs) (hne : B ≠ C) (v : Value) : Blk (w.setCell ⟨C, i, none⟩ v) e B xs := by
  unfold Blk at h ⊢
  exact (Below.heap_setCell w ⟨C, i, none⟩ v B hne).trans h
theorem OwnF.other8 {w : World} {e : TypeId} {base C i : Nat} {v : Value} {xs : List Nat} (h : OwnF w e base v xs) (hC : C < base) (u : Value) : OwnF (w.setCell ⟨C, i, none⟩ u) e base v xs := h.setBelow hC i u
theorem OwnF.neBx8 {w : World} {e : TypeId} {base B : Nat} {v x y : Value} {xs : List Nat} (h : OwnF w e base v xs) (hb : Bx w B x y) (he : e ≠ 31) : some B ≠ v.ownBlock := by
  obtain ⟨_, h | ⟨g, cap, cur, rfl, _, hh, _⟩⟩ := h
  · obtain ⟨rfl, _⟩ := h
    simp [Value.ownBlock]
  · intro e1
    obtain rfl : B = g := by simpa [Value.ownBlock] using e1
    unfold Bx at hb
    rw [hh] at hb
    injection hb with e2
    injection e2 with _ e3
    exact he e3
theorem OwnF.setB18 {w : World} {e : TypeId} {base B : Nat} {v x y : Value} {xs : List Nat} (h : OwnF w e base v xs) (hb : Bx w B x y) (he : e ≠ 31) (u : Value) : OwnF (w.setCell ⟨B, 1, none⟩ u) e base v xs := by
  have hn := h.neBx8 hb he
  obtain ⟨h0, h | ⟨g, cap, cur, rfl, hg, hh, r⟩⟩ := h
  · exact ⟨h0, .inl h⟩
  · have hne : g ≠ B := fun e => hn (by rw [e]; rfl)
    exact ⟨h0, .inr ⟨g, cap, cur, rfl, hg, (Below.heap_setCell w ⟨B, 1, none⟩ u g hne).trans hh, r⟩⟩
theorem Bx.grown8 {w w' : World} {B base : Nat} {x y v : Value} {e : TypeId} {xs : List Nat} (h : Bx w B x y) (g : w.grownBy w' v.ownBlock) (o : OwnF w e base v xs) (he : e ≠ 31) : Bx w' B x y := by
  unfold Bx
  rw [g.block B h.lt (o.neBx8 h he)]
  exact h
theorem Blk.grown8 {w w' : World} {e : TypeId} {B : Nat} {xs : List Int} {row : Option Nat} (h : Blk w e B xs) (g : w.grownBy w' row) (hr : ∀ k, row = some k → B < k) : Blk w' e B xs := by
  unfold Blk
  rw [g.block B h.lt (fun e => by have := hr B e.symm; omega)]
  exact h

/-- a number is appended to the row of the pair in block B -/
theorem step_append_box8 {ops : Array Oper} {o : Oper} {a : Act} {w : World} {K : Act → World → Prop} {Q : Exit → Act → World → Prop} {E : Prop}
    (hg : o.guard = none) (s x : Operand) (hop : o.op = Op.call { callee := Callee.builtin Builtin.append, args := #[s, x], argTypes := #[29, 29] })
    (base : Nat) (v : Value) (xs : List Nat) (ad : Addr) (y : Nat) (hs : a.eval s = v) (hx : a.eval x = .slice (some ad) 1 1) (hv : OwnF w 23 base v xs) (hu : Flts w (.slice (some ad) 1 1) [y]) (hroom : xs.length + 1 ≤ 1000000) (hbase : base ≤ w.heap.size)
    (B : Nat) (p : Value) (hb : Bx w B p v)
    (h : ∀ b n c w', Hid (OwnF w' 23 base (.slice b n c) (xs ++ [y]) ∧ w.grownBy w' v.ownBlock ∧ Bx w' B p v) → w'.cell? ⟨B, 1, none⟩ = some v → w'.frozen? ⟨B, 1, none⟩ = false → K (a.put o.dst (.slice b n c)) w') :
    if Region.wanted o (yielded ops a.tmps) = true then Oper.wp Try.prog o a w K Q else E := by
  have hw : Region.wanted o (yielded ops a.tmps) = true := by simp [Region.wanted, hg]
  rw [if_pos hw]
  obtain ⟨v', w', hrun, h1, h2⟩ := run_append_flts (P := Try.prog) w base 29 o.type 23 info_flt8 Try.underlying29 v (.slice (some ad) 1 1) xs [y] hv hu (by rw [List.length_singleton]; omega) hbase
  have hb2 := hb.grown8 h2 hv (by decide)
  obtain ⟨b, n, c, rfl⟩ := h1.sl
  unfold Oper.wp
  simp [execOp, hop, resolve, invoke, builtin, hs, hx, hrun, Result.andThen]
  exact h b n c w' ⟨h1, h2, hb2⟩ hb2.c1 (hb2.frozen 1)

/-- what is behind it: the pair holds the longer row; the sums are as they were -/
theorem box_after8 {wL w w' : World} {S B base n c : Nat} {b : Option Addr} {p v : Value} {xs : List Nat} {y : Nat} {ys : List Int} (k : Kx S wL w) (hbase : wL.heap.size ≤ base) (hB : wL.heap.size ≤ B) (hv : OwnF w 23 base v xs) (hS : Blk w 27 S ys) (hSL : S < wL.heap.size) (h : OwnF w' 23 base (.slice b n c) (xs ++ [y]) ∧ w.grownBy w' v.ownBlock ∧ Bx w' B p v) :
    Bx (w'.setCell ⟨B, 1, none⟩ (.slice b n c)) B p (.slice b n c) ∧ OwnF (w'.setCell ⟨B, 1, none⟩ (.slice b n c)) 23 base (.slice b n c) (xs ++ [y]) ∧ Blk (w'.setCell ⟨B, 1, none⟩ (.slice b n c)) 27 S ys ∧ Kx S wL (w'.setCell ⟨B, 1, none⟩ (.slice b n c)) :=
  ⟨h.2.2.set18 _, h.1.setB18 h.2.2 (by decide) _, (hS.grown8 h.2.1 (fun q hq => Nat.lt_of_lt_of_le hSL (Nat.le_trans hbase (hv.block q hq)))).other8 (by omega) _, (k.of_grown8 h.2.1 (fun q hq => Nat.le_trans hbase (hv.block q hq))).setNew8 hB _⟩

end Go.Proofs.Ytlfjclnocbohbaa
