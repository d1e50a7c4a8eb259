
/- The law GraphDeep: graphs each of which Calls the next one so many times. -/
import Derived.Test.YtidkeidiojojmaaGrR
import Derived.OpenShut
namespace Go.Proofs.Ytidkeidiojojmaa
open Go.RowKit

theorem u8_nat {a : Int} (h : (Lit.int .u8 a).wf = true) : ∃ n : Nat, a = n ∧ n < 256 := by
  have h2 := bounds_u8 h
  exact ⟨a.toNat, by omega, by omega⟩

/-- the slice of graphs that is being built -/
def LAt (w : World) (lo : Nat) (v : Value) (gs : List (List Nd)) : Prop := ∃ xs, RowG w lo gs xs ∧ ((gs = [] ∧ v = .slice none 0 0) ∨ 0 < gs.length ∧ ∃ b k cur, v = .slice (some ⟨b, 0, none⟩) gs.length k ∧ lo ≤ b ∧ w.heap[b]? = some (.cells cur 34) ∧ cur.toList.take gs.length = xs)
theorem LAt.keep {w w' : World} {lo wb : Nat} {v : Value} {gs : List (List Nd)} (h : LAt w lo v gs) (k : Kx wb w w') (hl : wb < lo) : LAt w' lo v gs := by
  obtain ⟨xs, hr, h⟩ := h
  refine ⟨xs, hr.keep k hl, ?_⟩
  rcases h with h | ⟨hp, b, k', cur, e, hb, hh, ht⟩
  · exact .inl h
  · exact .inr ⟨hp, b, k', cur, e, hb, by rw [k.block b (lt_heap hh) (fun e => by cases e; omega)]; exact hh, ht⟩
theorem LAt.form {w : World} {lo : Nat} {v : Value} {gs : List (List Nd)} (h : LAt w lo v gs) : ∃ a k, v = .slice a gs.length k := by
  obtain ⟨xs, hr, ⟨rfl, rfl⟩ | ⟨_, b, k', cur, e, _⟩⟩ := h
  · exact ⟨_, _, rfl⟩
  · exact ⟨_, _, e⟩
/-- the work that is reckoned so far -/
def WkAt (c km r : Nat) (ys : List Int) : Prop := ys.length = km + 2 ∧ ∀ t, r ≤ t → t < km + 1 → ys.getD t 0 = (wP c (km - t) : Int)

/-- what lies where while one graph is being built: q Calls of graph t so far -/
structure Bld (wr wi : World) (wb B0 : Nat) (r q c km : Nat) (ys : List Int) (v : Value) (ns : List Nd) (zs : List Int) : Prop where
  kx : Kx wb wr wi
  box : wi.heap[B0 + 1]? = some (.cells #[v] 34)
  row : ∃ xs, wi.ownsRow B0 41 7 v ns.length xs ∧ RowN wi (wb + 1) ns xs
  blk : Blk wi 3 wb zs
  len : zs.length = km + 2
  oth : ∀ t, t ≠ r → zs.getD t 0 = ys.getD t 0
  now : zs.getD r 0 = ((min (1 + q * (1 + wP c (km - (r + 1)))) 1048576 : Nat) : Int)
theorem ndLf_row (w : World) (lo : Nat) : RowN w lo [ndLf] (nC ndLf none 0) := ⟨none, 0, [], rfl, .inl ⟨rfl, rfl⟩, fun _ => rfl, ⟨by decide, by decide⟩, ⟨by decide, by decide⟩, ⟨rfl, rfl, rfl, rfl⟩, rfl⟩
theorem bld_start {wr w5 : World} {wb r c km : Nat} {ys : List Int} (hb : Blk wr 3 wb ys) (hl : ys.length = km + 2) (hr : r < km + 2)
    (hW : (((wr.alloc (Obj.cells #[.int .i64 1, .slice none 0 0, .slice none 0 0, .int .i64 0, .slice none 0 0, .slice none 0 0, .slice none 0 0] 41)).alloc (Obj.cells #[.slice (some ⟨wr.heap.size, 0, none⟩) 1 1] 34)).setCell ⟨wb, r, none⟩ (.int .i64 1)) = w5) :
    Bld wr w5 wb wr.heap.size r 0 c km ys (.slice (some ⟨wr.heap.size, 0, none⟩) 1 1) [ndLf] (ys.set r 1) := by
  subst hW
  have hlt := hb.lt
  have k2 := (Kp.alloc wr (Obj.cells #[.int .i64 1, .slice none 0 0, .slice none 0 0, .int .i64 0, .slice none 0 0, .slice none 0 0, .slice none 0 0] 41)).trans (Kp.alloc _ (Obj.cells #[.slice (some ⟨wr.heap.size, 0, none⟩) 1 1] 34))
  have hkx : Kx wb wr (((wr.alloc (Obj.cells #[.int .i64 1, .slice none 0 0, .slice none 0 0, .int .i64 0, .slice none 0 0, .slice none 0 0, .slice none 0 0] 41)).alloc (Obj.cells #[.slice (some ⟨wr.heap.size, 0, none⟩) 1 1] 34)).setCell ⟨wb, r, none⟩ (.int .i64 1)) := Kx.set (Kx.kp (Kx.refl wb wr) k2) r _
  have oth : ∀ {u : World} {b : Nat} {o : Obj}, u.heap[b]? = some o → b ≠ wb → (u.setCell ⟨wb, r, none⟩ (.int .i64 1)).heap[b]? = some o := fun {u b o} h hne => by
    rw [(Kx.set (Kx.refl wb u) r _).block b (lt_heap h) (fun e => by cases e; exact hne rfl)]
    exact h
  have h0 := oth (heap_old (o := (Obj.cells #[.slice (some ⟨wr.heap.size, 0, none⟩) 1 1] 34)) (heap_new wr (Obj.cells #[.int .i64 1, .slice none 0 0, .slice none 0 0, .int .i64 0, .slice none 0 0, .slice none 0 0, .slice none 0 0] 41) _ rfl)) (show wr.heap.size ≠ wb by omega)
  have h1 := oth (heap_new (wr.alloc (Obj.cells #[.int .i64 1, .slice none 0 0, .slice none 0 0, .int .i64 0, .slice none 0 0, .slice none 0 0, .slice none 0 0] 41)) (Obj.cells #[.slice (some ⟨wr.heap.size, 0, none⟩) 1 1] 34) (wr.heap.size + 1) (by simp only [sz_alloc])) (show wr.heap.size + 1 ≠ wb by omega)
  refine ⟨hkx, h1, ⟨nC ndLf none 0, ⟨rfl, .inr ⟨wr.heap.size, 1, _, rfl, Nat.le_refl _, h0, Nat.le_refl _, by decide, rfl, rfl⟩⟩, ndLf_row _ _⟩, (hb.keep k2).set r 1, by simp [hl], fun t ht => by simp [List.getD, Ne.symm ht], ?_⟩
  rw [Nat.zero_mul, Nat.add_zero]
  simp [List.getD, hl, hr]

theorem infoN : (Try.prog.info? 41).map (fun i => (i.zero, i.size, i.bytes)) = some (some (.agg #[.int .i64 0, .slice none 0 0, .slice none 0 0, .int .i64 0, .slice none 0 0, .slice none 0 0, .slice none 0 0]), 7, 136) := by kernel_rfl
theorem infoG : (Try.prog.info? 34).map (fun i => (i.zero, i.size, i.bytes)) = some (some (.agg #[.slice none 0 0]), 1, 24) := by kernel_rfl
theorem owns_kp {w w' : World} {base e size n : Nat} {v : Value} {xs : List Value} (h : w.ownsRow base e size v n xs) (k : Kp w w') : w'.ownsRow base e size v n xs := by
  obtain ⟨h0, h | ⟨g, cap, cur, e1, hg, hh, r⟩⟩ := h
  · exact ⟨h0, .inl h⟩
  · exact ⟨h0, .inr ⟨g, cap, cur, e1, hg, by rw [k.block g (lt_heap hh)]; exact hh, r⟩⟩
theorem cells_new (w : World) (cs : List Value) (e : TypeId) (j : Nat) (u : Value) (h : cs[j]? = some u) : (w.alloc (.cells cs.toArray e)).cell? ((⟨w.heap.size, 0, none⟩ : Addr).add j) = some u := by
  rw [Addr.add_lit, Nat.zero_add, Blk.cells (heap_new w (.cells cs.toArray e) _ rfl)]
  simpa using h
theorem nC_one (t : Int) (a : Option Addr) (c : Nat) : ∀ u ∈ nC (ndC t) a c, u.oneCell' = true := by
  intro u hu
  simp only [nC, List.mem_cons, List.not_mem_nil, or_false] at hu
  rcases hu with rfl | rfl | rfl | rfl | rfl | rfl | rfl <;> rfl
theorem Kx.ofG {P : Nat} {a w w' : World} {row : Option Nat} (h : Kx P a w) (g : w.grownBy w' row) (hr : ∀ k, row = some k → a.heap.size ≤ k) : Kx P a w' :=
  ⟨g.os.trans h.os, g.tape.trans h.tape, g.output.trans h.output, Nat.le_trans h.size g.size, fun i hi hne => (g.block i (Nat.lt_of_lt_of_le hi h.size) (fun e => by have := hr i e.symm; omega)).trans (h.block i hi hne)⟩
theorem ndC_row {w : World} {lo b : Nat} {t : Int} (hb : lo ≤ b) (ht : I64 t) (h : w.heap[b]? = some (.cells #[.int .i64 0] 3)) : RowN w lo [ndC t] (nC (ndC t) (some ⟨b, 0, none⟩) 1) := by
  refine ⟨some ⟨b, 0, none⟩, 1, [], (List.append_nil _).symm, .inr ⟨b, rfl, hb, h, ?_, show (1 : Nat) ≤ 1000 by decide⟩, fun e => (by cases e), ⟨show (-9223372036854775808 : Int) ≤ 16 by decide, show (16 : Int) ≤ 9223372036854775807 by decide⟩, ht, ⟨rfl, rfl, rfl, rfl⟩, rfl⟩
  intro x hx
  have hx2 : x ∈ ([0] : List Int) := hx
  simp only [List.mem_cons, List.not_mem_nil, or_false] at hx2
  subst hx2
  exact ⟨by decide, by decide⟩
theorem some_ne {a b : Nat} (h : a ≠ b) : some a ≠ some b := fun e => h (Option.some.inj e)
theorem owns_form {w : World} {base e size n : Nat} {v : Value} {xs : List Value} (h : w.ownsRow base e size v n xs) : ∃ a k, v = .slice a n k := by
  obtain ⟨_, ⟨h1, h2⟩ | ⟨g, cap, cur, e1, _⟩⟩ := h
  · exact ⟨none, 0, by rw [h1, h2]⟩
  · exact ⟨_, _, e1⟩
theorem bld_box {wr wi w' : World} {wb B0 r q c km : Nat} {ys zs : List Int} {v : Value} {ns : List Nd} {xs : List Value} {t : Int} (h : Bld wr wi wb B0 r q c km ys v ns zs) (hn : 0 < ns.length)
    (hx : wi.ownsRow B0 41 7 v ns.length xs) (hg : ((wi.alloc (Obj.cells #[.int .i64 0] 3)).alloc (Obj.cells (nC (ndC t) (some ⟨wi.heap.size, 0, none⟩) 1).toArray 41)).grownBy w' v.ownBlock) : Boxed w' (B0 + 1) 34 v := by
  have k2 := (Kp.alloc wi (Obj.cells #[.int .i64 0] 3)).trans (Kp.alloc _ (Obj.cells (nC (ndC t) (some ⟨wi.heap.size, 0, none⟩) 1).toArray 41))
  have hs1 : wi.heap.size < ((wi.alloc (Obj.cells #[.int .i64 0] 3)).alloc (Obj.cells (nC (ndC t) (some ⟨wi.heap.size, 0, none⟩) 1).toArray 41)).heap.size := by simp only [sz_alloc]; omega
  have hbx := lt_heap h.box
  obtain ⟨_, ⟨_, e⟩ | ⟨g, cap, cur, rfl, h1, h2, _⟩⟩ := hx
  · omega
  have hne1 : ¬ B0 + 1 = g := by
    intro e
    have h1 := h.box
    rw [e, h2] at h1
    simp at h1
  show w'.heap[B0 + 1]? = _
  rw [hg.block _ (Nat.lt_trans hbx hs1) (some_ne hne1), k2.block _ hbx]
  exact h.box
theorem heap_drewx {w : World} {B : Nat} {o : Obj} (h : w.heap[B]? = some o) : w.drew.heap[B]? = some o := h
/-- one Call more, and the graph's box set -/
theorem bld_more {wr wi w' : World} {wb B0 r q c km : Nat} {ys zs : List Int} {v v' : Value} {ns : List Nd} {xs : List Value} {t : Int} (h : Bld wr wi wb B0 r q c km ys v ns zs) (hwb : wb < B0) (hr : wr.heap.size = B0) (ht : I64 t) (hn : 0 < ns.length)
    (hx : wi.ownsRow B0 41 7 v ns.length xs) (hrow : RowN wi (wb + 1) ns xs)
    (ho : w'.ownsRow B0 41 7 v' (ns.length + 1) (xs ++ nC (ndC t) (some ⟨wi.heap.size, 0, none⟩) 1))
    (hg : ((wi.alloc (Obj.cells #[.int .i64 0] 3)).alloc (Obj.cells (nC (ndC t) (some ⟨wi.heap.size, 0, none⟩) 1).toArray 41)).grownBy w' v.ownBlock) :
    Bld wr (w'.setCell ⟨B0 + 1, 0, none⟩ v') wb B0 r q c km ys v' (ns ++ [ndC t]) zs := by
  have k2 := (Kp.alloc wi (Obj.cells #[.int .i64 0] 3)).trans (Kp.alloc _ (Obj.cells (nC (ndC t) (some ⟨wi.heap.size, 0, none⟩) 1).toArray 41))
  obtain ⟨g, hgB, hgo, cur0, hgh⟩ : ∃ g, B0 ≤ g ∧ v.ownBlock = some g ∧ ∃ cur, wi.heap[g]? = some (.cells cur 41) := by
    obtain ⟨_, ⟨_, e⟩ | ⟨g, cap, cur, rfl, h1, h2, _⟩⟩ := hx
    · omega
    · exact ⟨g, h1, rfl, cur, h2⟩
  rw [hgo] at hg
  have hs1 : wi.heap.size < ((wi.alloc (Obj.cells #[.int .i64 0] 3)).alloc (Obj.cells (nC (ndC t) (some ⟨wi.heap.size, 0, none⟩) 1).toArray 41)).heap.size := by simp only [sz_alloc]; omega
  have hbx := lt_heap h.box
  have hne1 : ¬ B0 + 1 = g := by
    intro e
    have h1 := h.box
    rw [e, hgh] at h1
    simp at h1
  have hlt := h.blk.lt
  have keep : ∀ {b : Nat} {o : Obj}, wi.heap[b]? = some o → b ≠ g → b ≠ B0 + 1 → (w'.setCell ⟨B0 + 1, 0, none⟩ v').heap[b]? = some o := fun {b o} hb h1 h2 => by
    have hl := lt_heap hb
    rw [(Kx.set (Kx.refl (B0 + 1) w') 0 v').block b (Nat.lt_of_lt_of_le (Nat.lt_trans hl hs1) hg.size) (fun e => by cases e; exact h2 rfl), hg.block b (Nat.lt_trans hl hs1) (fun e => by cases e; exact h1 rfl), k2.block b hl]
    exact hb
  have hW1 : ((wi.alloc (Obj.cells #[.int .i64 0] 3)).alloc (Obj.cells (nC (ndC t) (some ⟨wi.heap.size, 0, none⟩) 1).toArray 41)).heap[wi.heap.size]? = some (.cells #[.int .i64 0] 3) := heap_old (heap_new wi _ _ rfl)
  have hbw : w'.heap[B0 + 1]? = some (.cells #[v] 34) := by
    rw [hg.block _ (Nat.lt_trans hbx hs1) (fun e => by cases e; exact hne1 rfl), k2.block _ hbx]
    exact h.box
  have hkx := (Kx.kp h.kx k2).ofG hg (fun k e => by cases e; omega)
  refine ⟨hkx.ofG (Kx.set (Kx.refl (B0 + 1) w') 0 v') (fun k e => by cases e; omega), Boxed.set v' hbw, ⟨_, ?_, (RowN.append (hrow.keep ?_) (ndC_row (b := wi.heap.size) (by omega) ht ?_))⟩, ?_, h.len, h.oth, h.now⟩
  · have hl : (ns ++ [ndC t]).length = ns.length + 1 := by simp
    rw [hl]
    refine ownsRow_setCell_other ho ?_ v'
    obtain ⟨_, ⟨_, e⟩ | ⟨g2, cap, cur, rfl, h1, h2, _⟩⟩ := ho
    · omega
    · intro e
      have e2 : g2 = B0 + 1 := by simpa [Value.ownBlock] using e
      rw [e2, hbw] at h2
      simp at h2
  · intro b cs hb hh
    refine keep hh ?_ ?_
    · intro e
      rw [e, hgh] at hh
      simp at hh
    · intro e
      rw [e, h.box] at hh
      simp at hh
  · have hgl := lt_heap hgh
    rw [(Kx.set (Kx.refl (B0 + 1) w') 0 v').block _ (Nat.lt_of_lt_of_le hs1 hg.size) (some_ne (by omega)), hg.block _ hs1 (some_ne (by omega))]
    exact hW1
  · exact keep h.blk (by omega) (by omega)

theorem bld_set {wr wi : World} {wb B0 r q c km x : Nat} {ys zs : List Int} {v : Value} {ns : List Nd} (h : Bld wr wi wb B0 r q c km ys v ns zs) (hwb : wb < B0) (hr : r < km + 2) (hx : min (1 + (q + 1) * (1 + wP c (km - (r + 1)))) 1048576 = x) :
    Bld wr (wi.setCell ⟨wb, r, none⟩ (.int .i64 x)).drew wb B0 r (q + 1) c km ys v ns (zs.set r x) := by
  obtain ⟨xs, ho, hn⟩ := h.row
  have hk : Kx wb wi (wi.setCell ⟨wb, r, none⟩ (.int .i64 x)) := Kx.set (Kx.refl wb wi) r _
  refine ⟨Kx.kp (Kx.set h.kx r _) (Kp.drew _), ?_, ⟨xs, World.ownsRow.drew (ownsRow_setCell_below ho hwb _), hn.keep ?_⟩, h.blk.set r x, by rw [List.length_set]; exact h.len, fun t ht => ?_, ?_⟩
  · refine heap_drewx ?_
    rw [hk.block _ (lt_heap h.box) (some_ne (by omega))]
    exact h.box
  · exact fun b cs hb hh => heap_drewx (Sf.grown (lo := wb + 1) (row := some wb) hk (fun k e => by cases e; exact .inl (Nat.lt_succ_self _)) b cs hb hh)
  · rw [← h.oth t ht]
    simp [List.getD, Ne.symm ht]
  · rw [hx]
    have := h.len
    simp [List.getD, this, hr]

theorem drop_ch {c k r : Nat} {lp : Bool} (h : r < k) : (chGs c k lp).drop r = chN c k lp r :: (chGs c k lp).drop (r + 1) := by
  have hl : r < (chGs c k lp).length := by rw [chGs_length]; exact h
  rw [List.drop_eq_getElem_cons hl]
  congr 1
  have := chGs_at (c := c) (lp := lp) h
  simpa [List.getD, hl] using this
theorem chN_length {c k r : Nat} {lp : Bool} (hc : c < 100) : 0 < (chN c k lp r).length ∧ (chN c k lp r).length ≤ 1000 := by
  unfold chN
  split <;> split <;> simp <;> omega
/-- the graph is laid ahead of the others -/
theorem lat_next {w wr wi w8 : World} {wb B0 r q c km m : Nat} {lp : Bool} {ys zs : List Int} {v v8 : Value} {ns : List Nd} {xsG : List Value} (h : Bld wr wi wb B0 r q c km ys v ns zs) (hns : ns = chN c (km + 1) lp r) (_hB0 : wr.heap.size = B0) (hwb : wb < B0) (hr : r < km + 1) (hc : c < 100)
    (hq : (r + 1 < km + 1 → q = c) ∧ (¬ r + 1 < km + 1 → q = 0)) (hW : WkAt c km (r + 1) ys) (hG : RowG wr (wb + 1) ((chGs c (km + 1) lp).drop (r + 1)) xsG) (hm : km - r = m)
    (ho : w8.ownsRow wi.heap.size 34 1 v8 (1 + m) ([v] ++ xsG)) (hg : (wi.alloc (.cells #[v] 34)).grownBy w8 (some wi.heap.size)) (hK : Kp w wr) (hwl : w.heap.size ≤ wb) :
    Blk w8 3 wb zs ∧ WkAt c km r zs ∧ LAt w8 (wb + 1) v8 ((chGs c (km + 1) lp).drop r) ∧ Kp w w8 := by
  have hws := h.kx.size
  have k8 : Kx wb wr w8 := (Kx.kp h.kx (Kp.alloc _ _)).ofG hg (fun k e => by cases e; exact hws)
  have keep : ∀ {b : Nat} {o : Obj}, wi.heap[b]? = some o → w8.heap[b]? = some o := fun {b o} hb => by
    have hl := lt_heap hb
    rw [hg.block b (by rw [sz_alloc]; omega) (some_ne (by omega))]
    exact heap_old hb
  obtain ⟨xs, hx, hrow⟩ := h.row
  have hl := chN_length (k := km + 1) (r := r) (lp := lp) hc
  rw [← hns] at hl
  refine ⟨keep h.blk, ⟨h.len, fun t h1 h2 => ?_⟩, ?_, Kx.after hK k8 hwl⟩
  · by_cases e : t = r
    · subst e
      rw [h.now]
      by_cases h3 : t + 1 < km + 1
      · rw [hq.1 h3, show km - t = (km - (t + 1)) + 1 by omega]
        rfl
      · rw [hq.2 h3, show km - t = 0 by omega, Nat.zero_mul]
        rfl
    · rw [h.oth t e]
      exact hW.2 t (by omega) h2
  · have hgl : ((chGs c (km + 1) lp).drop (r + 1)).length = m := by rw [List.length_drop, chGs_length]; omega
    rw [drop_ch hr, ← hns]
    refine ⟨[v] ++ xsG, ?_, .inr ?_⟩
    · obtain ⟨_, ⟨_, e⟩ | ⟨g, cap, cur, rfl, h1, h2, _, _, _, h4⟩⟩ := hx
      · omega
      · refine ⟨g, cap, cur, xsG, rfl, by omega, hl.2, keep h2, ?_, hG.keep k8 (Nat.lt_succ_self _)⟩
        rw [h4]
        exact hrow.keep (fun b cs _ hb => keep hb)
    · obtain ⟨_, ⟨_, e⟩ | ⟨g, cap, cur, rfl, h1, h2, _, _, _, h4⟩⟩ := ho
      · omega
      · have hlen : (ns :: (chGs c (km + 1) lp).drop (r + 1)).length = 1 + m := by rw [List.length_cons, hgl]; omega
        rw [hlen]
        refine ⟨by omega, g, cap, cur, rfl, ?_, h2, by rw [← h4, Nat.mul_one]⟩
        have hws2 := h.blk.lt
        omega

theorem fresh_own' {w : World} {b : Nat} (h : b = w.heap.size) (v : Value) (t : TypeId) : (w.alloc (.cells #[v] t)).ownsRow b t 1 (.slice (some ⟨b, 0, none⟩) 1 1) 1 [v] := by
  subst h
  exact ⟨rfl, .inr ⟨_, 1, #[v], rfl, Nat.le_refl _, heap_new _ _ _ rfl, Nat.le_refl _, by decide, rfl, rfl⟩⟩
theorem fresh_own (w : World) (v : Value) (t : TypeId) : (w.alloc (.cells #[v] t)).ownsRow w.heap.size t 1 (.slice (some ⟨w.heap.size, 0, none⟩) 1 1) 1 [v] :=
  ⟨rfl, .inr ⟨_, 1, #[v], rfl, Nat.le_refl _, heap_new _ _ _ rfl, Nat.le_refl _, by decide, rfl, rfl⟩⟩
theorem cells_there {w : World} {b m : Nat} {cur : Array Value} {t : TypeId} {xs : List Value} (h : w.heap[b]? = some (.cells cur t)) (ht : cur.toList.take m = xs) (hl : xs.length = m) (j : Nat) (u : Value) (hj : xs[j]? = some u) : w.cell? ((⟨b, 0, none⟩ : Addr).add j) = some u := by
  have hjm : j < m := by have := (List.getElem?_eq_some_iff.1 hj).1; omega
  rw [Addr.add_lit, Nat.zero_add, cell_take h ht hjm]
  exact hj

theorem deepB_f {c km : Nat} : deepB c (km + 1) false ↔ (0 < c ∧ 8 < km) := by unfold deepB; simp
theorem deepB_t {c km : Nat} : deepB c (km + 1) true ↔ (0 < c ∨ km = 0) := by unfold deepB; simp; omega

set_option maxRecDepth 20000 in
set_option maxHeartbeats 8000000 in
theorem deep_walk (n c0 : Nat) (lp : Bool) (hn : n < 256) (hc : c0 < 256) (w : World) : Calls Try.prog 4 #[.int .u8 n, .int .u8 c0, .bool lp] w fun e w' => e = .returned (.bool true) ∧ Kp w w' := by
  have hk0 : ((n : Int)).tmod 16 = ((n % 16 : Nat) : Int) := by rw [Int.tmod_eq_emod_of_nonneg (by omega)]; omega
  have hc1 : ((c0 : Int)).tmod 100 = ((c0 % 100 : Nat) : Int) := by rw [Int.tmod_eq_emod_of_nonneg (by omega)]; omega
  have hm1 := Nat.mod_lt n (show 0 < 16 by decide)
  have hm2 := Nat.mod_lt c0 (show 0 < 100 by decide)
  generalize hK : n % 16 = km at *
  generalize hC : c0 % 100 = c at *
  go_enter Try.func4, Try.ntmps4
  go_wp2_with fail
  refine (awake10_any w).mono ?_
  rintro e w1 ⟨rfl, k1⟩
  have K1 := hide k1
  clear k1
  have hmk : ∀ w, (Instr.makeSlice 35 (.int .i64 ((1 : Int) + (km : Int) + 1)) (.int .i64 ((1 : Int) + (km : Int) + 1))).run Try.prog w = .ok (.slice (some ⟨w.heap.size, 0, none⟩) (km + 2) (km + 2)) (w.alloc (.cells (madeCells #[.int .i64 0] (km + 2)) 3)) := fun w => by
    have h := mk_ints (km + 2) (by omega) w
    have e : ((1 : Int) + (km : Int) + 1) = ((km + 2 : Nat) : Int) := by omega
    rw [e]
    exact h
  go_wp2_with fail
  have hB := hide (Blk.made w1 3 (km + 2))
  generalize hW2 : w1.alloc _ = w2
  rw [hW2] at hB
  have hwl : Hid (w.heap.size ≤ w1.heap.size) := (unhide K1).size
  have K2 := hide ((unhide K1).trans (show Kp w1 w2 from hW2 ▸ Kp.alloc w1 _))
  generalize w1.heap.size = wb at *
  clear hmk hW2 K1
  have hi0 : (1 : Int) + (km : Int) - 1 = (km : Int) := by omega
  rw [hi0]
  go_loopw [11, 9] (fun i l wr => ∃ r : Nat, r ≤ km + 1 ∧ i = .int .i64 ((r : Int) - 1) ∧ ∃ ys lx, lx = l ∧ Hid (Blk wr 3 wb ys ∧ WkAt c km r ys ∧ LAt wr (wb + 1) lx ((chGs c (km + 1) lp).drop r) ∧ Kp w wr)) (fun i _ _ => (intOf i + 1).toNat)
  case atStart =>
    refine ⟨km + 1, Nat.le_refl _, by go_num, List.replicate (km + 2) 0, _, rfl, unhide hB, ⟨by simp, fun t h1 h2 => by omega⟩, ⟨[], ?_, .inl ⟨?_, rfl⟩⟩, unhide K2⟩
    · rw [List.drop_eq_nil_of_le (by rw [chGs_length]; exact Nat.le_refl _)]; rfl
    · rw [List.drop_eq_nil_of_le (by rw [chGs_length]; exact Nat.le_refl _)]
  case round =>
    obtain ⟨r, hr, rfl, ys, lx, hlx, HH⟩ := hrel
    subst hlx
    cases r with
    | zero =>
      have e1 : ((0 : Nat) : Int) - 1 = -1 := rfl
      rw [e1]
      obtain ⟨xsG, hrG, ⟨e, _⟩ | ⟨hp, b, k, cur, rfl, h1, h2, h3⟩⟩ := (unhide HH).2.2.1
      · have h9 := congrArg List.length e
        rw [List.drop_zero, chGs_length] at h9
        simp at h9
      rw [List.drop_zero] at hrG h3 hp ⊢
      have hgr := RowG.graphs hrG h2 h3 (c := k) (by rw [chGs_length]; omega)
      have HWK := work_any (some ⟨b, 0, none⟩) k (chGs c (km + 1) lp) 0 wr hgr ⟨by decide, by decide⟩
      rw [chGs_length] at HWK
      rw [chGs_length]
      have HC := hide HWK
      have hbk := hide (unhide HH).1
      have hwk0 := hide (unhide HH).2.1
      have HKP := hide (unhide HH).2.2.2
      clear hrG h1 h2 h3 hp hgr HWK HH hB K2
      go_wp2_with fail
      refine (unhide HC).mono ?_
      rintro e w9 ⟨vv, ee, rfl, hwr, k9⟩
      have DM := deep_main (by omega) hwr
      rw [show km + 1 - 1 = km by omega] at DM
      have K9 := hide ((unhide HKP).trans k9)
      have c9 := ((unhide hbk).keep k9).cell (i := 0) (by rw [(unhide hwk0).1]; omega)
      rw [(unhide hwk0).2 0 (by omega) (by omega), Nat.sub_zero] at c9
      clear hwr k9 hbk hwk0 HKP HC
      generalize wP c km = P at *
      cases lp
      · by_cases hc1 : 0 < c
        · have hcI : (0 : Int) < (c : Int) := by omega
          by_cases h8 : 8 < km
          · have h8I : (8 : Int) < (km : Int) := by omega
            have hd : deepB c (km + 1) false := deepB_f.2 ⟨hc1, h8⟩
            obtain rfl := DM.1 hd
            clear DM hd
            go_wp2
            go_ret
            exact ⟨rfl, unhide K9⟩
          · have h8I : ¬ (8 : Int) < (km : Int) := by omega
            have hd : ¬ deepB c (km + 1) false := fun h => h8 (deepB_f.1 h).2
            by_cases hP : 4096 < P
            · obtain rfl := DM.2.1 hd hP
              have hPI : (4096 : Int) < (P : Int) := by omega
              clear DM hd
              go_wp2
              go_ret
              exact ⟨rfl, unhide K9⟩
            · obtain ⟨rfl, rfl⟩ := DM.2.2 hd hP
              have hPI : ¬ (4096 : Int) < (P : Int) := by omega
              clear DM hd
              go_wp2
              go_ret
              exact ⟨by simp, unhide K9⟩
        · have hcI : ¬ (0 : Int) < (c : Int) := by omega
          have hd : ¬ deepB c (km + 1) false := fun h => hc1 (deepB_f.1 h).1
          by_cases hP : 4096 < P
          · obtain rfl := DM.2.1 hd hP
            have hPI : (4096 : Int) < (P : Int) := by omega
            clear DM hd
            go_wp2
            go_ret
            exact ⟨rfl, unhide K9⟩
          · obtain ⟨rfl, rfl⟩ := DM.2.2 hd hP
            have hPI : ¬ (4096 : Int) < (P : Int) := by omega
            clear DM hd
            go_wp2
            go_ret
            exact ⟨by simp, unhide K9⟩
      · by_cases hc1 : 0 < c
        · have hcI : (0 : Int) < (c : Int) := by omega
          have hd : deepB c (km + 1) true := deepB_t.2 (.inl hc1)
          by_cases h8 : 8 < km
          · have h8I : (8 : Int) < (km : Int) := by omega
            obtain rfl := DM.1 hd
            clear DM hd
            go_wp2
            go_ret
            exact ⟨rfl, unhide K9⟩
          · have h8I : ¬ (8 : Int) < (km : Int) := by omega
            obtain rfl := DM.1 hd
            clear DM hd
            go_wp2
            go_ret
            exact ⟨rfl, unhide K9⟩
        · have hcI : ¬ (0 : Int) < (c : Int) := by omega
          by_cases hk1 : km = 0
          · have hkI : ((1 : Int) + (km : Int) == 1) = true := beq_iff_eq.2 (by omega)
            have hd : deepB c (km + 1) true := deepB_t.2 (.inr hk1)
            obtain rfl := DM.1 hd
            clear DM hd
            go_wp2
            go_ret
            exact ⟨rfl, unhide K9⟩
          · have hkI : ((1 : Int) + (km : Int) == 1) = false := beq_eq_false_iff_ne.2 (by omega)
            have hd : ¬ deepB c (km + 1) true := fun h => by rcases deepB_t.1 h with h | h; exact hc1 h; exact hk1 h
            by_cases hP : 4096 < P
            · obtain rfl := DM.2.1 hd hP
              have hPI : (4096 : Int) < (P : Int) := by omega
              clear DM hd
              go_wp2
              go_ret
              exact ⟨rfl, unhide K9⟩
            · obtain ⟨rfl, rfl⟩ := DM.2.2 hd hP
              have hPI : ¬ (4096 : Int) < (P : Int) := by omega
              clear DM hd
              go_wp2
              go_ret
              exact ⟨by simp, unhide K9⟩
    | succ r =>
      have e1 : ((r + 1 : Nat) : Int) - 1 = (r : Int) := by omega
      rw [e1]
      obtain ⟨xsG, hrG, hcG⟩ := (unhide HH).2.2.1
      have HRG := hide hrG
      have hgl : ((chGs c (km + 1) lp).drop (r + 1)).length = km - r := by rw [List.length_drop, chGs_length]; omega
      obtain ⟨a, k, rfl, HLA⟩ : ∃ a k, lx = .slice a (km - r) k ∧ Hid ((km - r = 0 ∧ a = none ∧ k = 0 ∧ xsG = []) ∨ (0 < km - r ∧ ∃ b cur, a = some ⟨b, 0, none⟩ ∧ wr.heap[b]? = some (.cells cur 34) ∧ wb + 1 ≤ b ∧ cur.toList.take (km - r) = xsG)) := by
        rcases hcG with ⟨e, rfl⟩ | ⟨hp, b, k, cur, rfl, h1, h2, h3⟩
        · rw [e] at hgl hrG
          have h0 : km - r = 0 := by rw [← hgl]; rfl
          exact ⟨none, 0, by rw [h0], .inl ⟨h0, rfl, rfl, hrG⟩⟩
        · rw [hgl] at h3 ⊢
          exact ⟨_, _, rfl, .inr ⟨by omega, _, _, rfl, h2, h1, h3⟩⟩
      have hxl : xsG.length = km - r := by rw [(unhide HRG).length, hgl]
      clear hrG hcG hgl
      generalize hm : km - r = m at *
      have hyl := (unhide HH).2.1.1
      have hb9 := (unhide HH).1.keep ((Kp.alloc wr (Obj.cells #[.int .i64 1, .slice none 0 0, .slice none 0 0, .int .i64 0, .slice none 0 0, .slice none 0 0, .slice none 0 0] 41)).trans (Kp.alloc _ (Obj.cells #[.slice (some ⟨wr.heap.size, 0, none⟩) 1 1] 34)))
      have hcw := hb9.cell (i := r) (by omega)
      have hfw := hb9.frozen r
      have hrI : (r : Int) < ((km + 2 : Nat) : Int) := by omega
      clear hb9
      go_wp2_with fail
      clear hcw hfw
      generalize hW5 : World.setCell _ _ _ = w5
      have HB := hide (bld_start (c := c) (unhide HH).1 hyl (by omega) hW5)
      clear hW5
      generalize hB0 : wr.heap.size = B0 at *
      go_loopw [13] (fun j wi => ∃ q : Nat, q ≤ c ∧ j = .int .i64 q ∧ (q = 0 ∨ r + 1 < km + 1) ∧ ∃ v zs, Hid (Bld wr wi wb B0 r q c km ys v (ndLf :: List.replicate q (ndC ((r : Int) + 1))) zs)) (fun j _ => c - (intOf j).toNat)
      case atStart => exact ⟨0, Nat.zero_le _, rfl, .inl rfl, _, _, unhide HB⟩
      case round =>
        obtain ⟨q, hq, rfl, hq0, v, zs, HI⟩ := hrel
        by_cases hgo : q < c ∧ r + 1 < km + 1
        · obtain ⟨hqc, hrk⟩ := hgo
          have hqI : (q : Int) < (c : Int) := by omega
          have hrI2 : (r : Int) + 1 < 1 + (km : Int) := by omega
          have cb : wr.cell? ⟨B0 + 1, 0, none⟩ = some v := by rw [Blk.cells (unhide HI).box]; rfl
          obtain ⟨xs, hown, hrn⟩ := (unhide HI).row
          have HOW := hide hown
          have HRN := hide hrn
          have HO2 := hide (owns_kp hown ((Kp.alloc wr (Obj.cells #[.int .i64 0] 3)).trans (Kp.alloc _ (Obj.cells (nC (ndC ((r : Int) + 1)) (some ⟨wr.heap.size, 0, none⟩) 1).toArray 41))))
          clear hown hrn
          obtain ⟨i0, hin, hz0, hz1, hz2⟩ := info_parts infoN
          have hsz := (unhide HOW).1
          have hB0w : wb < B0 := by rw [← hB0]; exact (unhide HH).1.lt
          go_wp2_with (at_builtin; refine wpList_append_own _ rfl _ _ 32 rfl B0 41 i0 (.agg #[.int .i64 0, .slice none 0 0, .slice none 0 0, .int .i64 0, .slice none 0 0, .slice none 0 0, .slice none 0 0]) 7 136 Try.underlying32 hin hz0 hz1 hz2 rfl (by decide) v _ xs rfl (unhide HO2) ⟨wr.heap.size + 1, 0, none⟩ 1 1 (nC (ndC ((r : Int) + 1)) (some ⟨wr.heap.size, 0, none⟩) 1) rfl rfl (fun j u hj => by have h := cells_new (wr.alloc (Obj.cells #[.int .i64 0] 3)) (nC (ndC ((r : Int) + 1)) (some ⟨wr.heap.size, 0, none⟩) 1) 41 j u hj; rw [sz_alloc] at h; exact h) (nC_one _ _ _) (by simp [maxLen]; omega) (by simp; omega) (by simp only [sz_alloc]; have := (unhide HI).kx.size; omega) ?_; intro v' w4 ho4 hg4 hnil4; obtain ⟨a4, k4, rfl⟩ := owns_form ho4; have hbx4 := bld_box (unhide HI) (by simp) (unhide HOW) hg4; have cb4 := hbx4.cell; have cf4 := hbx4.frozen; have HO4 := hide ho4; have HG4 := hide hg4; clear ho4 hg4 hnil4 hbx4)
          clear cb4 cf4 HO2 cb hin hz0 hz1 hz2
          generalize hW6 : World.setCell _ _ _ = w6
          have hb6 := bld_more (unhide HI) hB0w hB0 (t := (r : Int) + 1) ⟨by omega, by omega⟩ (by simp) (unhide HOW) (unhide HRN) (unhide HO4) (unhide HG4)
          simp only [List.length_cons, List.length_replicate] at hb6
          rw [hW6, List.cons_append, ← List.replicate_succ'] at hb6
          clear hW6 HO4 HG4 HOW HRN
          have HB6 := hide hb6
          have hp := (unhide HH).2.1.2 (r + 1) (by omega) (by omega)
          have c6 := hb6.blk.cell (i := r) (by rw [hb6.len]; omega)
          have d6 := hb6.blk.cell (i := r + 1) (by rw [hb6.len]; omega)
          have f6 := hb6.blk.frozen r
          rw [hb6.now] at c6
          rw [hb6.oth (r + 1) (by omega), hp] at d6
          have hX : min (1 + q * (1 + wP c (km - (r + 1)))) 1048576 ≤ 1048576 := Nat.min_le_right _ _
          have hP := wP_le c (km - (r + 1))
          have HM : Hid (min (1 + (q + 1) * (1 + wP c (km - (r + 1)))) 1048576 = min (min (1 + q * (1 + wP c (km - (r + 1)))) 1048576 + 1 + wP c (km - (r + 1))) 1048576) := by
            unfold Hid
            rw [Nat.add_mul, Nat.one_mul]
            omega
          clear hb6 hp
          generalize min (1 + q * (1 + wP c (km - (r + 1)))) 1048576 = X at *
          go_region
          have eM : (if (1048576 : Int) < (X : Int) + 1 + (wP c (km - (r + 1)) : Int) then (1048576 : Int) else (X : Int) + 1 + (wP c (km - (r + 1)) : Int)) = ((min (X + 1 + wP c (km - (r + 1))) 1048576 : Nat) : Int) := by split <;> omega
          rw [eM]
          have HB7 := hide (bld_set (unhide HB6) hB0w (by omega) (unhide HM))
          generalize World.drew _ = w7 at *
          clear HB6 c6 d6 f6 HM
          go_wp2_with fail
          go_roundw
          case rel => exact ⟨q + 1, by omega, by go_num, .inr hrk, _, _, unhide HB7⟩
          case measure => simp [intOf]; omega
        · have hqr : Hid ((r + 1 < km + 1 → q = c) ∧ (¬ r + 1 < km + 1 → q = 0)) := ⟨fun h => by
              apply Classical.byContradiction
              intro h2
              exact hgo ⟨by omega, h⟩, fun h => by rcases hq0 with h2 | h2; exact h2; exact absurd h2 h⟩
          have cb : wr.cell? ⟨B0 + 1, 0, none⟩ = some v := by rw [Blk.cells (unhide HI).box]; rfl
          have hcases : ¬ (q : Int) < (c : Int) ∨ ((q : Int) < (c : Int) ∧ ¬ (r : Int) + 1 < 1 + (km : Int)) := by
            by_cases h1 : q < c
            · exact .inr ⟨by omega, fun h2 => hgo ⟨h1, by omega⟩⟩
            · exact .inl (by omega)
          clear hgo
          have hrk2 : ((r : Int) == 1 + (km : Int) - 1) = decide (r = km) := by
            by_cases h : r = km
            · subst h; rw [decide_eq_true rfl]; exact beq_iff_eq.2 (by omega)
            · rw [decide_eq_false h]; exact beq_eq_false_iff_ne.2 (by omega)
          have hB0w : wb < B0 := by rw [← hB0]; exact (unhide HH).1.lt
          have hnsF : lp = false ∨ ¬ r = km → ndLf :: List.replicate q (ndC ((r : Int) + 1)) = chN c (km + 1) lp r := by
            intro hh
            have h2 : ¬ (lp = true ∧ r + 1 = km + 1) := by
              rintro ⟨h3, h4⟩
              rcases hh with h5 | h5
              · rw [h5] at h3; cases h3
              · omega
            unfold chN
            rw [if_neg h2, List.append_nil]
            by_cases h6 : r + 1 < km + 1
            · rw [if_pos h6, (unhide hqr).1 h6]; rfl
            · rw [if_neg h6, (unhide hqr).2 h6]; rfl
          rcases hcases with hqI | ⟨hqI, hrI2⟩
          · by_cases hll : lp = true ∧ r = km
            · obtain ⟨rfl, hrkm⟩ := hll
              rw [decide_eq_true hrkm] at hrk2
              clear hnsF
              obtain rfl : q = 0 := (unhide hqr).2 (by omega)
              obtain ⟨xs, hown, hrn⟩ := (unhide HI).row
              have HOW := hide hown
              have HRN := hide hrn
              have HO2 := hide (owns_kp hown ((Kp.alloc wr (Obj.cells #[.int .i64 0] 3)).trans (Kp.alloc _ (Obj.cells (nC (ndC 0) (some ⟨wr.heap.size, 0, none⟩) 1).toArray 41))))
              clear hown hrn
              obtain ⟨i0, hin, hz0, hz1, hz2⟩ := info_parts infoN
              obtain ⟨i1, hj0, hj1, hj2, hj3⟩ := info_parts infoG
              have hsz := (unhide HOW).1
              rcases (unhide HLA) with ⟨h0, rfl, rfl, rfl⟩ | ⟨hp, _⟩
              · subst h0
                go_wp2_with (first
                  | (at_builtin; refine wpList_append_own _ rfl _ _ 32 rfl B0 41 i0 (.agg #[.int .i64 0, .slice none 0 0, .slice none 0 0, .int .i64 0, .slice none 0 0, .slice none 0 0, .slice none 0 0]) 7 136 Try.underlying32 hin hz0 hz1 hz2 rfl (by decide) v 1 xs rfl (unhide HO2) ⟨wr.heap.size + 1, 0, none⟩ 1 1 (nC (ndC 0) (some ⟨wr.heap.size, 0, none⟩) 1) rfl rfl (fun j u hj => by have h := cells_new (wr.alloc (Obj.cells #[.int .i64 0] 3)) (nC (ndC 0) (some ⟨wr.heap.size, 0, none⟩) 1) 41 j u hj; rw [sz_alloc] at h; exact h) (nC_one _ _ _) (by decide) (by decide) (by simp only [sz_alloc]; have := (unhide HI).kx.size; omega) ?_; intro v' w4 ho4 hg4 hnil4; obtain ⟨a4, k4, rfl⟩ := owns_form ho4; have hbx4 := bld_box (unhide HI) (by simp) (unhide HOW) hg4; have cb4 := hbx4.cell; have cf4 := hbx4.frozen; have HO4 := hide ho4; have HG4 := hide hg4; clear ho4 hg4 hnil4 hbx4)
                  | (at_builtin; refine wpList_append_fits_any _ rfl _ _ 22 rfl w4.heap.size 34 i1 1 Try.underlying22 hj0 hj2 w4.heap.size 1 1 [.slice a4 (1 + 1) k4] rfl (fresh_own' (by simp) _ _) none 0 0 [] rfl rfl (fun _ => ⟨rfl, rfl⟩) (fun ad e => by cases e) (fun u hu => by cases hu) (by omega) ?_; intro w8 ho8 hg8))
                have hb6 := bld_more (unhide HI) hB0w hB0 (t := 0) ⟨by decide, by decide⟩ (by simp) (unhide HOW) (unhide HRN) (unhide HO4) (unhide HG4)
                have hs6 : w4.heap.size = (w4.setCell ⟨B0 + 1, 0, none⟩ (.slice a4 (1 + 1) k4)).heap.size := by simp
                have hns6 : [ndLf] ++ [ndC 0] = chN c (km + 1) true r := by
                  unfold chN
                  rw [if_neg (by omega), if_pos ⟨rfl, by omega⟩]
                  rfl
                rw [hs6] at ho8 hg8
                have hn9 := lat_next hb6 hns6 hB0 hB0w (by omega) hm2 (unhide hqr) (unhide HH).2.1 (unhide HRG) hm ho8 hg8 (unhide HH).2.2.2 (unhide hwl)
                rw [← hs6] at hn9
                have HN := hide hn9
                go_wp2_with fail
                go_roundw
                case rel => exact ⟨r, by omega, by go_num, zs, .slice _ _ _, rfl, unhide HN⟩
                case measure => simp [intOf] <;> omega
              · exact absurd hp (by omega)
            · have hnl : lp = false ∨ ¬ r = km := by
                cases lp
                · exact .inl rfl
                · exact .inr (fun e => hll ⟨rfl, e⟩)
              have hn5 := hnsF hnl
              clear hnsF hll
              cases lp
              · clear hrk2
                have hwl2 := (unhide HI).kx.size
                obtain ⟨i1, hj0, hj1, hj2, hj3⟩ := info_parts infoG
                rcases (unhide HLA) with ⟨h0, rfl, rfl, rfl⟩ | ⟨hp, bG, curG, rfl, hhG, hlG, htG⟩
                · subst h0
                  go_wp2_with (at_builtin; refine wpList_append_fits_any _ rfl _ _ 22 rfl wr.heap.size 34 i1 1 Try.underlying22 hj0 hj2 wr.heap.size 1 1 [v] rfl (fresh_own wr v _) none 0 0 [] rfl rfl (fun _ => ⟨rfl, rfl⟩) (fun ad e => by cases e) (fun u hu => by cases hu) (by omega) ?_; intro w8 ho8 hg8)
                  have HN := hide (lat_next (unhide HI) hn5 hB0 hB0w (by omega) hm2 (unhide hqr) (unhide HH).2.1 (unhide HRG) hm ho8 hg8 (unhide HH).2.2.2 (unhide hwl))
                  go_wp2_with fail
                  go_roundw
                  case rel => exact ⟨r, by omega, by go_num, zs, .slice _ _ _, rfl, unhide HN⟩
                  case measure => simp [intOf] <;> omega
                · have hhG2 : wr.heap[bG]? = some (.cells curG 34) := by
                    rw [(unhide HI).kx.block _ (lt_heap hhG) (some_ne (by omega))]
                    exact hhG
                  go_wp2_with (at_builtin; refine wpList_append_own _ rfl _ _ 22 rfl wr.heap.size 34 i1 (.agg #[.slice none 0 0]) 1 24 Try.underlying22 hj0 hj1 hj2 hj3 rfl (by decide) _ 1 [v] rfl (fresh_own wr v _) ⟨bG, 0, none⟩ m k xsG rfl (by rw [hxl, Nat.mul_one]) (cells_there (heap_old hhG2) htG hxl) (RowG.one (unhide HRG)) (by simp [maxLen]; omega) (by omega) (by simp only [sz_alloc]; omega) ?_; intro v8 w8 ho8 hg8 hn8; obtain ⟨a8, k8, rfl⟩ := owns_form ho8)
                  have HN := hide (lat_next (unhide HI) hn5 hB0 hB0w (by omega) hm2 (unhide hqr) (unhide HH).2.1 (unhide HRG) hm ho8 hg8 (unhide HH).2.2.2 (unhide hwl))
                  go_wp2_with fail
                  go_roundw
                  case rel => exact ⟨r, by omega, by go_num, zs, .slice _ _ _, rfl, unhide HN⟩
                  case measure => simp [intOf] <;> omega
              · have hrk3 : ¬ r = km := by rcases hnl with h | h; cases h; exact h
                rw [decide_eq_false hrk3] at hrk2
                have hwl2 := (unhide HI).kx.size
                obtain ⟨i1, hj0, hj1, hj2, hj3⟩ := info_parts infoG
                rcases (unhide HLA) with ⟨h0, rfl, rfl, rfl⟩ | ⟨hp, bG, curG, rfl, hhG, hlG, htG⟩
                · exact absurd h0 (by omega)
                · have hhG2 : wr.heap[bG]? = some (.cells curG 34) := by
                    rw [(unhide HI).kx.block _ (lt_heap hhG) (some_ne (by omega))]
                    exact hhG
                  go_wp2_with (at_builtin; refine wpList_append_own _ rfl _ _ 22 rfl wr.heap.size 34 i1 (.agg #[.slice none 0 0]) 1 24 Try.underlying22 hj0 hj1 hj2 hj3 rfl (by decide) _ 1 [v] rfl (fresh_own wr v _) ⟨bG, 0, none⟩ m k xsG rfl (by rw [hxl, Nat.mul_one]) (cells_there (heap_old hhG2) htG hxl) (RowG.one (unhide HRG)) (by simp [maxLen]; omega) (by omega) (by simp only [sz_alloc]; omega) ?_; intro v8 w8 ho8 hg8 hn8; obtain ⟨a8, k8, rfl⟩ := owns_form ho8)
                  have HN := hide (lat_next (unhide HI) hn5 hB0 hB0w (by omega) hm2 (unhide hqr) (unhide HH).2.1 (unhide HRG) hm ho8 hg8 (unhide HH).2.2.2 (unhide hwl))
                  go_wp2_with fail
                  go_roundw
                  case rel => exact ⟨r, by omega, by go_num, zs, .slice _ _ _, rfl, unhide HN⟩
                  case measure => simp [intOf] <;> omega
          · have hrkm : r = km := by omega
            cases lp
            · have hn5 := hnsF (.inl rfl)
              clear hnsF hrk2
              have hwl2 := (unhide HI).kx.size
              obtain ⟨i1, hj0, hj1, hj2, hj3⟩ := info_parts infoG
              rcases (unhide HLA) with ⟨h0, rfl, rfl, rfl⟩ | ⟨hp, bG, curG, rfl, hhG, hlG, htG⟩
              · subst h0
                go_wp2_with (at_builtin; refine wpList_append_fits_any _ rfl _ _ 22 rfl wr.heap.size 34 i1 1 Try.underlying22 hj0 hj2 wr.heap.size 1 1 [v] rfl (fresh_own wr v _) none 0 0 [] rfl rfl (fun _ => ⟨rfl, rfl⟩) (fun ad e => by cases e) (fun u hu => by cases hu) (by omega) ?_; intro w8 ho8 hg8)
                have HN := hide (lat_next (unhide HI) hn5 hB0 hB0w (by omega) hm2 (unhide hqr) (unhide HH).2.1 (unhide HRG) hm ho8 hg8 (unhide HH).2.2.2 (unhide hwl))
                go_wp2_with fail
                go_roundw
                case rel => exact ⟨r, by omega, by go_num, zs, .slice _ _ _, rfl, unhide HN⟩
                case measure => simp [intOf] <;> omega
              · exact absurd hp (by omega)
            · rw [decide_eq_true hrkm] at hrk2
              clear hnsF
              obtain rfl : q = 0 := (unhide hqr).2 (by omega)
              obtain ⟨xs, hown, hrn⟩ := (unhide HI).row
              have HOW := hide hown
              have HRN := hide hrn
              have HO2 := hide (owns_kp hown ((Kp.alloc wr (Obj.cells #[.int .i64 0] 3)).trans (Kp.alloc _ (Obj.cells (nC (ndC 0) (some ⟨wr.heap.size, 0, none⟩) 1).toArray 41))))
              clear hown hrn
              obtain ⟨i0, hin, hz0, hz1, hz2⟩ := info_parts infoN
              obtain ⟨i1, hj0, hj1, hj2, hj3⟩ := info_parts infoG
              have hsz := (unhide HOW).1
              rcases (unhide HLA) with ⟨h0, rfl, rfl, rfl⟩ | ⟨hp, _⟩
              · subst h0
                go_wp2_with (first
                  | (at_builtin; refine wpList_append_own _ rfl _ _ 32 rfl B0 41 i0 (.agg #[.int .i64 0, .slice none 0 0, .slice none 0 0, .int .i64 0, .slice none 0 0, .slice none 0 0, .slice none 0 0]) 7 136 Try.underlying32 hin hz0 hz1 hz2 rfl (by decide) v 1 xs rfl (unhide HO2) ⟨wr.heap.size + 1, 0, none⟩ 1 1 (nC (ndC 0) (some ⟨wr.heap.size, 0, none⟩) 1) rfl rfl (fun j u hj => by have h := cells_new (wr.alloc (Obj.cells #[.int .i64 0] 3)) (nC (ndC 0) (some ⟨wr.heap.size, 0, none⟩) 1) 41 j u hj; rw [sz_alloc] at h; exact h) (nC_one _ _ _) (by decide) (by decide) (by simp only [sz_alloc]; have := (unhide HI).kx.size; omega) ?_; intro v' w4 ho4 hg4 hnil4; obtain ⟨a4, k4, rfl⟩ := owns_form ho4; have hbx4 := bld_box (unhide HI) (by simp) (unhide HOW) hg4; have cb4 := hbx4.cell; have cf4 := hbx4.frozen; have HO4 := hide ho4; have HG4 := hide hg4; clear ho4 hg4 hnil4 hbx4)
                  | (at_builtin; refine wpList_append_fits_any _ rfl _ _ 22 rfl w4.heap.size 34 i1 1 Try.underlying22 hj0 hj2 w4.heap.size 1 1 [.slice a4 (1 + 1) k4] rfl (fresh_own' (by simp) _ _) none 0 0 [] rfl rfl (fun _ => ⟨rfl, rfl⟩) (fun ad e => by cases e) (fun u hu => by cases hu) (by omega) ?_; intro w8 ho8 hg8))
                have hb6 := bld_more (unhide HI) hB0w hB0 (t := 0) ⟨by decide, by decide⟩ (by simp) (unhide HOW) (unhide HRN) (unhide HO4) (unhide HG4)
                have hs6 : w4.heap.size = (w4.setCell ⟨B0 + 1, 0, none⟩ (.slice a4 (1 + 1) k4)).heap.size := by simp
                have hns6 : [ndLf] ++ [ndC 0] = chN c (km + 1) true r := by
                  unfold chN
                  rw [if_neg (by omega), if_pos ⟨rfl, by omega⟩]
                  rfl
                rw [hs6] at ho8 hg8
                have hn9 := lat_next hb6 hns6 hB0 hB0w (by omega) hm2 (unhide hqr) (unhide HH).2.1 (unhide HRG) hm ho8 hg8 (unhide HH).2.2.2 (unhide hwl)
                rw [← hs6] at hn9
                have HN := hide hn9
                go_wp2_with fail
                go_roundw
                case rel => exact ⟨r, by omega, by go_num, zs, .slice _ _ _, rfl, unhide HN⟩
                case measure => simp [intOf] <;> omega
              · exact absurd hp (by omega)

end Go.Proofs.Ytidkeidiojojmaa
