
/- Rows of numbers of the scheduler's own: put and take. -/
import Derived.Test.YtenbmfhhmbfgoaaSchC
namespace Go.Proofs.Ytenbmfhhmbfgoaa
open Go.RowKit

theorem Own.shape {w : World} {v : Value} {xs : List Int} (h : Own w 3 0 v xs) : ∃ a cap, v = .slice a xs.length cap ∧ (0 < xs.length → ∃ g, a = some ⟨g, 0, none⟩ ∧ v.ownBlock = some g) := by
  obtain ⟨_, ⟨rfl, h0⟩ | ⟨g, cap, cur, rfl, _⟩⟩ := h
  · exact ⟨none, 0, by rw [h0], by omega⟩
  · exact ⟨_, cap, rfl, fun _ => ⟨g, rfl, rfl⟩⟩
theorem insert_any (v : Value) (i : Nat) (xs : List Int) (t : Int) (vb : Nat) (w : World) (h : Own w 3 0 v xs) (hr : xs.length + 1 ≤ 1000000000) (hi : i ≤ xs.length) (hb : Blk w 3 vb [t]) (hvb : v.ownBlock ≠ some vb) :
    Calls Try.prog 41 #[v, .int .i64 (i : Int), .slice (some ⟨vb, 0, none⟩) 1 1] w fun e w' => InsR w w' v (xs.take i ++ t :: xs.drop i) e := by
  by_cases hin : i = xs.length
  · have := insert_end v xs.length xs t vb w h rfl hr hb
    rw [hin, List.take_length, List.drop_length]
    exact this
  · obtain ⟨a, cap, rfl, hg⟩ := h.shape
    obtain ⟨g, rfl, e⟩ := hg (by omega)
    by_cases hroom : xs.length + 1 ≤ cap
    · exact insert_shift g xs.length cap i xs t vb w h rfl hr (by omega) hroom hb (fun e2 => hvb (by rw [e, e2]))
    · exact insert_grow g xs.length cap i xs t vb w h rfl hr (by omega) (by omega) hb

/-- where a row of numbers lies behind put -/
def PutR (w w' : World) (s c : Nat) (v : Value) (xs : List Int) : Prop := ∃ g cap w1, Own w1 3 0 (.slice (some ⟨g, 0, none⟩) xs.length cap) xs ∧ w.grownBy w1 v.ownBlock ∧ (v.ownBlock = some g ∨ w.heap.size ≤ g) ∧ w' = w1.setCell ⟨s, c, none⟩ (.slice (some ⟨g, 0, none⟩) xs.length cap)

set_option maxRecDepth 20000 in
set_option maxHeartbeats 4000000 in
theorem put_any (s c : Nat) (v : Value) (xs : List Int) (id : Int) (w : World) (h : Own w 3 0 v xs) (hr : xs.length + 1 ≤ 1000000) (hw : ∀ x ∈ xs, I64 x) (hs : Rise xs) (hc : w.cell? ⟨s, c, none⟩ = some v) (hf : w.frozen? ⟨s, c, none⟩ = false) (hsv : v.ownBlock ≠ some s) :
    Calls Try.prog 31 #[.pointer (some ⟨s, c, none⟩), .int .i64 id] w fun e w' => e = .returned (.tuple #[]) ∧ PutR w w' s c v (insL id xs) := by
  have hlt := World.block_lt_of_cell? w _ hc
  have hpos := posL_le xs id
  have C1 : Hid (Calls Try.prog 40 #[v, .int .i64 id] w fun e w' => e = .returned (.tuple #[.int .i64 (posL xs id : Int), .bool (hasL xs id)]) ∧ w' = w) := by
    obtain ⟨a, cap, rfl, _⟩ := h.shape
    exact search_any a xs.length cap xs id w (h.ints hw (by omega)) rfl (by omega) hs
  have hlt2 : ∀ k, v.ownBlock = some k → k < w.heap.size := fun k e => (World.ownsRow.lt h k e).2
  have C2 : Hid (∀ i, posL xs id = i → Calls Try.prog 41 #[v, .int .i64 (i : Int), .slice (some ⟨w.heap.size, 0, none⟩) 1 1] (w.alloc (.cells #[.int .i64 id] 3)) fun e w' => ∃ g m cap, e = .returned (.slice (some ⟨g, 0, none⟩) m cap) ∧ w'.cell? ⟨s, c, none⟩ = some v ∧ w'.frozen? ⟨s, c, none⟩ = false ∧ Hid (PutR w (w'.setCell ⟨s, c, none⟩ (.slice (some ⟨g, 0, none⟩) m cap)) s c v (insL id xs))) := by
    intro i hi
    have hb : Blk (w.alloc (.cells #[.int .i64 id] 3)) 3 w.heap.size [id] := by unfold Blk; simp only [World.alloc, Array.getElem?_push_size]; rfl
    refine (insert_any v i xs id w.heap.size _ (h.keep (Kp.alloc _ _)) (by omega) (by omega) hb (fun e => by have := hlt2 _ e; omega)).mono ?_
    rintro e w' ⟨g, cap, rfl, ho, hg, hn⟩
    have hbl : w'.heap[s]? = w.heap[s]? := (hg.block s (by simp; exact Nat.lt_succ_of_lt hlt) (fun e => hsv e.symm)).trans ((Kp.alloc w _).block s hlt)
    refine ⟨_, _, _, rfl, (World.cell?_of_block (w := w) hbl).trans hc, (World.frozen?_of_block (w := w) hbl).trans hf, ?_⟩
    have e1 : insL id xs = xs.take i ++ id :: xs.drop i := by unfold insL; rw [hi]
    rw [e1]
    refine ⟨g, cap, w', ho, grown_trans (grown_alloc w _ _) hg, ?_, rfl⟩
    rcases hn with hn | hn
    · exact .inl hn
    · exact .inr (by simp at hn; omega)
  obtain ⟨i, hi⟩ : ∃ i, posL xs id = i := ⟨_, rfl⟩
  have C3 := hide (unhide C2 i hi)
  rw [hi] at C1 hpos
  generalize hasL xs id = b at *
  clear h hw hs C2 hi hlt2 hsv
  go_enter Try.func31, Try.ntmps31
  go_wp2_with fail
  refine (unhide C1).mono ?_
  rintro e w1 ⟨rfl, rfl⟩
  go_wp2_with fail
  refine (unhide C3).mono ?_
  clear C1 C3
  rintro e w2 ⟨g, m, cap, rfl, hc2, hf2, HP⟩
  go_wp2_with fail
  refine bodyPost_end (v := .tuple #[]) (results_none Try.results31 _ _ _) rfl ⟨rfl, unhide HP⟩

theorem step_append_eq {P : Program} {ops : Array Oper} {o : Oper} {a : Act} {w : World} {K : Act → World → Prop} {Q : Exit → Act → World → Prop} {E : Prop}
    (hg : o.guard = none) (d x : Operand) (dT sT : TypeId) (hop : o.op = Op.call { callee := Callee.builtin Builtin.append, args := #[d, x], argTypes := #[dT, sT] })
    (v u : Value) (hd : a.eval d = v) (hx : a.eval x = u) {v' : Value} {w' : World} (hr : (Builtin.append_ #[dT, sT] o.type #[v, u]).run P w = .ok v' w') (hK : K (a.put o.dst v') w') :
    if Region.wanted o (yielded ops a.tmps) = true then Oper.wp P o a w K Q else E := by
  have hw : Region.wanted o (yielded ops a.tmps) = true := by simp [Region.wanted, hg]
  rw [if_pos hw]
  unfold Oper.wp execOp
  simp only [hop, resolve, invoke, builtin, Sem.run_bind, Sem.run_pure, Result.andThen_ok, List.map_toArray, List.map_cons, List.map_nil, hd, hx, hr]
  exact hK

theorem del_cells (xs : List Int) (i : Nat) : (xs.take i ++ xs.drop (i + 1)).map (Value.int .i64) = (xs.map (Value.int .i64)).take i ++ (xs.map (Value.int .i64)).drop (i + 1) := by
  simp [List.map_take, List.map_drop]

set_option maxRecDepth 100000 in
set_option maxHeartbeats 8000000 in
theorem delete_j (g n cap i j : Nat) (hj : j = i + 1) (xs : List Int) (w : World) (h : Own w 3 0 (.slice (some ⟨g, 0, none⟩) n cap) xs) (hn : xs.length = n) (hr : n + 1 ≤ 1000000000) (hi : i < n) :
    Calls Try.prog 43 #[.slice (some ⟨g, 0, none⟩) n cap, .int .i64 (i : Int), .int .i64 (j : Int)] w fun e w' => e = .returned (.slice (some ⟨g, 0, none⟩) (n - 1) cap) ∧ Own w' 3 0 (.slice (some ⟨g, 0, none⟩) (n - 1) cap) (xs.take i ++ xs.drop (i + 1)) ∧ w.grownBy w' (some g) := by
  have hcap : n ≤ cap ∧ cap ≤ maxLen := by
    obtain ⟨_, ⟨e, _⟩ | ⟨g', cap', cur, e, _, hh, hnc, hm, hsz, ht⟩⟩ := h
    · cases e
    · injection e with e1 e2 e3
      subst e3
      omega
  obtain ⟨hnc, hmx⟩ := hcap
  have hc63 : cap ≤ 9223372036854775807 := by simp only [maxLen] at hmx; omega
  obtain ⟨cs, hcs⟩ : ∃ cs, cs = xs.map (Value.int .i64) := ⟨_, rfl⟩
  have hcl : cs.length = n := by rw [hcs, List.length_map, hn]
  have h' : w.ownsRow 0 3 1 (.slice (some ⟨g, 0, none⟩) n cap) n cs := by
    have := h
    unfold Own at this
    rwa [hn, ← hcs] at this
  have hd : w.drew.ownsRow 0 3 1 (.slice (some ⟨g, 0, none⟩) n cap) n cs := World.ownsRow.kept h' (grown_drew w none) (.inr (by simp [Value.ownBlock]))
  obtain ⟨i0, hi0, hz0, hzs, hzb⟩ := info_parts infoN
  have hcell : ∀ j v, cs[j]? = some v → w.drew.cell? ⟨g, 0 + j, none⟩ = some v := by
    intro j v hj
    have hj2 : j < n := by have := (List.getElem?_eq_some_iff.1 hj).1; omega
    rw [Nat.zero_add, hd.cellAt j (by omega), hj]
  have h1c : ∀ v ∈ cs, v.oneCell' = true := by rw [hcs]; exact ints_oneCell _ _
  -- what stands behind it is moved down
  obtain ⟨A, hA, hsrc⟩ : ∃ A : Addr, (if cap = j then some (⟨g, 0, none⟩ : Addr) else some ⟨g, j, none⟩) = some A ∧ (∀ t u, (cs.drop j)[t]? = some u → w.drew.cell? (A.add t) = some u) := by
    by_cases hc : cap = j
    · refine ⟨⟨g, 0, none⟩, by simp [hc], fun t u hu => ?_⟩
      have h0 : (cs.drop j).length = 0 := by rw [List.length_drop]; omega
      rw [List.length_eq_zero_iff.1 h0] at hu
      simp at hu
    · refine ⟨⟨g, j, none⟩, by simp [hc], fun t u hu => ?_⟩
      rw [Addr.add_lit]
      rw [List.getElem?_drop] at hu
      have := hcell (j + t) u hu
      rwa [Nat.zero_add] at this
  have hdl : (cs.drop j).length = n - j := by rw [List.length_drop, hcl]
  obtain ⟨W1, hW1⟩ : ∃ W1, W1 = w.drew.setCells g i (cs.drop j) := ⟨_, rfl⟩
  have hOw1 : W1.ownsRow 0 3 1 (.slice (some ⟨g, 0, none⟩) n cap) n (putL cs i (cs.drop j)) := by rw [hW1]; exact owns_setCells _ _ _ _ hd
  have hap : ∀ ty c, (Builtin.append_ #[61, 61] ty #[.slice (some ⟨g, 0, none⟩) i cap, .slice (some A) (n - j) c]).run Try.prog w.drew = .ok (.slice (some ⟨g, 0, none⟩) (i + (n - j)) cap) W1 := fun ty c => by
    have hS : Src Try.prog 1 61 (.slice (some A) (n - j) c) (n - j) (cs.drop j) w.drew := Src.ofSlice w.drew Try.underlying61 A (n - j) c _ (by rw [hdl, Nat.mul_one]) hsrc (fun v hv => h1c v (List.mem_of_mem_drop hv))
    have := run_append_room_src (P := Try.prog) w.drew 61 61 ty 3 i0 Try.underlying61 hi0 g 0 i cap _ (n - j) (cs.drop j) (by rw [hzs]; exact hS) (by omega)
      (fun j hj => by rw [hzs, Nat.mul_one, Nat.zero_add, hd.cellAt _ (by omega), List.getElem?_eq_getElem (by omega)]; rfl)
      (fun j hj => hd.frozenAt _)
    rw [hzs, Nat.mul_one, Nat.zero_add, ← hW1] at this
    exact this
  have hcl2 : ∀ ty c, (Builtin.clear_ #[61] ty #[.slice (some ⟨g, i + (n - j), none⟩) (n - (i + (n - j))) c]).run Try.prog W1 = .ok (.tuple #[]) (W1.setCells g (n - 1) [Value.int .i64 0]) := fun ty c => by
    have := Lib.run_clear_slice (P := Try.prog) W1 61 3 ty (.int .i64 0) Try.underlying61 (by intro w; kernel_rfl) rfl rfl g (i + (n - j)) (n - (i + (n - j))) c (by omega)
      (fun j hj => by rw [hOw1.cellAt _ (by omega), List.getElem?_eq_getElem (by rw [putL_length]; omega)]; rfl) (fun j hj => hOw1.frozenAt _)
    have e1 : n - (i + (n - j)) = 1 := by omega
    have e2 : i + (n - j) = n - 1 := by omega
    rw [e1, e2] at this ⊢
    exact this
  have HX : Hid (Own (W1.setCells g (n - 1) [Value.int .i64 0]) 3 0 (.slice (some ⟨g, 0, none⟩) (n - 1) cap) (xs.take i ++ xs.drop (i + 1)) ∧ w.grownBy (W1.setCells g (n - 1) [Value.int .i64 0]) (some g)) := by
    subst hj
    refine ⟨?_, grown_trans (grown_drew w _) (grown_trans (by rw [hW1]; exact grown_setCells _ _ _ _) (grown_setCells _ _ _ _))⟩
    have h2 := owns_setCells [Value.int .i64 0] (n - 1) W1 _ hOw1
    have hl : (xs.take i ++ xs.drop (i + 1)).length = n - 1 := by simp [hn]; omega
    have h3 : putL (putL cs i (cs.drop (i + 1))) (n - 1) [Value.int .i64 0] = (cs.take i ++ cs.drop (i + 1)) ++ [Value.int .i64 0] := by
      have e0 := take_len cs i (by omega)
      rw [putL_eq [Value.int .i64 0] _ _ (by rw [putL_length]; simp; omega), putL_eq (cs.drop (i + 1)) cs i (by omega)]
      have e1 : (cs.take i ++ cs.drop (i + 1)).length = n - 1 := by simp [hcl]; omega
      have e4 : List.drop (n - 1 + [Value.int IntKind.i64 0].length) (cs.take i ++ cs.drop (i + 1) ++ cs.drop (i + (cs.drop (i + 1)).length)) = [] := List.drop_of_length_le (by simp [hcl]; omega)
      rw [List.take_left' e1, e4, List.append_nil]
    rw [h3] at h2
    unfold Own
    rw [del_cells, ← hcs, hl]
    have e3 : n = n - 1 + 1 := by omega
    rw [e3] at h2
    exact ownsRow_pop (by simp [hcl]; omega) (by simpa using h2)
  have hic : i ≤ cap := by omega
  have hjc : j ≤ cap := by omega
  have hjn : j ≤ n := by omega
  have hij : i ≤ j := by omega
  have hne : ¬ (i : Int) = (j : Int) := by omega
  have HE : Hid (i + (n - j) = n - 1) := by unfold Hid; omega
  clear hj
  clear hcell h1c hsrc hW1 hOw1 h h' hd hcs hcl hdl hi0 hz0 hzs hzb hmx
  go_enter Try.func43, Try.ntmps43
  go_wp2_with fail
  go_region_law (refine step_append_eq rfl (.tmp 22) (.tmp 25) 61 61 rfl (.slice (some ⟨g, 0, none⟩) i cap) (.slice (some A) (n - j) (cap - j)) (by simp [Act.eval, Act.put]) (by simp [Act.eval, Act.put]) (hap _ _) ?_)
  go_wp2_with fail
  go_ret
  exact ⟨by rw [unhide HE]; rfl, unhide HX⟩

theorem delete_any (g n cap i : Nat) (xs : List Int) (w : World) (h : Own w 3 0 (.slice (some ⟨g, 0, none⟩) n cap) xs) (hn : xs.length = n) (hr : n + 1 ≤ 1000000000) (hi : i < n) :
    Calls Try.prog 43 #[.slice (some ⟨g, 0, none⟩) n cap, .int .i64 (i : Int), .int .i64 ((i : Int) + 1)] w fun e w' => e = .returned (.slice (some ⟨g, 0, none⟩) (n - 1) cap) ∧ Own w' 3 0 (.slice (some ⟨g, 0, none⟩) (n - 1) cap) (xs.take i ++ xs.drop (i + 1)) ∧ w.grownBy w' (some g) := delete_j g n cap i (i + 1) rfl xs w h hn hr hi

/-- where a row of numbers lies behind take -/
def TakeR (w w' : World) (s c : Nat) (v : Value) (xs : List Int) : Prop := ∃ g cap w1, Own w1 3 0 (.slice (some ⟨g, 0, none⟩) xs.length cap) xs ∧ w.grownBy w1 v.ownBlock ∧ v.ownBlock = some g ∧ w' = w1.setCell ⟨s, c, none⟩ (.slice (some ⟨g, 0, none⟩) xs.length cap)

set_option maxRecDepth 20000 in
set_option maxHeartbeats 4000000 in
theorem take_yes (s c : Nat) (v : Value) (xs : List Int) (id : Int) (w : World) (h : Own w 3 0 v xs) (hr : xs.length + 1 ≤ 1000000) (hw : ∀ x ∈ xs, I64 x) (hs : Rise xs) (hc : w.cell? ⟨s, c, none⟩ = some v) (hf : w.frozen? ⟨s, c, none⟩ = false) (hsv : v.ownBlock ≠ some s) (hh : hasL xs id = true) :
    Calls Try.prog 37 #[.pointer (some ⟨s, c, none⟩), .int .i64 id] w fun e w' => e = .returned (.bool true) ∧ TakeR w w' s c v (delL id xs) := by
  have hlt := World.block_lt_of_cell? w _ hc
  have hpos : posL xs id < xs.length := by
    unfold hasL at hh
    simp at hh
    exact hh.1
  have C1 : Hid (Calls Try.prog 40 #[v, .int .i64 id] w fun e w' => e = .returned (.tuple #[.int .i64 (posL xs id : Int), .bool true]) ∧ w' = w) := by
    obtain ⟨a, cap, rfl, _⟩ := h.shape
    have := search_any a xs.length cap xs id w (h.ints hw (by omega)) rfl (by omega) hs
    rw [hh] at this
    exact this
  have hlt2 : ∀ k, v.ownBlock = some k → k < w.heap.size := fun k e => (World.ownsRow.lt h k e).2
  have C2 : Hid (∀ i, posL xs id = i → Calls Try.prog 43 #[v, .int .i64 (i : Int), .int .i64 ((i : Int) + 1)] w fun e w' => ∃ g m cap, e = .returned (.slice (some ⟨g, 0, none⟩) m cap) ∧ w'.cell? ⟨s, c, none⟩ = some v ∧ w'.frozen? ⟨s, c, none⟩ = false ∧ Hid (TakeR w (w'.setCell ⟨s, c, none⟩ (.slice (some ⟨g, 0, none⟩) m cap)) s c v (delL id xs))) := by
    intro i hi
    obtain ⟨a, cap, rfl, hg⟩ := h.shape
    obtain ⟨g, rfl, eg⟩ := hg (by omega)
    refine (delete_any g xs.length cap i xs w h rfl (by omega) (by omega)).mono ?_
    rintro e w' ⟨rfl, ho, hg⟩
    have hbl : w'.heap[s]? = w.heap[s]? := hg.block s hlt (fun e => hsv (by rw [eg, ← e]))
    refine ⟨_, _, _, rfl, (World.cell?_of_block (w := w) hbl).trans hc, (World.frozen?_of_block (w := w) hbl).trans hf, ?_⟩
    have e1 : delL id xs = xs.take i ++ xs.drop (i + 1) := by unfold delL; rw [hi]
    have e2 : xs.length - 1 = (xs.take i ++ xs.drop (i + 1)).length := by simp; omega
    rw [e1, e2]
    rw [e2] at ho
    refine ⟨g, cap, w', ho, ?_, eg, rfl⟩
    rw [eg]
    exact hg
  obtain ⟨i, hi⟩ : ∃ i, posL xs id = i := ⟨_, rfl⟩
  have C3 := hide (unhide C2 i hi)
  rw [hi] at C1 hpos
  clear h hw hs C2 hi hlt2 hsv hh
  go_enter Try.func37, Try.ntmps37
  go_wp2_with fail
  refine (unhide C1).mono ?_
  rintro e w1 ⟨rfl, rfl⟩
  go_wp2_with fail
  refine (unhide C3).mono ?_
  clear C1 C3
  rintro e w2 ⟨g, m, cap, rfl, hc2, hf2, HP⟩
  go_wp2_with fail
  go_ret
  exact ⟨rfl, unhide HP⟩

set_option maxRecDepth 20000 in
set_option maxHeartbeats 4000000 in
theorem take_no (s c : Nat) (v : Value) (xs : List Int) (id : Int) (w : World) (h : Own w 3 0 v xs) (hr : xs.length + 1 ≤ 1000000) (hw : ∀ x ∈ xs, I64 x) (hs : Rise xs) (hc : w.cell? ⟨s, c, none⟩ = some v) (hh : hasL xs id = false) :
    Calls Try.prog 37 #[.pointer (some ⟨s, c, none⟩), .int .i64 id] w fun e w' => e = .returned (.bool false) ∧ w' = w := by
  have C1 : Hid (Calls Try.prog 40 #[v, .int .i64 id] w fun e w' => e = .returned (.tuple #[.int .i64 (posL xs id : Int), .bool false]) ∧ w' = w) := by
    obtain ⟨a, cap, rfl, _⟩ := h.shape
    have := search_any a xs.length cap xs id w (h.ints hw (by omega)) rfl (by omega) hs
    rw [hh] at this
    exact this
  clear h hw hs hh
  generalize posL xs id = p at *
  go_enter Try.func37, Try.ntmps37
  go_wp2_with fail
  refine (unhide C1).mono ?_
  rintro e w1 ⟨rfl, rfl⟩
  go_wp2_with fail
  go_ret
  exact ⟨rfl, rfl⟩

end Go.Proofs.Ytenbmfhhmbfgoaa
