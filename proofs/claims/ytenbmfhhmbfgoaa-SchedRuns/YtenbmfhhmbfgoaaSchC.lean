
/- Rows of numbers of the scheduler's own: slices.Insert of one in the middle. -/
import Derived.Test.YtenbmfhhmbfgoaaSchB
namespace Go.Proofs.Ytenbmfhhmbfgoaa
open Go.RowKit

theorem take_len {α : Type} (l : List α) (i : Nat) (h : i ≤ l.length) : (l.take i).length = i := by rw [List.length_take]; omega
theorem lists_shift (cs : List Value) (z t : Value) (i : Nat) (hi : i < cs.length) : putL (putL (cs ++ [z]) (i + 1) (cs.drop i)) i [t] = cs.take i ++ t :: cs.drop i := by
  have h1 : i + 1 + (cs.drop i).length = (cs ++ [z]).length := by simp; omega
  rw [putL_eq (cs.drop i) _ _ (by omega), h1, List.drop_length, List.append_nil]
  have h2 : ((cs ++ [z]).take (i + 1)).length = i + 1 := take_len _ _ (by simp; omega)
  rw [putL_eq [t] _ _ (by simp; omega), List.take_append_of_le_length (by omega), List.take_take, Nat.min_eq_left (by omega), List.take_append_of_le_length (by omega)]
  rw [List.length_singleton, List.drop_append_of_le_length (by omega), List.drop_of_length_le (by omega)]
  simp
theorem lists_grow (cs : List Value) (z t : Value) (i : Nat) (hi : i < cs.length) : putL (putL (cs.take i ++ List.replicate (cs.length + 1 - i) z) i [t]) (i + 1) (cs.drop i) = cs.take i ++ t :: cs.drop i := by
  have h0 := take_len cs i (by omega)
  rw [putL_eq [t] _ _ (by simp [h0]; omega), List.length_singleton]
  have h1 : (cs.take i ++ List.replicate (cs.length + 1 - i) z).take i = cs.take i := by rw [List.take_append_of_le_length (by omega), List.take_take, Nat.min_self]
  rw [h1, putL_eq _ _ _ (by simp [h0]; omega)]
  have h2 : (cs.take i ++ [t] ++ List.drop (i + 1) (cs.take i ++ List.replicate (cs.length + 1 - i) z)).take (i + 1) = cs.take i ++ [t] := by
    rw [List.take_left' (by simp [h0])]
  have h3 : List.drop (i + 1 + (cs.drop i).length) (cs.take i ++ [t] ++ List.drop (i + 1) (cs.take i ++ List.replicate (cs.length + 1 - i) z)) = [] := List.drop_of_length_le (by simp; omega)
  rw [h2, h3]
  simp

theorem insL_cells (xs : List Int) (t : Int) (i : Nat) : (xs.take i ++ t :: xs.drop i).map (Value.int .i64) = (xs.map (Value.int .i64)).take i ++ Value.int .i64 t :: (xs.map (Value.int .i64)).drop i := by
  simp [List.map_take, List.map_drop]

set_option maxRecDepth 100000 in
set_option maxHeartbeats 8000000 in
theorem insert_shift (g n cap i : Nat) (xs : List Int) (t : Int) (vb : Nat) (w : World) (h : Own w 3 0 (.slice (some ⟨g, 0, none⟩) n cap) xs) (hn : xs.length = n) (hr : n + 1 ≤ 1000000000) (hi : i < n) (hroom : n + 1 ≤ cap) (hb : Blk w 3 vb [t]) (hvb : vb ≠ g) :
    Calls Try.prog 41 #[.slice (some ⟨g, 0, none⟩) n cap, .int .i64 (i : Int), .slice (some ⟨vb, 0, none⟩) 1 1] w fun e w' => InsR w w' (.slice (some ⟨g, 0, none⟩) n cap) (xs.take i ++ t :: xs.drop i) e := by
  have hcs0 : ∃ cur : Array Value, w.heap[g]? = some (.cells cur 3 (0, 0)) ∧ cur.size = cap ∧ cap ≤ maxLen ∧ cur.toList.take n = xs.map (Value.int .i64) := by
    obtain ⟨_, ⟨e, _⟩ | ⟨g', cap', cur, e, _, hh, _, hm, hsz, ht⟩⟩ := h
    · cases e
    · injection e with e1 e2 e3
      cases e1
      subst e3
      exact ⟨cur, hh, by omega, hm, by rw [← ht, hn, Nat.mul_one]⟩
  obtain ⟨cur, hh, hsz, hmx, htk⟩ := hcs0
  have hc63 : cap ≤ 9223372036854775807 := by simp only [maxLen] at hmx; omega
  obtain ⟨cs, hcs⟩ : ∃ cs, cs = xs.map (Value.int .i64) := ⟨_, rfl⟩
  have hcl : cs.length = n := by rw [hcs, List.length_map, hn]
  have hcell : ∀ j v, cs[j]? = some v → w.cell? ⟨g, 0 + j, none⟩ = some v := by
    intro j v hj
    have hj2 : j < n := by have := (List.getElem?_eq_some_iff.1 hj).1; omega
    rw [hcs, ← htk, List.getElem?_take, if_pos hj2, Array.getElem?_toList] at hj
    simp [World.cell?, hh, hj]
  have hsp : ∀ j, j < n + 1 → (w.cell? ⟨g, 0 + j, none⟩).isSome = true := by
    intro j hj
    have : j < cur.size := by omega
    simp [World.cell?, hh, this]
  have hfz : ∀ j, w.frozen? ⟨g, j, none⟩ = false := by intro j; simp [World.frozen?, hh]
  have h1c : ∀ v ∈ cs, v.oneCell' = true := by rw [hcs]; exact ints_oneCell _ _
  obtain ⟨z, hz⟩ : ∃ z, cur[n]? = some z := ⟨cur[n]'(by omega), by simp [show n < cur.size by omega]⟩
  have hOw : w.ownsRow 0 3 1 (.slice (some ⟨g, 0, none⟩) (n + 1) cap) (n + 1) (cs ++ [z]) := by
    refine ⟨by simp [hcl], .inr ⟨g, cap, cur, rfl, Nat.zero_le _, hh, hroom, hmx, by omega, ?_⟩⟩
    rw [Nat.mul_one, List.take_succ_eq_append_getElem (by simp; omega), htk, ← hcs]
    have : cur[n]? = some cur[n] := by simp [show n < cur.size by omega]
    rw [hz] at this
    cases this
    simp
  have hFin : Hid (InsR w ((w.drew.setCells g (0 + (i + 1)) (cs.drop i)).setCells g (0 + i) [Value.int .i64 t]) (.slice (some ⟨g, 0, none⟩) n cap) (xs.take i ++ t :: xs.drop i) (.returned (.slice (some ⟨g, 0, none⟩) (n + 1) cap))) := by
    have hl : (xs.take i ++ t :: xs.drop i).length = n + 1 := by simp [hn]; omega
    refine ⟨g, cap, by rw [hl], ?_, ?_, .inl rfl⟩
    · unfold Own
      rw [insL_cells, ← hcs, hl, ← lists_shift cs z (.int .i64 t) i (by omega), Nat.zero_add, Nat.zero_add]
      exact owns_setCells _ _ _ _ (owns_setCells _ _ _ _ (World.ownsRow.kept hOw (grown_drew w (some vb)) (.inr (by intro e; cases e; exact hvb rfl))))
    · exact grown_trans (grown_drew w _) (grown_trans (grown_setCells g _ _ _) (grown_setCells g _ _ _))
  have hvcell := hb.cell (i := 0) (by simp)
  have hvcell' : w.cell? ⟨vb, 0, none⟩ = some (.int .i64 t) := by simpa using hvcell
  have hsa : w.shape? vb = some (3, 1) := by unfold Blk at hb; simp [World.shape?, hb]
  have hsb : w.shape? g = some (3, cap) := by simp [World.shape?, hh, hsz]
  have hfa : w.frozen? ⟨vb, 0, none⟩ = false := hb.frozen 0
  have hfe : w.frozen? ⟨vb, 1, none⟩ = false := hb.frozen 1
  have hcap0 : cap ≠ 0 := by omega
  have hov : ∀ lb cb, (callFunc 46 #[.slice (some ⟨vb, 0, none⟩) 1 1, .slice (some ⟨g, i + 1, none⟩) lb cb]).run Try.prog w = .ok (.value (.bool false)) w := fun lb cb => by
    rw [run_callFunc_extern Try.func46 (by kernel_rfl) (by kernel_rfl) (by kernel_rfl) (e := Extern.SlicesOverlaps.overlaps #[31, 31] #[4]) (by kernel_rfl),
      Lib.run_overlaps_apart w 31 4 3 Try.underlying31 1 (by intro w; kernel_rfl) ⟨vb, 0, none⟩ ⟨g, i + 1, none⟩ 1 1 lb cb hvb 3 3 1 cap hsa hsb hcap0 hfa hfe]
    rfl
  have hsz1 : (Try.prog.info? 3).map (·.size) = some 1 := by
    obtain ⟨i0, hi0, h0, h1, h2⟩ := info_parts infoN
    rw [hi0]; simp [h1]
  have hdl : (cs.drop i).length = n - i := by rw [List.length_drop, hcl]
  have hcp1 : ∀ ty dc sc, (Builtin.copy_ #[61, 61] ty #[.slice (some ⟨g, i + 1, none⟩) (n - i) dc, .slice (some ⟨g, i, none⟩) (n + 1 - i) sc]).run Try.prog w.drew = .ok (goInt (cs.drop i).length) (w.drew.setCells g (0 + (i + 1)) (cs.drop i)) := fun ty dc sc => by
    have := run_copy_cells (P := Try.prog) w.drew 61 61 ty 3 g (0 + (i + 1)) (n - i) dc ⟨g, 0 + i, none⟩ (n + 1 - i) sc (cs.drop i) Try.underlying61 hsz1 (by rw [hdl]; simp only [Nat.min_def]; split <;> omega)
      (fun j v hj => by rw [Addr.add_lit, Nat.add_assoc]; exact hcell (i + j) v (by rwa [List.getElem?_drop] at hj))
      (fun j hj => by rw [Nat.add_assoc]; exact hsp _ (by omega)) (fun j hj => hfz _) (fun v hv => h1c v (List.mem_of_mem_drop hv))
    rw [Nat.zero_add, Nat.zero_add] at this
    rw [Nat.zero_add]
    exact this
  obtain ⟨W1, hW1⟩ : ∃ W1, W1 = w.drew.setCells g (0 + (i + 1)) (cs.drop i) := ⟨_, rfl⟩
  rw [← hW1] at hcp1 hFin
  have hsp1 : ∀ k, k < n + 1 → (W1.cell? ⟨g, 0 + k, none⟩).isSome = true := fun k hk => by
    have := (owns_setCells (cs.drop i) (0 + (i + 1)) w.drew _ (World.ownsRow.kept hOw (grown_drew w (some vb)) (.inr (by intro e; cases e; exact hvb rfl)))).cellAt k (by omega)
    rw [← hW1] at this
    rw [Nat.zero_add, this, List.getElem?_eq_getElem (by rw [putL_length]; simp [hcl]; omega)]
    rfl
  have hfz1 : ∀ k, W1.frozen? ⟨g, k, none⟩ = false := fun k => by rw [hW1, World.frozen?_setCells]; exact hfz k
  have hvb1 : W1.cell? ⟨vb, 0, none⟩ = some (.int .i64 t) := by
    rw [hW1, World.cell?_setCells_out g _ _ _ _ (fun h _ => absurd h hvb)]
    exact hvcell'
  have hcp2 : ∀ ty dc, (Builtin.copy_ #[61, 31] ty #[.slice (some ⟨g, i, none⟩) (n + 1 - i) dc, .slice (some ⟨vb, 0, none⟩) 1 1]).run Try.prog W1 = .ok (goInt [Value.int .i64 t].length) (W1.setCells g (0 + i) [Value.int .i64 t]) := fun ty dc => by
    have := run_copy_cells (P := Try.prog) W1 61 31 ty 3 g (0 + i) (n + 1 - i) dc ⟨vb, 0, none⟩ 1 1 [Value.int .i64 t] Try.underlying61 hsz1 (by simp only [List.length_singleton, Nat.min_def]; split <;> omega)
      (fun j v hj => by
        match j, hj with
        | 0, hj => cases hj; exact hvb1
        | j + 1, hj => simp at hj)
      (fun j hj => by rw [Nat.add_assoc]; exact hsp1 _ (by simp at hj; omega)) (fun j hj => hfz1 _) (by intro u hu; rw [List.mem_singleton.1 hu]; rfl)
    rw [Nat.zero_add] at this
    rw [Nat.zero_add]
    exact this
  rw [Nat.zero_add] at hFin
  have HX := hFin
  have hz1 : ¬ ((i : Int) = (n : Int)) := by omega
  have hw1 : IntKind.i64.wrap ((i : Int) + 1) = (i : Int) + 1 := by rw [IntKind.wrap_i64]; omega
  have hb1 : (0 : Int) ≤ (i : Int) + 1 := by omega
  have hin : i ≤ n := by omega
  have htn : ((i : Int) + 1).toNat = i + 1 := by omega
  have hb2 : ¬ (cap = i + 1) := by omega
  have hb3 : (i : Int) ≤ (n : Int) + 1 := by omega
  have hb4 : ¬ (cap = i) := by omega
  have hroomI : ¬ (cap : Int) < (n : Int) + 1 := by omega
  clear hFin hOw hz h hcell hsp hfz hcs h1c hvcell hvcell' hsa hsb hfa hfe hh htk hsp1 hfz1 hvb1 hdl hb hmx hcl hW1
  go_enter Try.func41, Try.ntmps41
  go_wp2_with (simp only [hov])
  go_region_law (refine step_copy_eq rfl _ _ 61 61 rfl _ _ (by simp [Act.eval, Act.put]) (by simp [Act.eval, Act.put]) (hcp1 _ _ _) ?_)
  go_wp2_with (at_builtin; refine wpList_copy_eq _ rfl _ _ 61 31 rfl _ _ rfl rfl (hcp2 _ _) ?_)
  go_ret
  exact unhide HX

set_option maxRecDepth 100000 in
set_option maxHeartbeats 8000000 in
theorem insert_grow (g n cap i : Nat) (xs : List Int) (t : Int) (vb : Nat) (w : World) (h : Own w 3 0 (.slice (some ⟨g, 0, none⟩) n cap) xs) (hn : xs.length = n) (hr : n + 1 ≤ 1000000000) (hi : i < n) (hroom : cap < n + 1) (hb : Blk w 3 vb [t]) :
    Calls Try.prog 41 #[.slice (some ⟨g, 0, none⟩) n cap, .int .i64 (i : Int), .slice (some ⟨vb, 0, none⟩) 1 1] w fun e w' => InsR w w' (.slice (some ⟨g, 0, none⟩) n cap) (xs.take i ++ t :: xs.drop i) e := by
  have hcs0 : ∃ cur : Array Value, w.heap[g]? = some (.cells cur 3 (0, 0)) ∧ n ≤ cap ∧ cur.toList.take n = xs.map (Value.int .i64) := by
    obtain ⟨_, ⟨e, _⟩ | ⟨g', cap', cur, e, _, hh, hnc, hm, hsz, ht⟩⟩ := h
    · cases e
    · injection e with e1 e2 e3
      cases e1
      subst e3
      exact ⟨cur, hh, by omega, by rw [← ht, hn, Nat.mul_one]⟩
  obtain ⟨cur, hh, hnc, htk⟩ := hcs0
  obtain ⟨cs, hcs⟩ : ∃ cs, cs = xs.map (Value.int .i64) := ⟨_, rfl⟩
  have hcl : cs.length = n := by rw [hcs, List.length_map, hn]
  have hcell : ∀ j v, cs[j]? = some v → w.cell? ⟨g, 0 + j, none⟩ = some v := by
    intro j v hj
    have hj2 : j < n := by have := (List.getElem?_eq_some_iff.1 hj).1; omega
    rw [hcs, ← htk, List.getElem?_take, if_pos hj2, Array.getElem?_toList] at hj
    simp [World.cell?, hh, hj]
  have hg : g < w.heap.size := (Array.getElem?_eq_some_iff.1 hh).1
  have hvlt : vb < w.heap.size := hb.lt
  have h1c : ∀ v ∈ cs, v.oneCell' = true := by rw [hcs]; exact ints_oneCell _ _
  obtain ⟨i0, hi0, hz0, hzs, hzb⟩ := info_parts infoN
  have hsz1 : (Try.prog.info? 3).map (·.size) = some 1 := by rw [hi0]; simp [hzs]
  have hold : (Builtin.firstCells i0.size i (.slice (some ⟨g, 0, none⟩) i cap)).run Try.prog w.drew = .ok (cs.take i).toArray w.drew := by
    rw [hzs]
    exact run_firstCells_some w.drew 1 i ⟨g, 0, none⟩ i cap (cs.take i) (by rw [List.length_take]; omega) (fun j v hj => by
      rw [Addr.add_lit]
      rw [List.getElem?_take] at hj
      split at hj
      · exact hcell j v hj
      · cases hj)
  have hkk : (n : Int) + 1 - (i : Int) = ((n + 1 - i : Nat) : Int) := by omega
  have hik : i + (n + 1 - i) = n + 1 := by omega
  obtain ⟨G, hG⟩ : ∃ G, G = grownCap w (n + 1) cap 3 := ⟨_, rfl⟩
  obtain ⟨ROW, hROW⟩ : ∃ ROW : Array Value, ROW = (cs.take i).toArray ++ Builtin.zeroCells (Value.int .i64 0).cells (n + 1 - i) ++ Builtin.zeroCells (Value.int .i64 0).cells (G - (n + 1)) := ⟨_, rfl⟩
  have hGn : n + 1 ≤ G := by rw [hG]; exact grownCap_ge w _ _ _
  have hGm : G ≤ maxLen := by rw [hG]; exact grownCap_le_maxLen w (n + 1) cap 3 (by unfold maxLen; omega)
  have hG63 : G ≤ 9223372036854775807 := by simp only [maxLen] at hGm; omega
  have hrz : ∀ ty, (Builtin.append_ #[61, 3] ty #[.slice (some ⟨g, 0, none⟩) i cap, .int .i64 ((n : Int) + 1 - (i : Int))]).run Try.prog w =
      .ok (.slice (some ⟨w.heap.size, 0, none⟩) (n + 1) G) (w.drew.alloc (.cells ROW 3)) := fun ty => by
    have h := Lib.run_append_grow_zeros (P := Try.prog) w 61 3 ty 3 i0 _ .i64 .i64 Try.underlying61 Try.underlying3 hi0 hz0 (some ⟨g, 0, none⟩) i cap (cs.take i) hold (n + 1 - i) (by omega) (by omega) (by omega) (by omega) (by rw [hzb]; omega) (by rw [hzb, hik]; exact growslice_fits hroom (by omega))
    rw [hik, ← hG, ← hROW] at h
    rw [hkk]
    exact h
  have hOw : (w.drew.alloc (.cells ROW 3)).ownsRow 0 3 1 (.slice (some ⟨w.heap.size, 0, none⟩) (n + 1) G) (n + 1) (cs.take i ++ List.replicate (n + 1 - i) (Value.int .i64 0)) := by
    have hzc : ∀ k, (Builtin.zeroCells (Value.int .i64 0).cells k).toList = List.replicate k (Value.int .i64 0) := by
      intro k
      simp [Builtin.zeroCells, Value.cells]
      apply List.ext_getElem
      · simp
      · intro i h1 h2
        simp [Nat.mod_one]
    refine ⟨by simp [hcl]; omega, .inr ⟨w.heap.size, G, ROW, rfl, Nat.zero_le _, ?_, hGn, hGm, ?_, ?_⟩⟩
    · simp only [World.alloc, World.drew, Array.getElem?_push_size]
    · rw [hROW, ← Array.length_toList, Array.toList_append, Array.toList_append, hzc, hzc]
      simp [hcl]
      omega
    · rw [hROW, Array.toList_append, Array.toList_append, hzc, hzc, List.take_left' (by simp [hcl]; omega)]
  obtain ⟨W1, hW1⟩ : ∃ W1, W1 = w.drew.alloc (.cells ROW 3) := ⟨_, rfl⟩
  rw [← hW1] at hrz hOw
  have hS : W1.heap.size = w.heap.size + 1 := by rw [hW1]; simp
  have hOld : ∀ b j v, b < w.heap.size → w.cell? ⟨b, j, none⟩ = some v → W1.cell? ⟨b, j, none⟩ = some v := fun b j v hb2 hc => by
    rw [hW1]
    exact (Below.cell (((Kp.drew w).trans (Kp.alloc w.drew _))) (p := ⟨b, j, none⟩) hb2).trans hc
  have hcpA : ∀ ty dc, (Builtin.copy_ #[61, 31] ty #[.slice (some ⟨w.heap.size, i, none⟩) (n + 1 - i) dc, .slice (some ⟨vb, 0, none⟩) 1 1]).run Try.prog W1 = .ok (goInt [Value.int .i64 t].length) (W1.setCells w.heap.size i [Value.int .i64 t]) := fun ty dc =>
    run_copy_cells (P := Try.prog) W1 61 31 ty 3 w.heap.size i (n + 1 - i) dc ⟨vb, 0, none⟩ 1 1 [Value.int .i64 t] Try.underlying61 hsz1 (by simp only [List.length_singleton, Nat.min_def]; split <;> omega)
      (fun j v hj => by
        match j, hj with
        | 0, hj => cases hj; exact hOld vb 0 _ hvlt (by simpa using hb.cell (i := 0) (by simp))
        | j + 1, hj => simp at hj)
      (fun j hj => by
        rw [hOw.cellAt (i + j) (by simp at hj; omega), List.getElem?_eq_getElem (by simp [hcl]; simp at hj; omega)]
        rfl)
      (fun j hj => hOw.frozenAt _) (by intro u hu; rw [List.mem_singleton.1 hu]; rfl)
  obtain ⟨W2, hW2⟩ : ∃ W2, W2 = W1.setCells w.heap.size i [Value.int .i64 t] := ⟨_, rfl⟩
  have hOw2 : W2.ownsRow 0 3 1 (.slice (some ⟨w.heap.size, 0, none⟩) (n + 1) G) (n + 1) (putL (cs.take i ++ List.replicate (n + 1 - i) (Value.int .i64 0)) i [Value.int .i64 t]) := by
    rw [hW2]
    exact owns_setCells _ _ _ _ hOw
  rw [← hW2] at hcpA
  have hg12 : W1.grownBy W2 (some w.heap.size) := by rw [hW2]; exact grown_setCells _ _ _ _
  have hdl : (cs.drop i).length = n - i := by rw [List.length_drop, hcl]
  have hcpB : ∀ ty dc sc, (Builtin.copy_ #[61, 61] ty #[.slice (some ⟨w.heap.size, i + 1, none⟩) (n - i) dc, .slice (some ⟨g, i, none⟩) (n - i) sc]).run Try.prog W2.drew = .ok (goInt (cs.drop i).length) (W2.drew.setCells w.heap.size (i + 1) (cs.drop i)) := fun ty dc sc => by
    have := run_copy_cells (P := Try.prog) W2.drew 61 61 ty 3 w.heap.size (i + 1) (n - i) dc ⟨g, 0 + i, none⟩ (n - i) sc (cs.drop i) Try.underlying61 hsz1 (by rw [hdl]; simp only [Nat.min_def]; split <;> omega)
      (fun j v hj => by
        rw [Addr.add_lit, Nat.add_assoc]
        have e1 := hOld g _ v hg (hcell (i + j) v (by rwa [List.getElem?_drop] at hj))
        refine Eq.trans ?_ e1
        exact World.cell?_of_block (w := W1) (hg12.block g (by rw [hS]; omega) (by intro e; cases e; omega)))
      (fun j hj => by
        have := hOw2.cellAt (i + 1 + j) (by omega)
        refine (congrArg Option.isSome (show W2.drew.cell? _ = _ from this)).trans ?_
        rw [List.getElem?_eq_getElem (by rw [putL_length]; simp [hcl]; omega)]
        rfl)
      (fun j hj => hOw2.frozenAt _) (fun v hv => h1c v (List.mem_of_mem_drop hv))
    rw [Nat.zero_add] at this
    exact this
  have HX : Hid (InsR w (W2.drew.setCells w.heap.size (i + 1) (cs.drop i)) (.slice (some ⟨g, 0, none⟩) n cap) (xs.take i ++ t :: xs.drop i) (.returned (.slice (some ⟨w.heap.size, 0, none⟩) (n + 1) G))) := by
    have hl : (xs.take i ++ t :: xs.drop i).length = n + 1 := by simp [hn]; omega
    refine ⟨w.heap.size, G, by rw [hl], ?_, ?_, .inr (Nat.le_refl _)⟩
    · unfold Own
      have hL := lists_grow cs (.int .i64 0) (.int .i64 t) i (by omega)
      rw [hcl] at hL
      rw [insL_cells, ← hcs, hl, ← hL]
      exact owns_setCells _ _ _ _ (World.ownsRow.kept hOw2 (grown_drew W2 (some g)) (.inr (by simp [Value.ownBlock]; omega)))
    · have h1 : w.grownBy W1 (some g) := by rw [hW1]; exact grown_trans (grown_drew w _) (grown_alloc _ _ _)
      exact grown_new (grown_trans (grown_new h1 hg12 (Nat.le_refl _)) (grown_drew W2 _)) (grown_setCells _ _ _ _) (Nat.le_refl _)
  have hz1 : ¬ ((i : Int) = (n : Int)) := by omega
  have hz3 : (cap : Int) < (n : Int) + 1 := by omega
  have hw1 : IntKind.i64.wrap ((i : Int) + 1) = (i : Int) + 1 := by rw [IntKind.wrap_i64]; omega
  have hb1 : (0 : Int) ≤ (i : Int) + 1 := by omega
  have hin : i ≤ n := by omega
  have hic : i ≤ cap := by omega
  have htn : ((i : Int) + 1).toNat = i + 1 := by omega
  have hGi : ¬ (G = i) := by omega
  have hGim : ¬ (G = i + 1) := by omega
  have hci : ¬ (cap = i) := by omega
  have hb3 : (i : Int) ≤ (n : Int) + 1 := by omega
  clear hOw hOw2 h hcell hold hcs h1c hh htk hdl hb hcl hOld hg12 hW1 hS hW2 hz0 hi0 hzs hzb hG hROW hkk hik hGm
  go_enter Try.func41, Try.ntmps41
  go_wp2_with (at_builtin; refine wpList_append_eq _ rfl _ _ 61 3 rfl _ _ rfl rfl (hrz _) ?_)
  go_region_law (refine step_copy_eq rfl _ _ 61 61 rfl _ _ (by simp [Act.eval, Act.put]) (by simp [Act.eval, Act.put]) (hcpB _ _ _) ?_)
  go_wp2_with fail
  go_ret
  exact unhide HX

end Go.Proofs.Ytenbmfhhmbfgoaa
