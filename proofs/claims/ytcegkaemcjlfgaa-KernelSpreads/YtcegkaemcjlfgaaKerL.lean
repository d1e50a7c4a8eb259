
/- Contracts of the document's own Gather. -/
import Derived.Test.YtcegkaemcjlfgaaKerK
import Derived.Test.YtcegkaemcjlfgaaRealD
import Derived.Test.YtcegkaemcjlfgaaStep
namespace Go.Proofs.Ytcegkaemcjlfgaa
open Go.RowKit

/-- 'append(row, x)': the row is as it lay, or lies anew -/
theorem run_append_row {P : Program} (w : World) (base : Nat) (t ty e : TypeId) (hin : (P.info? e).map (fun i => (i.zero, i.size, i.bytes)) = some (some (.float .f64 0), 1, 8)) (ht : P.underlying t = some (.slice e))
    (v : Value) (xs : List Nat) (ad : Addr) (m c : Nat) (ys : List Nat) (hm : ys.length = m) (h0 : 0 < m) (hv : OwnF w e base v xs) (hu : Flts w (.slice (some ad) m c) ys) (hroom : xs.length + ys.length ≤ 1000000) (hbase : base ≤ w.heap.size) :
    ∃ b n k w', (Builtin.append_ #[t, t] ty #[v, .slice (some ad) m c]).run P w = .ok (.slice b n k) w' ∧ OwnF w' e base (.slice b n k) (xs ++ ys) ∧ w.grownBy w' v.ownBlock ∧ ((Value.slice b n k).ownBlock = v.ownBlock ∨ ∀ q, (Value.slice b n k).ownBlock = some q → w.heap.size ≤ q) := by
  obtain ⟨i0, hi, hz0, hz1, hz2⟩ := info_parts hin
  obtain ⟨v', w', hrun, ho, hg⟩ := run_append_flts (P := P) w base t ty e hin ht v (.slice (some ad) m c) xs ys hv hu (by omega) hbase
  obtain ⟨b, n, k, rfl⟩ := ho.sl
  refine ⟨b, n, k, w', hrun, ho, hg, ?_⟩
  have hnews : ∀ j u, (ys.map (Value.float .f64))[j]? = some u → w.cell? (ad.add j) = some u := by
    obtain ⟨b0, off, e1, _, hc⟩ := flts_at hu (by omega)
    cases e1
    intro j u hj
    have hjl : j < ys.length := by
      have := (List.getElem?_eq_some_iff.1 hj).1
      simpa using this
    have := hc j hjl
    rw [List.getElem?_map] at hj
    have e2 : ys[j]? = some (ys.getD j 0) := by simp [hjl]
    rw [e2] at hj
    cases hj
    by_cases h0 : j = 0
    · subst h0; simpa [Addr.add] using this
    · simpa [Addr.add, h0] using this
  obtain ⟨hl0, ⟨rfl, hx0⟩ | ⟨g, cap, cur, rfl, hgb, hh, h1, h2, h3, h4⟩⟩ := hv
  · right
    have hx : xs = [] := List.eq_nil_of_length_eq_zero hx0
    subst hx
    obtain ⟨v2, w2, hrun2, ho2, -⟩ := run_append_flts (P := P) w w.heap.size t ty e hin ht (.slice none 0 0) (.slice (some ad) m c) [] ys (OwnF.nil _ _ _) hu (by omega) (Nat.le_refl _)
    rw [hrun] at hrun2
    cases hrun2
    exact fun q hq => ho2.block q hq
  · by_cases hfit : xs.length + m ≤ cap
    · left
      have hroom2 := run_append_room (P := P) w t ty e i0 ht hi g xs.length cap cur hh ad m c (ys.map (Value.float .f64)) (by simp [hz1, hm]) hnews (flts_oneCell _) hfit (by rw [hz1]; simp [hm]; omega)
      rw [hrun] at hroom2
      cases hroom2
      rfl
    · right
      obtain ⟨v2, w2, hrun2, r1, _⟩ := run_append_arg_grows (P := P) w t ty e i0 (.float .f64 0) 1 8 ht hi hz0 hz1 hz2 rfl (by decide) ⟨g, 0, none⟩ xs.length cap (xs.map (Value.float .f64)) (by simp)
        (by
          intro j u hj
          have hjl : j < xs.length := by
            have := (List.getElem?_eq_some_iff.1 hj).1
            simpa using this
          have hc : cur[j]? = some u := by
            have h5 := congrArg (fun l => l[j]?) h4
            simp only [Nat.mul_one, List.getElem?_take, hjl, if_true, Array.getElem?_toList] at h5
            rw [h5]
            exact hj
          have : w.cell? ⟨g, j, none⟩ = some u := by simp [World.cell?, hh, hc]
          by_cases h0 : j = 0
          · subst h0; simpa [Addr.add] using this
          · simpa [Addr.add, h0] using this) ad m c (ys.map (Value.float .f64)) (by simp [hm]) hnews (by omega) (by unfold maxLen; omega) (by omega)
      rw [hrun] at hrun2
      cases hrun2
      exact fun q hq => (r1.lt q hq).1

/-- block R holds these slices -/
def BlkS (w : World) (R : Nat) (vs : List Value) : Prop := w.heap[R]? = some (.cells vs.toArray 23)
theorem BlkS.lt {w : World} {R : Nat} {vs : List Value} (h : BlkS w R vs) : R < w.heap.size := (Array.getElem?_eq_some_iff.1 h).1
theorem BlkS.cell {w : World} {R : Nat} {vs : List Value} (h : BlkS w R vs) {i : Nat} (hi : i < vs.length) : w.cell? ⟨R, i, none⟩ = some (vs.getD i (.slice none 0 0)) := by
  unfold BlkS at h
  simp [World.cell?, h, hi]
theorem BlkS.frozen {w : World} {R : Nat} {vs : List Value} (h : BlkS w R vs) (i : Nat) : w.frozen? ⟨R, i, none⟩ = false := by
  unfold BlkS at h
  simp [World.frozen?, h]
theorem BlkS.set {w : World} {R : Nat} {vs : List Value} (h : BlkS w R vs) (i : Nat) (x : Value) : BlkS (w.setCell ⟨R, i, none⟩ x) R (vs.set i x) := by
  unfold BlkS at h ⊢
  simp [World.setCell, Array.getElem?_modify, h]
theorem BlkS.keep {w w' : World} {R : Nat} {vs : List Value} (h : BlkS w R vs) (k : Kp w w') : BlkS w' R vs := by
  unfold BlkS
  rw [k.block R h.lt]
  exact h
theorem BlkS.grown {w w' : World} {row : Option Nat} {R : Nat} {vs : List Value} (h : BlkS w R vs) (g : w.grownBy w' row) (hne : some R ≠ row) : BlkS w' R vs := by
  unfold BlkS
  rw [g.block R h.lt hne]
  exact h
theorem BlkS.made (w : World) (n : Nat) : BlkS (w.alloc (.cells (madeCells #[.slice none 0 0] n) 23)) w.heap.size (List.replicate n (.slice none 0 0)) := by
  unfold BlkS
  simp only [World.alloc, Array.getElem?_push_size]
  congr 2
  apply Array.ext
  · simp [madeCells]
  · intro i h1 h2
    simp [madeCells, Nat.mod_one]
theorem OwnF.neS {w : World} {base R : Nat} {v : Value} {xs : List Nat} {vs : List Value} (h : OwnF w 38 base v xs) (hb : BlkS w R vs) : some R ≠ v.ownBlock := by
  obtain ⟨_, h | ⟨g, cap, cur, rfl, _, hh, _⟩⟩ := h
  · obtain ⟨rfl, _⟩ := h
    simp [Value.ownBlock]
  · intro e1
    obtain rfl : R = g := by simpa [Value.ownBlock] using e1
    unfold BlkS at hb
    rw [hh] at hb
    injection hb with e2
    injection e2 with _ e3
    revert e3
    decide
theorem OwnF.grown {w w' : World} {row : Option Nat} {e : TypeId} {base : Nat} {v : Value} {xs : List Nat} (h : OwnF w e base v xs) (g : w.grownBy w' row) (hne : v.ownBlock = none ∨ v.ownBlock ≠ row) : OwnF w' e base v xs := World.ownsRow.kept h g hne
theorem OwnF.setS {w : World} {base R : Nat} {v : Value} {xs : List Nat} {vs : List Value} (h : OwnF w 38 base v xs) (hb : BlkS w R vs) (i : Nat) (u : Value) : OwnF (w.setCell ⟨R, i, none⟩ u) 38 base v xs := by
  have hn := h.neS hb
  obtain ⟨h0, h | ⟨g, cap, cur, rfl, hg, hh, r⟩⟩ := h
  · exact ⟨h0, .inl h⟩
  · have hne : g ≠ R := fun e => hn (by rw [e]; rfl)
    exact ⟨h0, .inr ⟨g, cap, cur, rfl, hg, (Below.heap_setCell w ⟨R, i, none⟩ u g hne).trans hh, r⟩⟩

/-- the rows, each the call's own, none in another's place -/
structure RowsI (w : World) (base R n : Nat) (vs : List Value) (P : Nat → List Nat) : Prop where
  len : vs.length = n
  blk : BlkS w R vs
  own : ∀ k, k < n → OwnF w 38 base (vs.getD k (.slice none 0 0)) (P k)
  apart : ∀ k l, k < n → l < n → k ≠ l → ∀ b, (vs.getD k (.slice none 0 0)).ownBlock = some b → (vs.getD l (.slice none 0 0)).ownBlock ≠ some b

theorem RowsI.start (w : World) (base n : Nat) : RowsI (w.alloc (.cells (madeCells #[.slice none 0 0] n) 23)) base w.heap.size n (List.replicate n (.slice none 0 0)) (fun _ => []) := by
  have e : ∀ k, k < n → (List.replicate n (Value.slice none 0 0)).getD k (.slice none 0 0) = .slice none 0 0 := fun k _ => by
    rw [List.getD_eq_getElem?_getD, List.getElem?_replicate]
    split <;> rfl
  refine ⟨by simp, BlkS.made w n, fun k hk => ?_, fun k l hk _ _ b hb => ?_⟩
  · rw [e k hk]; exact OwnF.nil _ _ _
  · rw [e k hk] at hb; cases hb
theorem RowsI.as {w : World} {base R n : Nat} {vs : List Value} {P P' : Nat → List Nat} (h : RowsI w base R n vs P) (hp : ∀ k, k < n → P k = P' k) : RowsI w base R n vs P' :=
  ⟨h.len, h.blk, fun k hk => by rw [← hp k hk]; exact h.own k hk, h.apart⟩
theorem getDV_ne {vs : List Value} {k l : Nat} {v d : Value} (h : k ≠ l) : (vs.set k v).getD l d = vs.getD l d := by
  simp [List.getD_eq_getElem?_getD, h]
theorem getDV_eq {vs : List Value} {k : Nat} {v d : Value} (h : k < vs.length) : (vs.set k v).getD k d = v := by simp [h]
theorem RowsI.keep {w w' : World} {base R n : Nat} {vs : List Value} {P : Nat → List Nat} (h : RowsI w base R n vs P) (k : Kp w w') : RowsI w' base R n vs P :=
  ⟨h.len, h.blk.keep k, fun i hi => (h.own i hi).keep k, h.apart⟩
theorem RowsI.step {w w1 w' : World} {base R n : Nat} {vs : List Value} {P : Nat → List Nat} (h : RowsI w base R n vs P) (kp : Kp w w1) {k : Nat} (hk : k < n) {b : Option Addr} {m c : Nat} {xs : List Nat}
    (ho : OwnF w' 38 base (.slice b m c) xs) (g : w1.grownBy w' (vs.getD k (.slice none 0 0)).ownBlock) (hf : (Value.slice b m c).ownBlock = (vs.getD k (.slice none 0 0)).ownBlock ∨ ∀ q, (Value.slice b m c).ownBlock = some q → w1.heap.size ≤ q) :
    RowsI (w'.setCell ⟨R, k, none⟩ (.slice b m c)) base R n (vs.set k (.slice b m c)) (fun l => if l = k then xs else P l) := by
  have h1 := h.keep kp
  have hR := h1.blk.grown g ((h1.own k hk).neS h1.blk)
  have hkl : k < vs.length := by rw [h.len]; exact hk
  refine ⟨by rw [List.length_set]; exact h.len, hR.set k _, fun l hl => ?_, fun i l hi hl hne q hq => ?_⟩
  · by_cases e : l = k
    · subst e
      rw [getDV_eq hkl, if_pos rfl]
      exact ho.setS hR _ _
    · rw [getDV_ne (fun e' => e e'.symm), if_neg e]
      refine OwnF.setS ((h1.own l hl).grown g ?_) hR _ _
      cases hb : (vs.getD l (.slice none 0 0)).ownBlock with
      | none => exact .inl rfl
      | some q => exact .inr (fun e2 => h.apart l k hl hk e q hb e2.symm)
  · have lt : ∀ l, l < n → ∀ q, (vs.getD l (.slice none 0 0)).ownBlock = some q → q < w1.heap.size := fun l hl q hq => (World.ownsRow.lt (h1.own l hl) q hq).2
    by_cases e1 : i = k
    · subst e1
      rw [getDV_eq hkl] at hq
      rw [getDV_ne (fun e => hne e)]
      intro h2
      rcases hf with hf | hf
      · exact h.apart i l hi hl hne q (by rw [← hf]; exact hq) h2
      · have := hf q hq
        have := lt l hl q h2
        omega
    · rw [getDV_ne (fun e => e1 e.symm)] at hq
      by_cases e2 : l = k
      · subst e2
        rw [getDV_eq hkl]
        intro h2
        rcases hf with hf | hf
        · exact h.apart i l hi hl hne q hq (by rw [← hf]; exact h2)
        · have := hf q h2
          have := lt i hi q hq
          omega
      · rw [getDV_ne (fun e => e2 e.symm)]
        exact h.apart i l hi hl hne q hq

theorem infoRow : (Try.prog.info? 23).map (fun i => (i.zero, i.size, i.bytes)) = some (some (.slice none 0 0), 1, 24) := by kernel_rfl
theorem infoFlt4 : (Try.prog.info? 38).map (fun i => (i.zero, i.size, i.bytes)) = some (some (.float .f64 0), 1, 8) := by kernel_rfl
theorem mk_rows (n : Nat) (hn : n ≤ 4096) (w : World) :
    (Instr.makeSlice 50 (.int .i64 n) (.int .i64 n)).run Try.prog w = .ok (.slice (some ⟨w.heap.size, 0, none⟩) n n) (w.alloc (.cells (madeCells #[.slice none 0 0] n) 23)) := by
  obtain ⟨i0, hi, hz0, hz1, hz2⟩ := info_parts infoRow
  have h := run_make (P := Try.prog) w 50 23 i0 (.slice none 0 0) Try.underlying50 hi hz0 .i64 .i64 n n (by omega) (by omega) (by rw [hz2]; omega) (by omega)
  rw [hz1] at h
  simpa [Value.cells] using h

set_option maxHeartbeats 1000000 in
theorem rgat_no (sv dv u : Value) (f t : List Int) (d : List Nat) (w : World) (h : Ints w sv f) (hd : Flts w dv d) (h' : Ints w u t) (hm : (mayT f d && intoB t f) = false) :
    Calls Try.prog 11 #[.agg #[sv, dv], u] w fun e w' => e = .returned (.tuple #[.agg #[.slice none 0 0, .slice none 0 0], .int .i64 2]) ∧ Kp w w' := by
  have H := hide h
  have HD := hide hd
  have H' := hide h'
  clear h hd h'
  cases hm1 : mayT f d
  · have HM1 := hide hm1
    clear hm hm1
    go_enter Try.func11, Try.ntmps11
    go_wp2_with fail
    obtain ⟨W, hW, x1, x2, k0⟩ := boxes_in w sv dv (.slice none 0 0) (.slice none 0 0)
    rw [← hW]
    clear hW
    have X1 := hide x1
    have X2 := hide x2
    have K0 := hide k0
    clear x1 x2 k0
    have hRS : Hid (w.heap.size ≤ w.heap.size + 1) := Nat.le_succ _
    generalize w.heap.size + 1 = R at X2 hRS ⊢
    generalize w.heap.size = B at X1 ⊢
    obtain ⟨c0, c1, -, -, -⟩ := (unhide X1).o
    try go_wp2_with fail
    refine (rmayT_any _ _ f d W ((unhide H).keep (unhide K0)) ((unhide HD).keep (unhide K0))).mono ?_
    rw [unhide HM1]
    rintro e w1 ⟨rfl, k1⟩
    clear c0 c1
    have x3 := (unhide X2).keep k1
    obtain ⟨d0, d1, d2, d3, -⟩ := x3.o
    obtain ⟨c0, c1, -, -, -⟩ := ((unhide X1).keep k1).o
    have K1 := hide ((unhide K0).trans k1)
    have z2 := x3.set (.slice none 0 0) (.slice none 0 0)
    clear k1 x3
    obtain ⟨z0, z1, -, -, -⟩ := z2.o
    clear z2
    go_wp2
    have KF := hide (((unhide K1).set (unhide hRS) (i := 0) (.slice none 0 0)).set (unhide hRS) (i := 1) (.slice none 0 0))
    generalize ((w1.setCell ⟨R, 0, none⟩ (.slice none 0 0)).setCell ⟨R, 1, none⟩ (.slice none 0 0)) = w9 at *
    refine bodyPost_ret (v := .tuple #[.agg #[.slice none 0 0, .slice none 0 0], .int .i64 2]) (by simp [results, Try.results11, go_sem, z0, z1]) rfl ⟨rfl, unhide KF⟩
  · have HM1 := hide hm1
    have HM2 : Hid (intoB t f = false) := by rw [hm1] at hm; exact hm
    clear hm hm1
    go_enter Try.func11, Try.ntmps11
    go_wp2_with fail
    obtain ⟨W, hW, x1, x2, k0⟩ := boxes_in w sv dv (.slice none 0 0) (.slice none 0 0)
    rw [← hW]
    clear hW
    have X1 := hide x1
    have X2 := hide x2
    have K0 := hide k0
    clear x1 x2 k0
    have hRS : Hid (w.heap.size ≤ w.heap.size + 1) := Nat.le_succ _
    generalize w.heap.size + 1 = R at X2 hRS ⊢
    generalize w.heap.size = B at X1 ⊢
    obtain ⟨c0, c1, -, -, -⟩ := (unhide X1).o
    try go_wp2_with fail
    refine (rmayT_any _ _ f d W ((unhide H).keep (unhide K0)) ((unhide HD).keep (unhide K0))).mono ?_
    rw [unhide HM1]
    rintro e w1 ⟨rfl, k1⟩
    clear c0 c1
    have Y1 := hide ((unhide X1).keep k1)
    have Y2 := hide ((unhide X2).keep k1)
    have K1 := hide ((unhide K0).trans k1)
    obtain ⟨c0, c1, -, -, -⟩ := (unhide Y1).o
    clear k1 X1 X2 K0
    go_wp2_with fail
    refine (rinto_any _ _ t f w1 ((unhide H').keep (unhide K1)) ((unhide H).keep (unhide K1))).mono ?_
    rw [unhide HM2]
    rintro e w2 ⟨rfl, k2⟩
    clear c0 c1
    have x3 := (unhide Y2).keep k2
    obtain ⟨d0, d1, d2, d3, -⟩ := x3.o
    have K2 := hide ((unhide K1).trans k2)
    have z2 := x3.set (.slice none 0 0) (.slice none 0 0)
    clear k2 x3
    obtain ⟨z0, z1, -, -, -⟩ := z2.o
    clear z2
    go_wp2
    have KF := hide (((unhide K2).set (unhide hRS) (i := 0) (.slice none 0 0)).set (unhide hRS) (i := 1) (.slice none 0 0))
    generalize ((w2.setCell ⟨R, 0, none⟩ (.slice none 0 0)).setCell ⟨R, 1, none⟩ (.slice none 0 0)) = w9 at *
    refine bodyPost_ret (v := .tuple #[.agg #[.slice none 0 0, .slice none 0 0], .int .i64 2]) (by simp [results, Try.results11, go_sem, z0, z1]) rfl ⟨rfl, unhide KF⟩


end Go.Proofs.Ytcegkaemcjlfgaa
