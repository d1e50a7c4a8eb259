
/- The contract of whole. -/
import Derived.Test.YtliddjpcbhdplaaGrC
import Derived.Test.YtliddjpcbhdplaaGrP
namespace Go.Proofs.Ytliddjpcbhdplaa
open Go.RowKit Go.Shelf
attribute [local go_sem] Oper.semAt_some

def keysL (S : List Int) : List Lit := S.map (Lit.int .i64)
def setD (S : List Int) : DataW Unit := Maps.setOf (.agg []) (keysL S)
theorem setD_snoc (S : List Int) (x : Int) : setD (S ++ [x]) = (setD S).put (.int .i64 x) (.agg []) := by
  unfold setD keysL
  rw [List.map_append]
  exact Maps.setOf_snoc _ _ _
theorem isKey_int (x : Int) : WideAt.IsKeyLit (.int .i64 x) := by
  unfold WideAt.IsKeyLit
  trivial
theorem has_setD (S : List Int) (x : Int) : Maps.has (setD S) (.int .i64 x) = decide (x ∈ S) := by
  unfold setD keysL
  rw [Maps.has_setOf _ _ _ (fun y hy => by obtain ⟨z, _, rfl⟩ := List.mem_map.1 hy; exact isKey_int z)]
  rw [Bool.eq_iff_iff]
  simp only [List.any_map, List.any_eq_true, Function.comp, decide_eq_true_eq]
  constructor
  · rintro ⟨y, hy, hs⟩
    have := WideAt.sameKey_eq hs
    cases this
    exact hy
  · intro h
    exact ⟨x, h, WideAt.sameKey_self (isKey_int x)⟩
theorem zeroU (w : World) : (zeroValue 75).run Try.prog w = .ok (.agg #[]) w := by kernel_rfl
theorem infoI : (Try.prog.info? 3).map (fun i => (i.zero, i.size, i.bytes)) = some (some (.int .i64 0), 1, 8) := by kernel_rfl

/-- what the search keeps in memory -/
structure WI (w : World) (lv : Value) (B2 B4 Bm B5 B6 : Nat) (W : World) (S T : List Int) (v : Value) : Prop where
  kp : Kp w W
  b2 : Boxed W B2 22 lv
  b4 : ∃ r, Boxed W B4 4 (.bool r)
  b5 : Boxed W B5 76 (.map (some Bm))
  b6 : Boxed W B6 35 v
  own : Own W 3 w.heap.size v T
  map : W.ownsMap Try.prog 3 (unitElem (H := Unit)) Bm S.length (setD S)

/-- where they lie -/
structure Lie (w : World) (B2 B4 Bm B5 B6 : Nat) : Prop where
  h2 : w.heap.size ≤ B2
  h4 : B2 < B4
  hm : B4 < Bm
  h5 : Bm < B5
  h6 : B5 < B6

theorem WI.turn {w : World} {lv : Value} {B2 B4 Bm B5 B6 B : Nat} {W W' : World} {S T : List Int} {v : Value} (h : WI w lv B2 B4 Bm B5 B6 W S T v) {row : Option Nat} (hg : W.grownBy W' row)
    (hr : ∀ r, row = some r → B ≤ r ∧ ∃ o : Obj, W.heap[r]? = some o ∧ o.isCells = false) (hB : Bm < B) (hw : w.heap.size ≤ B) : WI w lv B2 B4 Bm B5 B6 W' S T v := by
  have ne : ∀ {b : Nat} {t : TypeId} {u : Value}, Boxed W b t u → some b ≠ row := by
    intro b t u hb e
    obtain ⟨_, o, ho, hc⟩ := hr b e.symm
    rw [show W.heap[b]? = _ from hb] at ho
    cases ho
    cases hc
  refine ⟨Kp.of_grown h.kp hg (fun k e => Nat.le_trans hw (hr k e).1), h.b2.kept hg (ne h.b2), ?_, h.b5.kept hg (ne h.b5), h.b6.kept hg (ne h.b6), h.own.grown hg ?_, h.map.kept hg (fun e => by have := (hr _ e.symm).1; omega)⟩
  · obtain ⟨r, hb⟩ := h.b4
    exact ⟨r, hb.kept hg (ne hb)⟩
  · cases hv : v.ownBlock with
    | none => exact .inl rfl
    | some k =>
      refine .inr (fun e => ?_)
      obtain ⟨_, c, t, f, hc⟩ := h.own.cells k hv
      obtain ⟨_, o, ho, ho'⟩ := hr k e.symm
      rw [hc] at ho
      cases ho
      cases ho'
theorem WI.grow {w : World} {lv : Value} {B2 B4 Bm B5 B6 : Nat} {W W' : World} {S T : List Int} {v : Value} (h : WI w lv B2 B4 Bm B5 B6 W S T v) (hg : Kp W W') : WI w lv B2 B4 Bm B5 B6 W' S T v := by
  have g : W.grownBy W' none := ⟨hg.os, hg.tape, hg.output, hg.size, fun k hk _ => hg.block k hk⟩
  obtain ⟨r, hb⟩ := h.b4
  exact ⟨h.kp.trans hg, h.b2.kept g (by simp), ⟨r, hb.kept g (by simp)⟩, h.b5.kept g (by simp), h.b6.kept g (by simp), h.own.keep hg, h.map.kept g (by simp)⟩

theorem WI.setT {w : World} {lv : Value} {B2 B4 Bm B5 B6 : Nat} {W : World} {S T T' : List Int} {v v' : Value} (h : WI w lv B2 B4 Bm B5 B6 W S T v) (hL : Lie w B2 B4 Bm B5 B6) (ho : Own W 3 w.heap.size v' T') : WI w lv B2 B4 Bm B5 B6 (W.setCell ⟨B6, 0, none⟩ v') S T' v' := by
  obtain ⟨r, hb⟩ := h.b4
  have h2 := hL.h2
  have h4 := hL.h4
  have h5 := hL.hm
  have h6 := hL.h5
  have h7 := hL.h6
  have hne := h.b6.not_row (show 35 ≠ 3 by decide) ho
  exact ⟨h.kp.set (show w.heap.size ≤ B6 by omega) (i := 0) _, h.b2.other (by omega) _, ⟨r, hb.other (by omega) _⟩, h.b5.other (by omega) _, h.b6.set _, ho.grown (grownBy_setCell' W B6 v') (.inr (fun e => hne e.symm)), h.map.setCell (show Bm ≠ B6 by omega) _⟩

theorem WI.ne_map {w : World} {lv : Value} {B2 B4 Bm B5 B6 : Nat} {W : World} {S T : List Int} {v : Value} (h : WI w lv B2 B4 Bm B5 B6 W S T v) : some Bm ≠ v.ownBlock := by
  intro e
  obtain ⟨_, c, t, f, hc⟩ := h.own.cells Bm e.symm
  obtain ⟨es, ck, hm, _⟩ := h.map
  rw [hc] at hm
  cases hm
theorem WI.mapped {w : World} {lv : Value} {B2 B4 Bm B5 B6 : Nat} {W W1 : World} {S T : List Int} {v : Value} {x : Int} (h : WI w lv B2 B4 Bm B5 B6 W S T v) (hL : Lie w B2 B4 Bm B5 B6)
    (ho : W1.ownsMap Try.prog 3 (unitElem (H := Unit)) Bm (S.length + 1) ((setD S).put (.int .i64 x) (.agg []))) (hg : W.grownBy W1 (some Bm)) : WI w lv B2 B4 Bm B5 B6 W1 (S ++ [x]) T v := by
  obtain ⟨r, hb⟩ := h.b4
  have h2 := hL.h2
  have h4 := hL.h4
  have h5 := hL.hm
  have h6 := hL.h5
  have h7 := hL.h6
  have ne : ∀ {b : Nat}, b ≠ Bm → some b ≠ some Bm := fun h e => h (by cases e; rfl)
  refine ⟨Kp.of_grown h.kp hg (fun k e => by cases e; omega), h.b2.kept hg (ne (by omega)), ⟨r, hb.kept hg (ne (by omega))⟩, h.b5.kept hg (ne (by omega)), h.b6.kept hg (ne (by omega)), h.own.grown hg (.inr (fun e => h.ne_map e.symm)), ?_⟩
  rw [List.length_append, setD_snoc]
  exact ho
theorem WI.rowed {w : World} {lv : Value} {B2 B4 Bm B5 B6 : Nat} {W W2 : World} {S T T' : List Int} {v v' : Value} (h : WI w lv B2 B4 Bm B5 B6 W S T v) (hL : Lie w B2 B4 Bm B5 B6)
    (hg : W.grownBy W2 v.ownBlock) (ho : Own W2 3 w.heap.size v' T') : Boxed W2 B6 35 v ∧ WI w lv B2 B4 Bm B5 B6 (W2.setCell ⟨B6, 0, none⟩ v') S T' v' := by
  obtain ⟨r, hb⟩ := h.b4
  have h2 := hL.h2
  have h4 := hL.h4
  have h5 := hL.hm
  have h6 := hL.h5
  have h7 := hL.h6
  have b2 := h.b2.kept hg (h.b2.not_row (by decide) h.own)
  have b4 := hb.kept hg (hb.not_row (by decide) h.own)
  have b5 := h.b5.kept hg (h.b5.not_row (by decide) h.own)
  have b6 := h.b6.kept hg (h.b6.not_row (by decide) h.own)
  have k2 : Kp w W2 := Kp.of_grown h.kp hg (fun k e => (h.own.cells k e).1)
  refine ⟨b6, k2.set (show w.heap.size ≤ B6 by omega) (i := 0) _, b2.other (by omega) _, ⟨r, b4.other (by omega) _⟩, b5.other (by omega) _, b6.set _, ho.grown (grownBy_setCell' W2 B6 v') (.inr (fun e => (b6.not_row (show 35 ≠ 3 by decide) ho) e.symm)), (h.map.kept hg h.ne_map).setCell (show Bm ≠ B6 by omega) _⟩

set_option maxRecDepth 100000 in
set_option maxHeartbeats 8000000 in
theorem whole_any (a : Option Addr) (c : Nat) (gs : List (List Nd)) (g : Int) (w : World) (h : Graphs w (.slice a gs.length c) gs) (hg : I64 g) :
    Calls Try.prog 20 #[.slice a gs.length c, .int .i64 g] w fun e w' => ∃ r, e = .returned (.bool r) ∧ (r = true ↔ WholeP gs g) ∧ Kp w w' := by
  have hroom := h.room
  have H := hide h
  have hwf := wf_I64 hg
  have law := Maps.int_keyed Try.underlying3
  clear h
  have hmm := @run_makeMap Try.prog
  refine (callsIn_wide (n := 3)).1 ?_
  refine callsIn_of_wp_marks Try.func20 rfl trivial ?_ rfl
  refine wpIn_wide.2 ?_
  simp only [Try.ntmps20, List.size_toArray, List.length_cons, List.length_nil, Nat.reduceAdd, Nat.reduceSub, Array.replicate_succ, Array.replicate_zero, List.push_toArray, List.append_toArray, List.nil_append, List.cons_append]
  by_cases hr : inRg gs g
  · have E : (decide (0 ≤ g) && decide (g < (gs.length : Int))) = true := by simp [hr.1, hr.2]
    have HR := hide hr
    clear hr
    go_wp2_with (first
      | (go_at_call 37; refine (within_any _ _ _).mono ?_; rw [E]; rintro e w' ⟨rfl, rfl⟩)
      | (refine wpList_insert_own _ rfl _ _ _ 76 rfl 3 75 law Try.underlying76 (unitElem (H := Unit)) _ 0 (.map []) rfl (by have := World.ownsMap_made ((w.alloc (.cells #[.slice a gs.length c] 22)).alloc (.cells #[.bool false] 4)) Try.prog 3 (unitElem (H := Unit)); simpa using this) (by decide) _ _ _ rfl rfl (Maps.keyOf_int_mk Try.underlying3 hwf) (.agg []) [] unitElem_mk ?_; intro w1 hown1 hgrow1))
    have hI0 : WI w (.slice a gs.length c) w.heap.size (w.heap.size + 1) (w.heap.size + 1 + 1) w1.heap.size (w1.heap.size + 1 + 1) (((w1.alloc (.cells #[.map (some (w.heap.size + 1 + 1))] 76)).alloc (.cells #[.int .i64 g] 3)).alloc (.cells #[.slice (some ⟨w1.heap.size + 1, 0, none⟩) 1 1] 35)) [g] [g] (.slice (some ⟨w1.heap.size + 1, 0, none⟩) 1 1) := by
      have k1 : Kp w w1 := Kp.of_grown (((Kp.alloc w _).trans (Kp.alloc _ _)).trans (Kp.alloc _ _)) hgrow1 (fun k e => by cases e; omega)
      have b2 : Boxed w1 w.heap.size 22 (.slice a gs.length c) := (((Boxed.new w _ _).alloc _).alloc _).kept hgrow1 (by simp; omega)
      have b4 : Boxed w1 (w.heap.size + 1) 4 (.bool false) := by
        have := (Boxed.new (w.alloc (.cells #[.slice a gs.length c] 22)) 4 (.bool false)).alloc (.map #[] 0)
        rw [World.size_alloc] at this
        exact this.kept hgrow1 (by simp)
      refine ⟨k1.trans (((Kp.alloc _ _).trans (Kp.alloc _ _)).trans (Kp.alloc _ _)), ((b2.alloc _).alloc _).alloc _, ⟨false, ((b4.alloc _).alloc _).alloc _⟩, ((Boxed.new w1 _ _).alloc _).alloc _, ?_, ?_, ((hown1.alloc _).alloc _).alloc _⟩
      · have := Boxed.new ((w1.alloc (.cells #[.map (some (w.heap.size + 1 + 1))] 76)).alloc (.cells #[.int .i64 g] 3)) 35 (.slice (some ⟨w1.heap.size + 1, 0, none⟩) 1 1)
        rw [World.size_alloc, World.size_alloc] at this
        exact this
      · exact (Own.lit (w1.alloc (.cells #[.map (some (w.heap.size + 1 + 1))] 76)) 3 [g] #[.int .i64 g] (w1.heap.size + 1) 1 w.heap.size rfl (by simp) rfl (by have := k1.size; simp; omega) (by decide)).keep (Kp.alloc _ _)
    have hL : Lie w w.heap.size (w.heap.size + 1) (w.heap.size + 1 + 1) w1.heap.size (w1.heap.size + 1 + 1) := by
      have := hgrow1.size
      simp at this
      exact ⟨Nat.le_refl _, by omega, by omega, by omega, by omega⟩
    clear hown1 hgrow1
    generalize ((w1.alloc (.cells #[.map (some (w.heap.size + 1 + 1))] 76)).alloc (.cells #[.int .i64 g] 3)).alloc (.cells #[.slice (some ⟨w1.heap.size + 1, 0, none⟩) 1 1] 35) = W5 at *
    generalize Value.slice (some ⟨w1.heap.size + 1, 0, none⟩) 1 1 = s22 at *
    obtain ⟨B4, hB4⟩ : ∃ B4, B4 = w.heap.size + 1 := ⟨_, rfl⟩
    obtain ⟨Bm, hBm⟩ : ∃ Bm, Bm = w.heap.size + 1 + 1 := ⟨_, rfl⟩
    rw [← hBm, ← hB4] at hI0 hL ⊢
    generalize w1.heap.size + 1 + 1 = B6 at *
    generalize w1.heap.size = B5 at *
    clear hB4 hBm
    refine wp_loop_ghost_k (fun m a' w' => ∃ (u7 u8 u23 u24 u25 u26 u27 u28 u29 u30 u31 u32 u33 u34 u35 u36 u37 u38 u39 u40 : Value) (ds : List Deferred) (S T : List Int) (v : Value), a' = { tmps := (.slice a gs.length c :: .int .i64 g :: .pointer (some ⟨w.heap.size, 0, none⟩) :: undef :: .pointer (some ⟨B4, 0, none⟩) :: .pointer (some ⟨B5, 0, none⟩) :: .pointer (some ⟨B6, 0, none⟩) :: u7 :: u8 :: undef :: undef :: undef :: .int .i64 g :: .slice a gs.length c :: .int .i64 (gs.length : Int) :: .bool true :: .bool false :: .map (some Bm) :: .int .i64 g :: .agg #[] :: .map (some Bm) :: .int .i64 g :: s22 :: u23 :: u24 :: u25 :: u26 :: u27 :: u28 :: u29 :: u30 :: u31 :: u32 :: u33 :: u34 :: u35 :: u36 :: u37 :: u38 :: u39 :: u40 :: undef :: undef :: undef :: undef :: undef :: undef :: undef :: undef :: undef :: undef :: undef :: undef :: undef :: undef :: undef :: undef :: undef :: undef :: undef :: undef :: undef :: []).toArray, defers := ds } ∧ WI w (.slice a gs.length c) w.heap.size B4 Bm B5 B6 w' S T v ∧ SeekAll gs g S T ∧ Marks w.heap.size w' ds ∧ 2 * (gs.length - S.length) + T.length ≤ m ∧ m ≤ 2 * gs.length) (2 * (gs.length - 1) + 1) ?_ ?_
    · exact ⟨_, _, _, _, _, _, _, _, _, _, _, _, _, _, _, _, _, _, _, _, [], [g], [g], s22, rfl, hI0, SeekAll.first (unhide HR), trivial, by simp, by have := (unhide HR).1; have := (unhide HR).2; omega⟩
    · rintro m a' W ⟨u7, u8, u23, u24, u25, u26, u27, u28, u29, u30, u31, u32, u33, u34, u35, u36, u37, u38, u39, u40, ds, S, T, v, rfl, hI, hS, hM, hm, hm2⟩ J K hJ hK
      rcases List.eq_nil_or_concat T with rfl | ⟨T', x, hT⟩
      · have HF := hide hS.whole
        obtain ⟨r4, b4⟩ := hI.b4
        have f4 := b4.frozen
        have c4 := b4.cell
        have c6 := hI.b6.cell
        obtain ⟨bv, kv, hv⟩ : ∃ b k, v = .slice b 0 k := by
          rcases hI.own.2 with ⟨h1, _⟩ | ⟨q, cap, cur, h1, _⟩
          · exact ⟨_, _, h1⟩
          · exact ⟨_, _, h1⟩
        subst hv
        have KI := hide hI.kp
        have hMM := hide (hM.keep (KD.others (KeepsOthers.setCell W ⟨B4, 0, none⟩ (.bool true))))
        have h4 := hL.h4
        have cz := hide (b4.set (.bool true)).cell
        have kz := hide (Kp.set hI.kp (show w.heap.size ≤ B4 by omega) (i := 0) (.bool true))
        clear hI hS hM hm b4
        go_wp2
        refine leaves_marks (fun W' => W'.cell? ⟨B4, 0, none⟩ = some (.bool true) ∧ Kp w W') (fun W' r hr hd hj => ⟨cell_putObj hj.1 hd, kp_putObj hj.2 hr⟩) (fun W' hj => ⟨.bool true, ?_, true, rfl, ⟨fun _ => unhide HF, fun _ => rfl⟩, hj.2⟩) ds _ (unhide hMM) ⟨unhide cz, unhide kz⟩
        have hc := hj.1
        simp [results, Try.f20, go_sem, hc]
      · rw [List.concat_eq_append] at hT
        subst hT
        have hat := hS.pop
        have hxr := hat.inr x hat.here
        obtain ⟨i, rfl⟩ : ∃ i : Nat, x = (i : Int) := ⟨x.toNat, by have := hxr.1; omega⟩
        have hi : i < gs.length := by have := hxr.2; omega
        have hiI : (i : Int) < (gs.length : Int) := hxr.2
        obtain ⟨gb, cap, rfl, cl, hown', hcap, hgb⟩ := hI.own.last
        obtain ⟨b, off, a', c', hav, hb, c7', hnd⟩ := (unhide H).one (Kp.refl w) hi
        have hns : Hid (tg gs (i : Int) = callsL (gs.getD i [])) := rfl
        generalize gs.getD i [] = ns at hns c7' hnd
        have c7 := hI.kp.cellT c7'
        clear c7'
        subst hav
        have ht : T'.length ≤ 2000000 := by simp at hm; omega
        have hmS := hide hm
        have hMS := hide hM
        have hIS := hide hI
        have hatS := hide hat
        have hownS := hide hown'
        have hndS := hide hnd
        have c6 := hI.b6.cell
        have f6 := hI.b6.frozen
        have c2 := hI.b2.cell
        have q1 : ¬ w.heap.size = B6 := by have := hL.h4; have := hL.hm; have := hL.h5; have := hL.h6; omega
        have q2 : ¬ b = B6 := by have := hL.h4; have := hL.hm; have := hL.h5; have := hL.h6; omega
        generalize T'.length = t at *
        clear hm hS hI hM hat hown' hnd hxr
        go_wp2_with (go_at_call 38; refine (calls_any _ _ _ _).mono ?_; rintro e w' ⟨rfl, rfl⟩)
        have hI2 := (unhide hIS).setT hL (unhide hownS)
        have hkd2 : KD W (W.setCell ⟨B6, 0, none⟩ (.slice (some ⟨gb, 0, none⟩) t cap)) := KD.others (KeepsOthers.setCell _ _ _)
        have hz2 : (W.setCell ⟨B6, 0, none⟩ (.slice (some ⟨gb, 0, none⟩) t cap)).heap.size = W.heap.size := by simp
        generalize W.setCell ⟨B6, 0, none⟩ (.slice (some ⟨gb, 0, none⟩) t cap) = W2 at *
        have hI3 := hI2.grow (Kp.alloc W2 (.cells #[.slice a' ns.length c'] 34))
        have hbm : Bm < W2.heap.size := hI2.map.lt
        have hw2 : w.heap.size ≤ W2.heap.size := hI2.kp.size
        refine (wpIn_wide (n := 3)).1 ?_
        refine wpIn_rangeFunc_ownG (F := Fence.wide) (n := 3) rfl (by omega) (gf := 51) (lb := #[.pointer (some ⟨W.heap.size, 0, none⟩)]) rfl trivial (enters_of Try.func51 (by kernel_rfl) rfl)
          (calls_stops 2 (by omega) w W2 a' c' ns (unhide hndS) hI2.kp W.heap.size hz2.symm) belowK_t (belowK_b (by simp; omega)) (Below.refl _ _) (fun _ => rfl)
          (fun pre W' => (∃ S T v, WI w (.slice (some ⟨b, off, none⟩) gs.length c) w.heap.size B4 Bm B5 B6 W' S T v ∧ SeekAt gs g (i : Int) (pre.map Subtype.val) S T ∧ 2 * (gs.length - S.length) + T.length + 1 ≤ m) ∧ KD (W2.alloc (.cells #[.slice a' ns.length c'] 34)) W')
          (fun cd _ W' => (cd = .ret ∧ ¬ WholeP gs g ∧ W'.cell? ⟨B4, 0, none⟩ = some (.bool false) ∧ Kp w W') ∧ KD (W2.alloc (.cells #[.slice a' ns.length c'] 34)) W')
          (OwnFrom.and (fun pre A B row hs hg hr => by obtain ⟨S, T, v, h1, h2, h3⟩ := hs; exact ⟨S, T, v, h1.turn hg hr (by simp; omega) (by simp; omega), h2, h3⟩) (ownFrom_kd (Nat.le_refl _)))
          (fun cd => OwnFrom.and (fun pre A B row hs hg hr => ⟨hs.1, hs.2.1, cell_kept hs.2.2.1 hg (fun r e => (hr r e).2), Kp.of_grown hs.2.2.2 hg (fun k e => by have := (hr k e).1; simp at this; omega)⟩) (ownFrom_kd (Nat.le_refl _)))
          ⟨⟨S, T', _, hI3, unhide hatS, by have := unhide hmS; simp at this; omega⟩, KD.refl _⟩
          (fun x => { tmps := (.slice (some ⟨b, off, none⟩) gs.length c :: .int .i64 g :: .pointer (some ⟨w.heap.size, 0, none⟩) :: undef :: .pointer (some ⟨B4, 0, none⟩) :: .pointer (some ⟨B5, 0, none⟩) :: .pointer (some ⟨B6, 0, none⟩) :: .int .i64 (t : Int) :: .int .i64 (i : Int) :: .int .i64 x.1 :: undef :: undef :: .int .i64 g :: .slice (some ⟨b, off, none⟩) gs.length c :: .int .i64 (gs.length : Int) :: .bool true :: .bool false :: .map (some Bm) :: .int .i64 g :: .agg #[] :: .map (some Bm) :: .int .i64 g :: s22 :: .slice (some ⟨gb, 0, none⟩) (t + 1) cap :: .int .i64 ((t : Int) + 1) :: .bool true :: .slice (some ⟨gb, 0, none⟩) (t + 1) cap :: .int .i64 ((t : Int) + 1) :: .int .i64 (t : Int) :: .slice (some ⟨gb, 0, none⟩) (t + 1) cap :: .int .i64 (t : Int) :: .pointer (some ⟨gb, t, none⟩) :: .int .i64 (i : Int) :: .slice (some ⟨gb, 0, none⟩) (t + 1) cap :: .int .i64 (t : Int) :: .slice (some ⟨gb, 0, none⟩) t cap :: .slice (some ⟨b, off, none⟩) gs.length c :: .int .i64 (i : Int) :: .pointer (some ⟨b, off + i, none⟩) :: Value.agg #[Value.slice a' ns.length c'] :: .func (.func 51) #[] #[.pointer (some ⟨W.heap.size, 0, none⟩)] :: .int .i64 x.1 :: undef :: undef :: undef :: undef :: undef :: undef :: undef :: undef :: undef :: undef :: undef :: undef :: undef :: undef :: undef :: undef :: undef :: undef :: undef :: undef :: []).toArray, defers := [] }) ?assign ?body ?done ?stop
        case assign =>
          intro l x W K hK
          gi_wp2
          exact hK
        case body =>
          rintro l pre ⟨x, hx, hxw⟩ W' ⟨⟨S1, T1, v1, hI1, hS1, hm1⟩, hkd1⟩ hlen
          dsimp only
          obtain ⟨bv, kv, rfl⟩ := hI1.own.form
          have hkey := Maps.keyOf_int_mk Try.underlying3 hxw
          have hxt := hide hx
          have hle := hS1.le
          have e4 := hL.h4
          have e5 := hL.hm
          have e6 := hL.h5
          have e7 := hL.h6
          have z1 := hI1.kp.size
          have l2 := hI1.b2.lt
          have l5 := hI1.b5.lt
          have l6 := hI1.b6.lt
          clear hI2 hI3 hI0 hIS hownS hatS hmS c2 c6 c7 cl f6 hK hJ hlen H hndS
          by_cases hr : inRg gs x
          · have E : (decide (0 ≤ x) && decide (x < (gs.length : Int))) = true := by simp [hr.1, hr.2]
            have c2 := hI1.b2.cell
            have c5 := hI1.b5.cell
            have c6 := hI1.b6.cell
            have f6 := hI1.b6.frozen
            have hmap := hI1.map
            have hrS := hide hr
            clear hr
            by_cases hxS : x ∈ S1
            · have hhas : Maps.has (setD S1) (.int .i64 x) = true := by rw [has_setD]; exact decide_eq_true hxS
              have hxS' := hide hxS
              clear hxS
              have hI1' := hide hI1
              have hS1' := hide hS1
              clear hI1 hS1
              gi_wp2_with (first
                | (refine ⟨trivial, ?_⟩; gi_at_call 37; refine (CallsIn.inRound l (callsIn_wide.2 (within_any _ _ _))).mono ?_; rw [E]; rintro e w9 ⟨rfl, hw9⟩; obtain rfl := hw9.symm)
                | (gi_at_lookup; refine wpListIn_lookup_own_unit _ rfl _ _ 76 rfl 3 75 law Try.underlying76 (zeroU _) Bm S1.length _ rfl hmap _ _ rfl hkey ?_; rw [hhas]))
              exact ⟨(St.kp (B := (W2.alloc (.cells #[.slice a' ns.length c'] 34)).heap.size) z1 (Kp.alloc W' _)).from_, (St.kp (B := 0) z1 (Kp.alloc W' _)).below, ⟨S1, T1, _, (unhide hI1').grow (Kp.alloc W' _), by rw [List.map_append]; exact (unhide hS1').old (unhide hxS'), hm1⟩, hkd1.trans (KD.kp (Kp.alloc W' _))⟩
            · obtain ⟨i0, hin, hz0, hz1, hz2⟩ := info_parts infoI
              have hT1 : T1.length ≤ 2000000 := by omega
              have hhas : Maps.has (setD S1) (.int .i64 x) = false := by rw [has_setD]; exact decide_eq_false hxS
              have hxS' := hide hxS
              clear hxS
              have hI1' := hide hI1
              have hS1' := hide hS1
              clear hI1 hS1
              gi_wp2_with (first
                | (refine ⟨trivial, ?_⟩; gi_at_call 37; refine (CallsIn.inRound l (callsIn_wide.2 (within_any _ _ _))).mono ?_; rw [E]; rintro e w9 ⟨rfl, hw9⟩; obtain rfl := hw9.symm)
                | (gi_at_lookup; refine wpListIn_lookup_own_unit _ rfl _ _ 76 rfl 3 75 law Try.underlying76 (zeroU _) Bm S1.length _ rfl hmap _ _ rfl hkey ?_; rw [hhas])
                | (gi_at_mapUpdate; refine wpListIn_mapUpdate_own _ rfl _ _ _ 76 rfl 3 75 law Try.underlying76 _ Bm S1.length _ rfl (hmap.alloc _) (by unfold maxLen; omega) _ _ _ rfl rfl hkey (.agg []) [] unitElem_mk ?_; intro u1 hown1 hgrow1; have hIa := hide (((unhide hI1').grow (Kp.alloc W' _)).mapped hL hown1 hgrow1); have c6a := (unhide hIa).b6.cell; have f6a := (unhide hIa).b6.frozen; have l6a := (unhide hIa).b6.lt; have zga := hgrow1.size)
                | (gi_at_builtin; refine wpListIn_append_own _ rfl _ _ 35 rfl w.heap.size 3 i0 (.int .i64 0) 1 8 Try.underlying35 hin hz0 hz1 hz2 rfl (by decide) (.slice bv T1.length kv) T1.length (T1.map (Value.int .i64)) rfl (((unhide hIa).own).keep (Kp.alloc _ _)) ⟨u1.heap.size, 0, none⟩ 1 1 [.int .i64 x] rfl rfl (cell_one_new _ _ _) (by simp [Value.oneCell']) (by unfold maxLen; omega) (by omega) (by simp at zga; simp; omega) ?_; intro v' u2 hown2 hgrow2 hnil; obtain ⟨g', cap', rfl⟩ := ownsRow_succ hown2; have hIb := hide (((unhide hIa).grow (Kp.alloc _ _)).rowed hL hgrow2 (T' := T1 ++ [x]) (by unfold Own; rw [List.length_append, List.map_append]; exact hown2)); have c6b := (unhide hIb).1.cell; have f6b := (unhide hIb).1.frozen))
              have hSn := (unhide hS1').new (y := x) (by rw [unhide hns]; exact unhide hxt) (unhide hrS) (unhide hxS')
              have hSl := hSn.le
              have hown1' : ∃ es ck, (W'.alloc (.cells #[] 75)).heap[Bm]? = some (.map es ck) := by
                obtain ⟨es, ck, hm, _⟩ := hmap.alloc (.cells #[] 75)
                exact ⟨es, ck, hm⟩
              have st := ((((St.kp (B := (W2.alloc (.cells #[.slice a' ns.length c'] 34)).heap.size) z1 (Kp.alloc W' _)).trans (St.map hgrow1 (show w.heap.size ≤ Bm by omega) (by simp; omega) (by simp; omega) hown1')).trans
                (St.kp (by simp at zga; omega) (Kp.alloc u1 _))).trans (St.row (v := .slice bv T1.length kv) hgrow2 (by simp at zga; simp; omega) (((unhide hIa).grow (Kp.alloc _ _)).own.cells))).trans (St.set u2 (show w.heap.size ≤ B6 by omega) (.slice (some ⟨g', 0, none⟩) (T1.length + 1) cap'))
              exact ⟨st.from_, st.below, ⟨S1 ++ [x], T1 ++ [x], _, (unhide hIb).2, by rw [List.map_append]; exact hSn, by simp at hSl; simp; omega⟩, hkd1.trans st.kd⟩
          · have E : (decide (0 ≤ x) && decide (x < (gs.length : Int))) = false := by
              have hr' := hr
              unfold inRg at hr'
              by_cases h0 : 0 ≤ x
              · rw [decide_eq_true h0, decide_eq_false (fun h => hr' ⟨h0, h⟩)]; rfl
              · rw [decide_eq_false h0]; rfl
            have HN := hide (hS1.bad (by rw [unhide hns]; exact unhide hxt) hr)
            clear hr
            obtain ⟨r4, b4⟩ := hI1.b4
            have c2 := hI1.b2.cell
            have c4 := b4.cell
            have f4 := b4.frozen
            gi_wp2_with (refine ⟨trivial, ?_⟩; gi_at_call 37; refine (CallsIn.inRound l (callsIn_wide.2 (within_any _ _ _))).mono ?_; rw [E]; rintro e w9 ⟨rfl, hw9⟩; obtain rfl := hw9.symm)
            exact ⟨(St.set (B := (W2.alloc (.cells #[.slice a' ns.length c'] 34)).heap.size) (n₀ := w.heap.size) W' (show w.heap.size ≤ B4 by omega) (.bool false)).from_, ⟨rfl, unhide HN, (b4.set _).cell, hI1.kp.set (show w.heap.size ≤ B4 by omega) (i := 0) _⟩, hkd1.trans (KD.others (KeepsOthers.setCell _ _ _))⟩
        case done =>
          rintro D ys W' hD hys ⟨⟨S1, T1, v1, hI1, hS1, hm1⟩, hkd1⟩ hDD
          have hall := hide (hS1.all (by rw [unhide hns]; exact hys))
          have hMp := hide ((unhide hMS).push (hkd2.trans ((KD.kp (Kp.alloc W2 _)).trans hkd1)) (by simp at hD; omega) (show W.heap.size ≤ D by simp at hD; omega) hDD)
          have hI1' := hide hI1
          clear hI1 hS1 hI2 hI3 hI0 hIS hownS hatS hmS c2 c6 c7 cl f6
          go_wp2
          exact Handed.intro (m - 1) (by omega) (hJ _ _ _ ⟨_, _, _, _, _, _, _, _, _, _, _, _, _, _, _, _, _, _, _, _, _, S1, T1, v1, rfl, unhide hI1', unhide hall, unhide hMp, by omega, by omega⟩)
        case stop =>
          rintro D cd pre W' hD hpre ⟨⟨rfl, hnw, hc4, hk4⟩, hkd1⟩ hDD
          have hMp := hide ((unhide hMS).push (hkd2.trans ((KD.kp (Kp.alloc W2 _)).trans hkd1)) (by simp at hD; omega) (show W.heap.size ≤ D by simp at hD; omega) hDD)
          have hc4' := hide hc4
          have hk4' := hide hk4
          have hnw' := hide hnw
          clear hI2 hI3 hI0 hIS hownS hatS hmS c2 c6 c7 cl f6 hc4 hk4 hnw
          refine (wpIn_wide (n := 3)).2 ?_
          go_wp2
          refine leaves_marks (fun W' => W'.cell? ⟨B4, 0, none⟩ = some (.bool false) ∧ Kp w W') (fun W' r hr hd hj => ⟨cell_putObj hj.1 hd, kp_putObj hj.2 hr⟩) (fun W' hj => ⟨.bool false, ?_, false, rfl, ⟨fun h => (by cases h), fun h => absurd h (unhide hnw')⟩, hj.2⟩) _ _ (unhide hMp) ⟨unhide hc4', unhide hk4'⟩
          have hc := hj.1
          simp [results, Try.f20, go_sem, hc]
  · have E : (decide (0 ≤ g) && decide (g < (gs.length : Int))) = false := by
      unfold inRg at hr
      by_cases h0 : 0 ≤ g
      · rw [decide_eq_true h0, decide_eq_false (fun h => hr ⟨h0, h⟩)]; rfl
      · rw [decide_eq_false h0]; rfl
    have HR := hide hr
    clear hr
    go_wp2_with (go_at_call 37; refine (within_any _ _ _).mono ?_; rw [E]; rintro e w' ⟨rfl, rfl⟩)
    refine ⟨.bool false, ?_, false, rfl, ⟨fun h => (by cases h), fun h => absurd h (not_whole (unhide HR))⟩, ((Kp.alloc _ _).trans (Kp.alloc _ _))⟩
    simp [results, Try.f20, go_sem]

end Go.Proofs.Ytliddjpcbhdplaa
