/- Texts of our own that others begin with, in one: TenH, TenI, Step, TenJ, StepB, Hnd. -/
import Derived.Test.YtefohemihiiceaaGb
import Derived.Laws.BitsAllLaws
import Derived.Laws.CopyOwn
import Derived.Deep.RegionLaw
import Derived.Deep.DeepCutAuto
import Derived.Deep.RegionHeldLaw
import Derived.Test.YtefohemihiiceaaGa

/- Contracts of repeats: a number as often as asked. -/
namespace Go.Proofs.Ytefohemihiiceaa
open Go.RowKit

theorem Kx.trans' {B : Nat} {a b b' c : World} (h : Kx B a b) (k : Kx B b' c) (e : b' = b.drew := by rfl) : Kx B a c := by
  subst e
  exact ⟨k.os.trans h.os, k.tape.trans h.tape, k.output.trans h.output, Nat.le_trans h.size k.size, fun i hi hne => (k.block i (Nat.lt_of_lt_of_le hi h.size) hne).trans (h.block i hi hne)⟩

theorem Try.infoFlt : (Try.prog.info? 71).map (fun i => (i.zero, i.size, i.bytes)) = some (some (.float .f64 0), 1, 8) := by kernel_rfl
theorem Try.sizeFlt : (Try.prog.info? 71).map (·.size) = some 1 := by kernel_rfl

theorem mk_flts (n : Nat) (hn : n * 8 ≤ 140737488351232) (w : World) :
    (Instr.makeSlice 42 (.int .i64 n) (.int .i64 n)).run Try.prog w = .ok (.slice (some ⟨w.heap.size, 0, none⟩) n n) (w.alloc (.cells (madeCells #[.float .f64 0] n) 71)) := by
  obtain ⟨i0, hi, hz0, hz1, hz2⟩ := info_parts Try.infoFlt
  have h := run_make (P := Try.prog) w 42 71 i0 (.float .f64 0) Try.underlying42 hi hz0 .i64 .i64 n n (by omega) (by omega) (by rw [hz2]; omega) (by omega)
  rw [hz1] at h
  simpa [Value.cells] using h

/-- k of n numbers are x, the others still nought -/
def fillN (n k x : Nat) : List Nat := List.replicate k x ++ List.replicate (n - k) 0
theorem fillN_zero (n x : Nat) : fillN n 0 x = List.replicate n 0 := by simp [fillN]
theorem fillN_all (n x : Nat) : fillN n n x = List.replicate n x := by simp [fillN]
theorem fillN_length {n k : Nat} (x : Nat) (h : k ≤ n) : (fillN n k x).length = n := by simp [fillN]; omega
theorem fillN_getD {n k x j : Nat} (h : j < k) : (fillN n k x).getD j 0 = x := by
  unfold fillN
  rw [List.getD_eq_getElem?_getD, List.getElem?_append_left (by simpa using h), List.getElem?_replicate, if_pos h]
  rfl
theorem fillN_splice {n k m : Nat} (x : Nat) (h : k + m ≤ n) : splice ((fillN n k x).map (Value.float .f64)) k ((List.replicate m x).map (Value.float .f64)) = (fillN n (k + m) x).map (Value.float .f64) := by
  have e : splice ((fillN n k x).map (Value.float .f64)) k ((List.replicate m x).map (Value.float .f64)) = ((fillN n k x).take k ++ (List.replicate m x ++ (fillN n k x).drop (k + m))).map (Value.float .f64) := by
    simp [splice]
  rw [e]
  congr 1
  unfold fillN
  rw [List.take_append_of_le_length (by simp), List.take_of_length_le (by simp), List.drop_append, List.drop_of_length_le (by simp), List.nil_append, List.length_replicate, List.drop_replicate, ← List.append_assoc, List.replicate_append_replicate]
  congr 2
  omega

/-- 'copy' of m numbers x to the place k of the row that is being filled -/
theorem copy_fill (w : World) (G n k m x dl dc sl sc : Nat) (ad : Addr) (h : BlkF w 71 G (fillN n k x)) (hm : m = Nat.min sl dl) (hle : k + m ≤ n) (hkn : k ≤ n)
    (hsrc : ∀ j, j < m → w.cell? (ad.add j) = some (.float .f64 x)) :
    ∃ W, Sem.run Try.prog (Builtin.copy_ #[42, 42] 3 #[.slice (some ⟨G, k, none⟩) dl dc, .slice (some ad) sl sc]) w = .ok (.int .i64 m) W ∧ BlkF W 71 G (fillN n (k + m) x) ∧ Kx G w W := by
  have hrun := run_copy_row (P := Try.prog) w 42 42 3 71 G k dl dc ad sl sc ((fillN n k x).map (Value.float .f64)).toArray 71 ((List.replicate m x).map (Value.float .f64)) Try.underlying42 Try.sizeFlt h (by simpa using hm)
    (by
      intro j v hj
      have hj' : j < m := by have := (List.getElem?_eq_some_iff.1 hj).1; simpa using this
      have : v = .float .f64 x := by simp [hj'] at hj; exact hj.symm
      rw [this]
      exact hsrc j hj') (by simp [fillN]; omega) (flts_oneCell _)
  refine ⟨_, by simpa [goInt] using hrun, ?_, ?_⟩
  · have := setRow_heap w G _ ((List.take k ((fillN n k x).map (Value.float .f64)).toArray.toList ++ (List.replicate m x).map (Value.float .f64) ++ List.drop (k + ((List.replicate m x).map (Value.float .f64)).length) ((fillN n k x).map (Value.float .f64)).toArray.toList).toArray) 71 _ h
    unfold BlkF
    rw [← fillN_splice x hle]
    simpa [splice] using this
  · exact ⟨rfl, rfl, rfl, by simp [World.setRow], fun i _ hne => setRow_other w G i _ (fun e => hne (by rw [e]))⟩

end Go.Proofs.Ytefohemihiiceaa

/- Contracts of New and Of. -/
namespace Go.Proofs.Ytefohemihiiceaa
open Go.RowKit

/-- a pair and a number handed back -/
theorem lit_one (w : World) (x : Nat) (hx : W64 x) : Flts (w.alloc (.cells #[.float .f64 x] 71)) (.slice (some ⟨w.heap.size, 0, none⟩) 1 1) [x] :=
  lit_flts w 71 [x] #[.float .f64 x] w.heap.size 1 rfl rfl rfl (by intro y hy; rw [List.mem_singleton.1 hy]; exact hx) (by decide)

theorem BlkF.g {w : World} {e : TypeId} {G n : Nat} {ys : List Nat} (h : BlkF w e G ys) (hn : ys.length = n) (hm : n ≤ 1000000) : OwnG w e G n n ys :=
  ⟨hn, ⟨Nat.le_refl _, by unfold maxLen; omega⟩, _, h, by simpa using hn, by simp [← hn, List.take_of_length_le]⟩

end Go.Proofs.Ytefohemihiiceaa

/- Steps of regions that draw their order: an append to nothing, a new row of numbers; no program in it. -/
namespace Go.Proofs.Ytefohemihiiceaa
open Go.RowKit

theorem run_append_ints {P : Program} (w : World) (base : Nat) (t ty e : TypeId) (hin : (P.info? e).map (fun i => (i.zero, i.size, i.bytes)) = some (some (.int .i64 0), 1, 8)) (ht : P.underlying t = some (.slice e))
    (v u : Value) (xs ys : List Int) (hv : Own w e base v xs) (hu : Ints w u ys) (hroom : (xs.length + ys.length) * 8 ≤ 140737488351232) (hbase : base ≤ w.heap.size) :
    ∃ v' w', (Builtin.append_ #[t, t] ty #[v, u]).run P w = .ok v' w' ∧ Own w' e base v' (xs ++ ys) ∧ w.grownBy w' v.ownBlock := by
  obtain ⟨i0, hi, hz0, hz1, hz2⟩ := info_parts hin
  obtain ⟨ao, cap, hval, hcells⟩ := hu.val
  subst hval
  match ao, hcells, hu with
  | none, _, hu =>
    obtain ⟨h1, h2⟩ := hu.nonil _ _ rfl
    have : ys = [] := List.eq_nil_of_length_eq_zero h1
    subst this
    subst h2
    have hrun := run_append_owned_none (P := P) w base t ty e i0 1 ht hi v xs.length (xs.map (Value.int .i64)) hv
    exact ⟨v, w, hrun, by rw [List.append_nil]; exact hv, World.grownBy.refl _ _⟩
  | some ad, hcells, hu =>
    have hc : ∀ j u, (ys.map (Value.int .i64))[j]? = some u → w.cell? (ad.add j) = some u := by
      intro j u hj
      have hjl : j < ys.length := by
        have := (List.getElem?_eq_some_iff.1 hj).1
        simpa using this
      obtain ⟨b, off, e1, _, hc⟩ := hcells (by omega)
      cases e1
      have := hc j hjl
      rw [List.getElem?_map] at hj
      have e2 : ys[j]? = some (ys.getD j 0) := by simp [hjl]
      rw [e2] at hj
      cases hj
      by_cases h0 : j = 0
      · subst h0; simpa [Addr.add] using this
      · simpa [Addr.add, h0] using this
    obtain ⟨v', w', hrun, ho, hg, _⟩ := run_append_own (P := P) w base t ty e i0 (.int .i64 0) 1 8 ht hi hz0 hz1 hz2 rfl (by decide) v xs.length (xs.map (Value.int .i64)) hv ad ys.length cap (ys.map (Value.int .i64)) (by simp) hc (ints_oneCell _ _) (by unfold maxLen; omega) (by omega) hbase
    refine ⟨v', w', hrun, ?_, hg⟩
    unfold Own
    rw [List.length_append, List.map_append]
    exact ho

/-- 'append(nil, s...)' as one step of a region that draws -/
theorem step_append_nil {P : Program} {ops : Array Oper} {o : Oper} {a : Act} {w : World} {K : Act → World → Prop} {Q : Exit → Act → World → Prop} {E : Prop}
    (hg : o.guard = none) (s x : Operand) (t : TypeId) (hop : o.op = Op.call { callee := Callee.builtin Builtin.append, args := #[s, x], argTypes := #[t, t] })
    (e : TypeId) (hin : (P.info? e).map (fun i => (i.zero, i.size, i.bytes)) = some (some (.int .i64 0), 1, 8)) (ht : P.underlying t = some (.slice e))
    (u : Value) (ys : List Int) (hs : a.eval s = .slice none 0 0) (hx : a.eval x = u) (w0 : World) (kp : Kp w0 w) (hu : Ints w0 u ys) (hroom : ys.length ≤ 1000000)
    (h : ∀ b n c w', Hid (Own w' e w0.heap.size (.slice b n c) ys) → Hid (Kp w w') → Hid (Kp w0 w') → (∀ q : Nat, q < w.heap.size → q < w'.heap.size) → (∀ q : Nat, q < w.heap.size → ¬ q = w'.heap.size) → (∀ p : Addr, p.block < w.heap.size → w'.cell? p = w.cell? p) → (∀ p : Addr, p.block < w.heap.size → w'.frozen? p = w.frozen? p) → K (a.put o.dst (.slice b n c)) w') :
    if Region.wanted o (yielded ops a.tmps) = true then Oper.wp P o a w K Q else E := by
  have hw : Region.wanted o (yielded ops a.tmps) = true := by simp [Region.wanted, hg]
  rw [if_pos hw]
  obtain ⟨v', w', hrun, h1, h2⟩ := run_append_ints (P := P) w w.heap.size t o.type e hin ht (.slice none 0 0) u [] ys (Own.nil _ _ _) (hu.keep kp) (by simp; omega) (Nat.le_refl _)
  have k2 : Kp w w' := (Kp.refl w).of_grown h2 (fun k hk => (Own.nil w e w.heap.size).block k hk)
  rw [List.nil_append] at h1
  obtain ⟨b, n, c, rfl⟩ := h1.sl
  unfold Oper.wp
  simp [execOp, hop, resolve, invoke, builtin, hs, hx, hrun, Result.andThen]
  exact h b n c w' (h1.weak kp.size) k2 (kp.trans k2) (fun q hq => Nat.lt_of_lt_of_le hq k2.size) (fun q hq => by have := k2.size; omega) (fun p hp => Below.cell k2 hp) (fun p hp => by unfold World.frozen?; rw [k2.block p.block hp])

end Go.Proofs.Ytefohemihiiceaa

/- The contract of the document's New. -/
namespace Go.Proofs.Ytefohemihiiceaa
open Go.RowKit

theorem Own.setBx {w : World} {e : TypeId} {base B : Nat} {v x y : Value} {xs : List Int} (h : Own w e base v xs) (hb : Bx w B x y) (he : e ≠ 44) (u u' : Value) : Own ((w.setCell ⟨B, 0, none⟩ u).setCell ⟨B, 1, none⟩ u') e base v xs := by
  obtain ⟨h0, h | ⟨g, cap, cur, rfl, hg, hh, r⟩⟩ := h
  · exact ⟨h0, .inl h⟩
  · have hne : g ≠ B := by
      intro e1
      subst e1
      unfold Bx at hb
      rw [hh] at hb
      injection hb with e2
      injection e2 with _ e3
      exact he e3
    exact ⟨h0, .inr ⟨g, cap, cur, rfl, hg, ((Below.heap_setCell _ ⟨B, 1, none⟩ u' g hne).trans (Below.heap_setCell w ⟨B, 0, none⟩ u g hne)).trans hh, r⟩⟩
theorem OwnG.setBx {w : World} {e : TypeId} {G n c B : Nat} {x y : Value} {xs : List Nat} (h : OwnG w e G n c xs) (hb : Bx w B x y) (he : e ≠ 44) (u u' : Value) : OwnG ((w.setCell ⟨B, 0, none⟩ u).setCell ⟨B, 1, none⟩ u') e G n c xs := by
  have hne : ¬ B = G := by
    intro e1
    subst e1
    obtain ⟨_, _, cur, hh, _⟩ := h
    unfold Bx at hb
    rw [hh] at hb
    injection hb with e2
    injection e2 with _ e3
    exact he e3
  exact (h.setOther hne 0 u).setOther hne 1 u'

theorem Bx.neG {w : World} {e : TypeId} {B G n c : Nat} {x y : Value} {xs : List Nat} (hb : Bx w B x y) (h : OwnG w e G n c xs) (he : e ≠ 44) : ¬ B = G := by
  intro e1
  subst e1
  obtain ⟨_, _, cur, hh, _⟩ := h
  unfold Bx at hb
  rw [hh] at hb
  injection hb with e2
  injection e2 with _ e3
  exact he e3

theorem fillN_set {n k : Nat} (x : Nat) (h : k < n) : (fillN n k x).set k x = fillN n (k + 1) x := by
  unfold fillN
  rw [List.set_append_right _ _ (by simp), List.length_replicate, Nat.sub_self, show n - k = (n - (k + 1)) + 1 by omega, List.replicate_succ (n := n - (k + 1)), List.set_cons_zero, List.replicate_succ' (n := k), List.append_assoc]
  rfl

/-- a pair of rows has been laid: the shape's copy, and a new row of noughts -/
structure Laid (w0 wx : World) (s : List Int) (n B : Nat) (a1 : Option Addr) (m1 c1 G : Nat) : Prop where
  bx : Bx wx B (.slice a1 m1 c1) (.slice (some ⟨G, 0, none⟩) n n)
  og : OwnG wx 71 G n n (List.replicate n 0)
  ow : Own wx 3 w0.heap.size (.slice a1 m1 c1) s
  kp : Kp w0 wx
  gG : w0.heap.size ≤ G
  gB : w0.heap.size ≤ B

section
variable {w0 w2 : World} {s : List Int} {n m1 c1 : Nat} {a1 : Option Addr}

theorem made_g (w : World) (h : n ≤ 4096) : OwnG (w.alloc (.cells (madeCells #[.float .f64 0] n) 71)) 71 w.heap.size n n (List.replicate n 0) :=
  (BlkF.made w 71 n).g (by simp) (by omega)

theorem laid1 (hn : n ≤ 4096) (O : Own w2 3 w0.heap.size (.slice a1 m1 c1) s) (K : Kp w0 w2) :
    Laid w0 ((w2.alloc (.cells (madeCells #[.float .f64 0] n) 71)).alloc (.cells #[.slice a1 m1 c1, .slice (some ⟨w2.heap.size, 0, none⟩) n n] 44)) s n (w2.heap.size + 1) a1 m1 c1 w2.heap.size := by
  refine ⟨?_, (made_g w2 hn).keep (Kp.alloc _ _), O.keep ((Kp.alloc _ _).trans (Kp.alloc _ _)), K.trans ((Kp.alloc _ _).trans (Kp.alloc _ _)), K.size, Nat.le_succ_of_le K.size⟩
  have := Bx.made (w2.alloc (.cells (madeCells #[.float .f64 0] n) 71)) (.slice a1 m1 c1) (.slice (some ⟨w2.heap.size, 0, none⟩) n n)
  rw [World.size_alloc] at this
  exact this
theorem laid2 (hn : n ≤ 4096) (O : Own w2 3 w0.heap.size (.slice a1 m1 c1) s) (K : Kp w0 w2) :
    Laid w0 ((w2.alloc (.cells #[.slice a1 m1 c1, .slice (some ⟨w2.heap.size + 1, 0, none⟩) n n] 44)).alloc (.cells (madeCells #[.float .f64 0] n) 71)) s n w2.heap.size a1 m1 c1 (w2.heap.size + 1) := by
  refine ⟨(Bx.made w2 _ _).keep (Kp.alloc _ _), ?_, O.keep ((Kp.alloc _ _).trans (Kp.alloc _ _)), K.trans ((Kp.alloc _ _).trans (Kp.alloc _ _)), Nat.le_succ_of_le K.size, K.size⟩
  have := made_g (w2.alloc (.cells #[.slice a1 m1 c1, .slice (some ⟨w2.heap.size + 1, 0, none⟩) n n] 44)) hn
  rw [World.size_alloc] at this
  exact this
theorem laid3 (hn : n ≤ 4096) (O : Own w2 3 w0.heap.size (.slice a1 m1 c1) s) (K : Kp w0 w2) (J : Kp (w0.alloc (.cells (madeCells #[.float .f64 0] n) 71)).drew w2) :
    Laid w0 (w2.alloc (.cells #[.slice a1 m1 c1, .slice (some ⟨w0.heap.size, 0, none⟩) n n] 44)) s n w2.heap.size a1 m1 c1 w0.heap.size :=
  ⟨Bx.made w2 _ _, (made_g w0 hn).keep ((Kp.drew _).trans (J.trans (Kp.alloc _ _))), O.keep (Kp.alloc _ _), K.trans (Kp.alloc _ _), Nat.le_refl _, K.size⟩
theorem laid4 (hn : n ≤ 4096) (O : Own w2 3 w0.heap.size (.slice a1 m1 c1) s) (K : Kp w0 w2) (J : Kp (w0.alloc (.cells #[.slice none 0 0, .slice none 0 0] 44)).drew w2) :
    Laid w0 (((w2.setCell ⟨w0.heap.size, 0, none⟩ (.slice a1 m1 c1)).setCell ⟨w0.heap.size, 1, none⟩ (.slice (some ⟨w2.heap.size, 0, none⟩) n n)).alloc (.cells (madeCells #[.float .f64 0] n) 71)) s n w0.heap.size a1 m1 c1 w2.heap.size := by
  have hb := (Bx.made w0 (.slice none 0 0) (.slice none 0 0)).keep ((Kp.drew _).trans J)
  refine ⟨(hb.set _ _).keep (Kp.alloc _ _), ?_, (O.setBx hb (by decide) _ _).keep (Kp.alloc _ _), ((K.set (Nat.le_refl _) (i := 0) _).set (Nat.le_refl _) (i := 1) _).trans (Kp.alloc _ _), K.size, Nat.le_refl _⟩
  have := made_g ((w2.setCell ⟨w0.heap.size, 0, none⟩ (.slice a1 m1 c1)).setCell ⟨w0.heap.size, 1, none⟩ (.slice (some ⟨w2.heap.size, 0, none⟩) n n)) hn
  rw [World.size_setCell, World.size_setCell] at this
  exact this
theorem laid5 (hn : n ≤ 4096) (O : Own w2 3 w0.heap.size (.slice a1 m1 c1) s) (K : Kp w0 w2) (J : Kp ((w0.alloc (.cells (madeCells #[.float .f64 0] n) 71)).alloc (.cells #[.slice none 0 0, .slice none 0 0] 44)).drew w2) :
    Laid w0 ((w2.setCell ⟨w0.heap.size + 1, 0, none⟩ (.slice a1 m1 c1)).setCell ⟨w0.heap.size + 1, 1, none⟩ (.slice (some ⟨w0.heap.size, 0, none⟩) n n)) s n (w0.heap.size + 1) a1 m1 c1 w0.heap.size := by
  have hb := (Bx.made (w0.alloc (.cells (madeCells #[.float .f64 0] n) 71)) (.slice none 0 0) (.slice none 0 0)).keep ((Kp.drew _).trans J)
  rw [World.size_alloc] at hb
  exact ⟨hb.set _ _, ((made_g w0 hn).keep ((Kp.alloc _ _).trans ((Kp.drew _).trans J))).setBx hb (by decide) _ _, O.setBx hb (by decide) _ _, (K.set (Nat.le_succ _) (i := 0) _).set (Nat.le_succ _) (i := 1) _, Nat.le_refl _, Nat.le_succ _⟩
theorem laid6 (hn : n ≤ 4096) (O : Own w2 3 w0.heap.size (.slice a1 m1 c1) s) (K : Kp w0 w2) (J : Kp ((w0.alloc (.cells #[.slice none 0 0, .slice none 0 0] 44)).alloc (.cells (madeCells #[.float .f64 0] n) 71)).drew w2) :
    Laid w0 ((w2.setCell ⟨w0.heap.size, 0, none⟩ (.slice a1 m1 c1)).setCell ⟨w0.heap.size, 1, none⟩ (.slice (some ⟨w0.heap.size + 1, 0, none⟩) n n)) s n w0.heap.size a1 m1 c1 (w0.heap.size + 1) := by
  have hb := (Bx.made w0 (.slice none 0 0) (.slice none 0 0)).keep ((Kp.alloc _ (.cells (madeCells #[.float .f64 0] n) 71)).trans ((Kp.drew _).trans J))
  have hg := (made_g (w0.alloc (.cells #[.slice none 0 0, .slice none 0 0] 44)) hn).keep ((Kp.drew _).trans J)
  rw [World.size_alloc] at hg
  exact ⟨hb.set _ _, hg.setBx hb (by decide) _ _, O.setBx hb (by decide) _ _, (K.set (Nat.le_refl _) (i := 0) _).set (Nat.le_refl _) (i := 1) _, Nat.le_succ _, Nat.le_refl _⟩
end

end Go.Proofs.Ytefohemihiiceaa

/- Steps of regions that draw their order: appends to an empty literal. -/
namespace Go.Proofs.Ytefohemihiiceaa
open Go.RowKit

/-- a row that was made of these numbers, or an empty one -/
def Rw (w : World) (e : TypeId) (v : Value) (ys : List Int) : Prop := Own w e 0 v ys ∨ (ys = [] ∧ ∃ E, v = .slice (some E) 0 0)
theorem Rw.keep {w w' : World} {e : TypeId} {v : Value} {ys : List Int} (h : Rw w e v ys) (k : Kp w w') : Rw w' e v ys := h.elim (fun o => .inl (o.keep k)) .inr
theorem Rw.setBx {w : World} {e : TypeId} {B : Nat} {v x y : Value} {ys : List Int} (h : Rw w e v ys) (hb : Bx w B x y) (he : e ≠ 44) (u u' : Value) : Rw ((w.setCell ⟨B, 0, none⟩ u).setCell ⟨B, 1, none⟩ u') e v ys :=
  h.elim (fun o => .inl (o.setBx hb he u u')) .inr
theorem Rw.ints {w : World} {e : TypeId} {v : Value} {ys : List Int} (h : Rw w e v ys) (hw : ∀ x ∈ ys, I64 x) (hr : ys.length * 8 ≤ 140737488351232) : Ints w v ys := by
  rcases h with o | ⟨rfl, E, rfl⟩
  · exact o.ints hw hr
  · exact ⟨by simp, by simp, (by intro n c h; cases h), some E, 0, rfl, by simp⟩
theorem OwnF.setBx {w : World} {e : TypeId} {base B : Nat} {v x y : Value} {xs : List Nat} (h : OwnF w e base v xs) (hb : Bx w B x y) (he : e ≠ 44) (u u' : Value) : OwnF ((w.setCell ⟨B, 0, none⟩ u).setCell ⟨B, 1, none⟩ u') e base v xs := by
  obtain ⟨h0, h | ⟨g, cap, cur, rfl, hg, hh, r⟩⟩ := h
  · exact ⟨h0, .inl h⟩
  · have hne : g ≠ B := by
      intro e1
      subst e1
      unfold Bx at hb
      rw [hh] at hb
      injection hb with e2
      injection e2 with _ e3
      exact he e3
    exact ⟨h0, .inr ⟨g, cap, cur, rfl, hg, ((Below.heap_setCell _ ⟨B, 1, none⟩ u' g hne).trans (Below.heap_setCell w ⟨B, 0, none⟩ u g hne)).trans hh, r⟩⟩

theorem kp_grown {w w' : World} (h : w.grownBy w' none) : Kp w w' := (Kp.refl w).of_grown h (fun k hk => by cases hk)

theorem app_lit_ints {P : Program} (w : World) (t ty e : TypeId) (hin : (P.info? e).map (fun i => (i.zero, i.size, i.bytes)) = some (some (.int .i64 0), 1, 8)) (ht : P.underlying t = some (.slice e))
    (E : Addr) (u : Value) (ys : List Int) (hu : Ints w u ys) (hr : ys.length ≤ 1000000) :
    ∃ b n c w', (Builtin.append_ #[t, t] ty #[.slice (some E) 0 0, u]).run P w = .ok (.slice b n c) w' ∧ Rw w' e (.slice b n c) ys ∧ Kp w w' := by
  obtain ⟨i0, hi, hz0, hz1, hz2⟩ := info_parts hin
  obtain ⟨ao, cap, hval, hcells⟩ := hu.val
  subst hval
  by_cases h0 : ys.length = 0
  · have : ys = [] := List.eq_nil_of_length_eq_zero h0
    subst this
    refine ⟨some E, 0, 0, w, ?_, .inr ⟨rfl, E, rfl⟩, Kp.refl _⟩
    cases ao with
    | none =>
      obtain ⟨_, rfl⟩ := hu.nonil _ _ rfl
      simp [Builtin.append_, run_underlying ht, sizeOf, typeInfo, hi, Builtin.lenOf, Builtin.firstCells, storeCells]
    | some ad => simp [Builtin.append_, run_underlying ht, sizeOf, typeInfo, hi, Builtin.lenOf, Builtin.firstCells, storeCells, loadCells, loadCellsFrom]
  · obtain ⟨b, off, rfl, hb, hc⟩ := hcells (by omega)
    obtain ⟨v', w', hrun, r1, r2⟩ := run_append_arg_grows (P := P) w t ty e i0 (.int .i64 0) 1 8 ht hi hz0 hz1 hz2 rfl (by decide) E 0 0 [] (by simp) (by intro j u hj; simp at hj) ⟨b, off, none⟩ ys.length cap (ys.map (Value.int .i64)) (by simp)
      (by
        intro j u hj
        have hjl : j < ys.length := by
          have := (List.getElem?_eq_some_iff.1 hj).1
          simpa using this
        have := hc j hjl
        rw [List.getElem?_map] at hj
        have e2 : ys[j]? = some (ys.getD j 0) := by simp [hjl]
        rw [e2] at hj
        cases hj
        by_cases h0 : j = 0
        · subst h0; simpa [Addr.add] using this
        · simpa [Addr.add, h0] using this) (by omega) (by unfold maxLen; omega) (by omega)
    have ow : Own w' e w.heap.size v' ys := by
      unfold Own
      simpa using r1
    obtain ⟨b', n', c', rfl⟩ := ow.sl
    exact ⟨b', n', c', w', hrun, .inl (ow.weak (Nat.zero_le _)), kp_grown r2⟩

theorem app_lit_flts {P : Program} (w : World) (t ty e : TypeId) (hin : (P.info? e).map (fun i => (i.zero, i.size, i.bytes)) = some (some (.float .f64 0), 1, 8)) (ht : P.underlying t = some (.slice e))
    (E : Addr) (u : Value) (ys : List Nat) (hu : Flts w u ys) (hr : ys.length ≤ 1000000) (h0 : 0 < ys.length) :
    ∃ b n c w', (Builtin.append_ #[t, t] ty #[.slice (some E) 0 0, u]).run P w = .ok (.slice b n c) w' ∧ OwnF w' e 0 (.slice b n c) ys ∧ Kp w w' := by
  obtain ⟨i0, hi, hz0, hz1, hz2⟩ := info_parts hin
  obtain ⟨ao, cap, hval, hcells⟩ := hu.val
  subst hval
  obtain ⟨b, off, rfl, hb, hc⟩ := hcells h0
  obtain ⟨v', w', hrun, r1, r2⟩ := run_append_arg_grows (P := P) w t ty e i0 (.float .f64 0) 1 8 ht hi hz0 hz1 hz2 rfl (by decide) E 0 0 [] (by simp) (by intro j u hj; simp at hj) ⟨b, off, none⟩ ys.length cap (ys.map (Value.float .f64)) (by simp)
    (by
      intro j u hj
      have hjl : j < ys.length := by
        have := (List.getElem?_eq_some_iff.1 hj).1
        simpa using this
      have := hc j hjl
      rw [List.getElem?_map] at hj
      have e2 : ys[j]? = some (ys.getD j 0) := by simp [hjl]
      rw [e2] at hj
      cases hj
      by_cases h0 : j = 0
      · subst h0; simpa [Addr.add] using this
      · simpa [Addr.add, h0] using this) (by omega) (by unfold maxLen; omega) (by omega)
  have ow : OwnF w' e w.heap.size v' ys := by
    unfold OwnF
    simpa using r1
  obtain ⟨b', n', c', rfl⟩ := ow.sl
  exact ⟨b', n', c', w', hrun, ow.weak (Nat.zero_le _), kp_grown r2⟩

/-- what a step leaves of memory, as the walk reads it -/
structure Left (w0 w w' : World) : Prop where
  kp : Kp w w'
  kp0 : Kp w0 w'

theorem step_lit_ints {P : Program} {ops : Array Oper} {o : Oper} {a : Act} {w : World} {K : Act → World → Prop} {Q : Exit → Act → World → Prop} {X : Prop}
    (hg : o.guard = none) (s x : Operand) (t : TypeId) (hop : o.op = Op.call { callee := Callee.builtin Builtin.append, args := #[s, x], argTypes := #[t, t] })
    (e : TypeId) (hin : (P.info? e).map (fun i => (i.zero, i.size, i.bytes)) = some (some (.int .i64 0), 1, 8)) (ht : P.underlying t = some (.slice e))
    (E : Addr) (u : Value) (ys : List Int) (hs : a.eval s = .slice (some E) 0 0) (hx : a.eval x = u) (w0 : World) (kp : Kp w0 w) (hu : Ints w0 u ys) (hr : ys.length ≤ 1000000)
    (h : ∀ b n c w', Hid (Rw w' e (.slice b n c) ys) → Hid (Left w0 w w') → (∀ q : Nat, q < w.heap.size → q < w'.heap.size) → (∀ q : Nat, q < w.heap.size → ¬ q = w'.heap.size) → (∀ p : Addr, p.block < w.heap.size → w'.cell? p = w.cell? p) → (∀ p : Addr, p.block < w.heap.size → w'.frozen? p = w.frozen? p) →
      (∀ p : Addr, p.block < w0.heap.size → w'.cell? p = w0.cell? p) → (∀ q i : Nat, q < w.heap.size → q < w'.heap.size + i) → (∀ q i : Nat, q < w.heap.size → ¬ q = w'.heap.size + i) → K (a.put o.dst (.slice b n c)) w') :
    if Region.wanted o (yielded ops a.tmps) = true then Oper.wp P o a w K Q else X := by
  have hw : Region.wanted o (yielded ops a.tmps) = true := by simp [Region.wanted, hg]
  rw [if_pos hw]
  obtain ⟨b, n, c, w', hrun, h1, k2⟩ := app_lit_ints (P := P) w t o.type e hin ht E u ys (hu.keep kp) hr
  unfold Oper.wp
  simp [execOp, hop, resolve, invoke, builtin, hs, hx, hrun, Result.andThen]
  exact h b n c w' h1 ⟨k2, kp.trans k2⟩ (fun q hq => Nat.lt_of_lt_of_le hq k2.size) (fun q hq => by have := k2.size; omega) (fun p hp => Below.cell k2 hp) (fun p hp => by unfold World.frozen?; rw [k2.block p.block hp]) (fun p hp => Below.cell (kp.trans k2) hp) (fun q i hq => by have := k2.size; omega) (fun q i hq => by have := k2.size; omega)

theorem step_lit_flts {P : Program} {ops : Array Oper} {o : Oper} {a : Act} {w : World} {K : Act → World → Prop} {Q : Exit → Act → World → Prop} {X : Prop}
    (hg : o.guard = none) (s x : Operand) (t : TypeId) (hop : o.op = Op.call { callee := Callee.builtin Builtin.append, args := #[s, x], argTypes := #[t, t] })
    (e : TypeId) (hin : (P.info? e).map (fun i => (i.zero, i.size, i.bytes)) = some (some (.float .f64 0), 1, 8)) (ht : P.underlying t = some (.slice e))
    (E : Addr) (u : Value) (ys : List Nat) (hs : a.eval s = .slice (some E) 0 0) (hx : a.eval x = u) (w0 : World) (kp : Kp w0 w) (hu : Flts w0 u ys) (hr : ys.length ≤ 1000000) (h0 : 0 < ys.length)
    (h : ∀ b n c w', Hid (OwnF w' e 0 (.slice b n c) ys) → Hid (Left w0 w w') → (∀ q : Nat, q < w.heap.size → q < w'.heap.size) → (∀ q : Nat, q < w.heap.size → ¬ q = w'.heap.size) → (∀ p : Addr, p.block < w.heap.size → w'.cell? p = w.cell? p) → (∀ p : Addr, p.block < w.heap.size → w'.frozen? p = w.frozen? p) →
      (∀ p : Addr, p.block < w0.heap.size → w'.cell? p = w0.cell? p) → (∀ q i : Nat, q < w.heap.size → q < w'.heap.size + i) → (∀ q i : Nat, q < w.heap.size → ¬ q = w'.heap.size + i) → K (a.put o.dst (.slice b n c)) w') :
    if Region.wanted o (yielded ops a.tmps) = true then Oper.wp P o a w K Q else X := by
  have hw : Region.wanted o (yielded ops a.tmps) = true := by simp [Region.wanted, hg]
  rw [if_pos hw]
  obtain ⟨b, n, c, w', hrun, h1, k2⟩ := app_lit_flts (P := P) w t o.type e hin ht E u ys (hu.keep kp) hr h0
  unfold Oper.wp
  simp [execOp, hop, resolve, invoke, builtin, hs, hx, hrun, Result.andThen]
  exact h b n c w' h1 ⟨k2, kp.trans k2⟩ (fun q hq => Nat.lt_of_lt_of_le hq k2.size) (fun q hq => by have := k2.size; omega) (fun p hp => Below.cell k2 hp) (fun p hp => by unfold World.frozen?; rw [k2.block p.block hp]) (fun p hp => Below.cell (kp.trans k2) hp) (fun q i hq => by have := k2.size; omega) (fun q i hq => by have := k2.size; omega)

end Go.Proofs.Ytefohemihiiceaa

/- What is handed back: a pair of rows that lie anew, or none, in one form. -/
namespace Go.Proofs.Ytefohemihiiceaa
open Go.RowKit

theorem getD_w64 {d : List Nat} (h : ∀ x ∈ d, W64 x) (k : Nat) : W64 (d.getD k 0) := by
  by_cases hk : k < d.length
  · have : d.getD k 0 = d[k] := by simp [hk]
    rw [this]
    exact h _ (List.getElem_mem _)
  · have : d.getD k 0 = 0 := by simp [Nat.le_of_not_lt hk]
    rw [this]
    exact w64_0

theorem boxes3_in (w : World) (x y u v p q : Value) : ∃ W, W = ((w.alloc (.cells #[x, y] 44)).alloc (.cells #[u, v] 44)).alloc (.cells #[p, q] 44) ∧ Bx W w.heap.size x y ∧ Bx W (w.heap.size + 1) u v ∧ Bx W (w.heap.size + 2) p q ∧ Kp w W := by
  obtain ⟨W, hW, x1, x2, k⟩ := boxes_in w x y u v
  refine ⟨_, rfl, ?_, ?_, ?_, ?_⟩
  · rw [← hW]; exact x1.keep (Kp.alloc _ _)
  · rw [← hW]; exact x2.keep (Kp.alloc _ _)
  · have := Bx.made ((w.alloc (.cells #[x, y] 44)).alloc (.cells #[u, v] 44)) p q
    have e1 : ((w.alloc (Obj.cells #[x, y] 44)).alloc (Obj.cells #[u, v] 44)).heap.size = w.heap.size + 2 := by simp
    rw [e1] at this
    exact this
  · rw [← hW]; exact k.trans (Kp.alloc _ _)

/-- the box of a result is filled, and what it is handed back as -/
structure Fin (w w9 : World) (s : List Int) (a1 : Option Addr) (n1 c1 G : Nat) (c : Nat) (d : List Nat) : Prop where
  own : Own w9 3 w.heap.size (.slice a1 n1 c1) s
  gs : w.heap.size ≤ G
  og : OwnG w9 71 G d.length c d
  kp : Kp w w9

theorem Fin.mk' {w w1 w2 : World} {R : Nat} {s : List Int} {a1 : Option Addr} {n1 c1 G c : Nat} {d : List Nat} {x y : Value} (o : Own w2 3 w1.heap.size (.slice a1 n1 c1) s) (hG : w1.heap.size ≤ G) (og : OwnG w2 71 G d.length c d)
    (k1 : Kp w w1) (k2 : Kp w1 w2) (hb : Bx w1 R x y) (hR : w.heap.size ≤ R) : Fin w ((w2.setCell ⟨R, 0, none⟩ (.slice a1 n1 c1)).setCell ⟨R, 1, none⟩ (.slice (some ⟨G, 0, none⟩) d.length c)) s a1 n1 c1 G c d := by
  have hlt := hb.lt
  refine ⟨((o.setBelow hlt 0 _).setBelow hlt 1 _).weak k1.size, Nat.le_trans k1.size hG, ?_, ((k1.trans k2).set hR (i := 0) _).set hR (i := 1) _⟩
  have hne : ¬ R = G := by omega
  exact (og.setOther hne 0 _).setOther hne 1 _

theorem Fin.ints {w w9 : World} {s : List Int} {a1 : Option Addr} {n1 c1 G c : Nat} {d : List Nat} (h : Fin w w9 s a1 n1 c1 G c d) (hm : mayT s d = true) (hw : ∀ x ∈ s, I64 x) : Ints w9 (.slice a1 n1 c1) s :=
  h.own.ints hw (by have := (may_good (mayT_may hm)).1; omega)

theorem Fin.flts {w w9 : World} {s : List Int} {a1 : Option Addr} {n1 c1 G c : Nat} {d : List Nat} (h : Fin w w9 s a1 n1 c1 G c d) (hm : mayT s d = true) (hw : ∀ x ∈ d, W64 x) : Flts w9 (.slice (some ⟨G, 0, none⟩) d.length c) d :=
  h.og.flts hw (by have := mayT_len hm; have := may_prod (mayT_may hm); omega)

/-- a pair and an error handed back -/
def Hands (e : Ending) (w' : World) (s : List Int) (d : List Nat) (q : Int) : Prop :=
  ∃ a1 c1 a2 c2, e = .returned (.tuple #[.agg #[.slice a1 s.length c1, .slice a2 d.length c2], .int .i64 q]) ∧ Ints w' (.slice a1 s.length c1) s ∧ Flts w' (.slice a2 d.length c2) d

theorem Hands.nil (w' : World) (q : Int) : Hands (.returned (.tuple #[.agg #[.slice none 0 0, .slice none 0 0], .int .i64 q])) w' [] [] q := ⟨none, 0, none, 0, rfl, Ints.nil _, Flts.nil _⟩

theorem Hands.fin {w w9 : World} {s : List Int} {a1 : Option Addr} {n1 c1 G c : Nat} {d : List Nat} (h : Fin w w9 s a1 n1 c1 G c d) (hm : mayT s d = true) (hs : ∀ x ∈ s, I64 x) (hw : ∀ x ∈ d, W64 x) : Hands (.returned (.tuple #[.agg #[.slice a1 n1 c1, .slice (some ⟨G, 0, none⟩) d.length c], .int .i64 0])) w9 s d 0 := by
  have hi := h.ints hm hs
  obtain ⟨a, cap, e, _⟩ := hi.val
  injection e with e1 e2 e3
  subst e1 e2 e3
  exact ⟨_, _, _, _, rfl, hi, h.flts hm hw⟩

theorem cn_list {ds : List Nat} {n : Nat} {g : Nat → Nat} (hl : ds.length = n) (h : ∀ j, j < ds.length → cn (ds.getD j 0) = g j) : ds.map cn = (List.range n).map g := by
  subst hl
  apply List.ext_getElem
  · simp
  · intro i h1 h2
    have hi : i < ds.length := by simpa using h1
    have := h i hi
    simp only [List.getElem_map, List.getElem_range]
    rw [← this]
    simp [hi]

theorem flts_at' {w : World} {p : Option Addr} {n c : Nat} {d : List Nat} (h : Flts w (.slice p n c) d) (h0 : 0 < d.length) : ∃ b off, p = some ⟨b, off, none⟩ ∧ b < w.heap.size ∧ ∀ i, i < d.length → w.cell? ⟨b, off + i, none⟩ = some (.float .f64 (d.getD i 0)) := by
  obtain ⟨_, _, _, a, cap, e, hv⟩ := h
  cases e
  exact hv h0
theorem ints_at' {w : World} {p : Option Addr} {n c : Nat} {d : List Int} (h : Ints w (.slice p n c) d) (h0 : 0 < d.length) : ∃ b off, p = some ⟨b, off, none⟩ ∧ b < w.heap.size ∧ ∀ i, i < d.length → w.cell? ⟨b, off + i, none⟩ = some (.int .i64 (d.getD i 0)) := by
  obtain ⟨_, _, _, a, cap, e, hv⟩ := h
  cases e
  exact hv h0

theorem cell_other {B G o j : Nat} (h : ¬ B = G) (w : World) (v : Value) : (w.setCell ⟨G, j, none⟩ v).cell? ⟨B, o, none⟩ = w.cell? ⟨B, o, none⟩ :=
  World.cell?_setCell_other _ _ _ _ (fun e => h (congrArg Addr.block e).symm)

/-- a pair and an error handed back, the numbers with room behind them -/
def HandR (e : Ending) (w' : World) (s : List Int) (d : List Nat) (q : Int) : Prop :=
  ∃ a1 c1 a2 c2, e = .returned (.tuple #[.agg #[.slice a1 s.length c1, .slice a2 d.length c2], .int .i64 q]) ∧ Ints w' (.slice a1 s.length c1) s ∧ Flts w' (.slice a2 d.length c2) d ∧ d.length ≤ c2 ∧ c2 ≤ 9223372036854775807
theorem HandR.nil (w' : World) (q : Int) : HandR (.returned (.tuple #[.agg #[.slice none 0 0, .slice none 0 0], .int .i64 q])) w' [] [] q := ⟨none, 0, none, 0, rfl, Ints.nil _, Flts.nil _, Nat.le_refl _, by omega⟩
theorem HandR.fin {w w9 : World} {s : List Int} {a1 : Option Addr} {n1 c1 G c : Nat} {d : List Nat} (h : Fin w w9 s a1 n1 c1 G c d) (hm : mayT s d = true) (hs : ∀ x ∈ s, I64 x) (hw : ∀ x ∈ d, W64 x) : HandR (.returned (.tuple #[.agg #[.slice a1 n1 c1, .slice (some ⟨G, 0, none⟩) d.length c], .int .i64 0])) w9 s d 0 := by
  have hi := h.ints hm hs
  obtain ⟨a, cap, e, _⟩ := hi.val
  injection e with e1 e2 e3
  subst e1 e2 e3
  exact ⟨_, _, _, _, rfl, hi, h.flts hm hw, h.og.room.1, by have := h.og.room.2; unfold maxLen at this; omega⟩

end Go.Proofs.Ytefohemihiiceaa
