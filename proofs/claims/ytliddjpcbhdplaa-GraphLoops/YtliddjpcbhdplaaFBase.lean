
/- What the walk knows of 64-bit numbers: sums and products whose NaNs the tape chooses; slices of such numbers as lists of their bits; no program in it. -/
import Derived.Test.YtliddjpcbhdplaaBase
import Derived.Test.YtliddjpcbhdplaaFPure
namespace Go.Proofs.Ytliddjpcbhdplaa
open Go.RowKit

/-- what '+', '*' .. give, and the world behind them: a NaN's bits come from the tape -/
def flR (op : BinOp) (w : World) (x y : Nat) : Nat :=
  match floatBits op .f64 x y with
  | some r => r
  | none => (Question.nanBits .f64 x y).cut (w.tape w.drawn (.nanBits .f64 x y))
def flW (op : BinOp) (w : World) (x y : Nat) : World :=
  match floatBits op .f64 x y with
  | some _ => w
  | none => w.drew

theorem run_add_any {P : Program} (w : World) (t : TypeId) (x y : Nat) : (binOp .add t (.float .f64 x) (.float .f64 y)).run P w = .ok (.float .f64 (flR .add w x y)) (flW .add w x y) := by
  unfold flR flW
  cases h : floatBits .add .f64 x y with
  | some r => exact run_float_arith w .add t .f64 x y r h
  | none =>
    have h' : FloatKind.f64.format.add x y = none := h
    simp [binOp, Op.floatArith, h', Question.forced]
theorem run_mul_any {P : Program} (w : World) (t : TypeId) (x y : Nat) : (binOp .mul t (.float .f64 x) (.float .f64 y)).run P w = .ok (.float .f64 (flR .mul w x y)) (flW .mul w x y) := by
  unfold flR flW
  cases h : floatBits .mul .f64 x y with
  | some r => exact run_float_arith w .mul t .f64 x y r h
  | none =>
    have h' : FloatKind.f64.format.mul x y = none := h
    simp [binOp, Op.floatArith, h', Question.forced]

theorem flW_kp (op : BinOp) (w : World) (x y : Nat) : Kp w (flW op w x y) := by
  unfold flW
  split
  · exact Kp.refl w
  · exact Kp.drew w
theorem flW_heap (op : BinOp) (w : World) (x y : Nat) : (flW op w x y).heap = w.heap := by
  unfold flW
  split <;> rfl

theorem run_neg_any {P : Program} (w : World) (x y : Nat) (h : Op.negFloat .f64 x = y) : (Op.unary .neg (.float .f64 x)).run P w = .ok (.float .f64 y) w := by
  subst h
  rfl

/-- a 64-bit word -/
def W64 (x : Nat) : Prop := x < 18446744073709551616

theorem cut_nan (t x y : Nat) : nanW ((Question.nanBits .f64 x y).cut t) = true ∧ W64 ((Question.nanBits .f64 x y).cut t) := by
  unfold Question.cut
  simp only
  have h1 : t % 2 < 2 := Nat.mod_lt _ (by decide)
  have h2 : (t / 2) % (2 ^ 52 - 1) < 4503599627370495 := Nat.mod_lt _ (by decide)
  generalize (t / 2) % (2 ^ 52 - 1) = f at *
  have e : t % 2 * 2 ^ 63 + 9218868437227405312 + 1 + f = DD.word (t % 2 == 1) (9218868437227405313 + f) := by
    unfold Ieee.Format.word
    rw [dd_sign]
    have : t % 2 = 0 ∨ t % 2 = 1 := by omega
    rcases this with h | h
    · rw [h]; simp <;> omega
    · rw [h]; simp <;> omega
  refine ⟨?_, ?_⟩
  · rw [e]
    unfold nanW
    rw [read_word _ _ (by omega), if_neg (by omega), if_neg (by omega), if_neg (by omega)]
    rfl
  · unfold W64
    have : t % 2 = 0 ∨ t % 2 = 1 := by omega
    rcases this with h | h <;> rw [h] <;> omega

theorem flR_add (w : World) (x y : Nat) : cn (flR .add w x y) = adC x y ∧ W64 (flR .add w x y) := by
  unfold flR adC
  cases h : floatBits .add .f64 x y with
  | some r =>
    have h' : DD.add x y = some r := h
    rw [h']
    exact ⟨cn_num (add_notNaN h'), DD.add_lt h'⟩
  | none =>
    have h' : DD.add x y = none := h
    rw [h']
    exact ⟨cn_nan (cut_nan _ _ _).1, (cut_nan _ _ _).2⟩
theorem flR_mul (w : World) (x y : Nat) : cn (flR .mul w x y) = muC x y ∧ W64 (flR .mul w x y) := by
  unfold flR muC
  cases h : floatBits .mul .f64 x y with
  | some r =>
    have h' : DD.mul x y = some r := h
    rw [h']
    exact ⟨cn_num (mul_notNaN h'), DD.mul_lt h'⟩
  | none =>
    have h' : DD.mul x y = none := h
    rw [h']
    exact ⟨cn_nan (cut_nan _ _ _).1, (cut_nan _ _ _).2⟩

theorem ret_flt {k : FloatKind} {a b : Nat} (h : a = b) : Ending.returned (.float k a) = .returned (.float k b) := by rw [h]

theorem flts_oneCell (zs : List Nat) : ∀ u ∈ zs.map (Value.float .f64), u.oneCell' = true := by
  intro u hu
  obtain ⟨z, _, rfl⟩ := List.mem_map.1 hu
  rfl

/-- the slice value v reads as the numbers xs -/
structure Flts (w : World) (v : Value) (xs : List Nat) : Prop where
  wf : ∀ x ∈ xs, W64 x
  room : xs.length * 8 ≤ 140737488351232
  nonil : ∀ n c, v = .slice none n c → n = 0 ∧ c = 0
  val : ∃ a cap, v = .slice a xs.length cap ∧ (0 < xs.length → ∃ b off, a = some ⟨b, off, none⟩ ∧ b < w.heap.size ∧ ∀ i, i < xs.length → w.cell? ⟨b, off + i, none⟩ = some (.float .f64 (xs.getD i 0)))

theorem Flts.nil (w : World) : Flts w (.slice none 0 0) [] := ⟨by simp, by simp, by intro n c h; cases h; exact ⟨rfl, rfl⟩, none, 0, rfl, by simp⟩

theorem Flts.keep {w w' : World} {v : Value} {xs : List Nat} (h : Flts w v xs) (k : Kp w w') : Flts w' v xs := by
  obtain ⟨h1, h2, h0, a, cap, rfl, h3⟩ := h
  refine ⟨h1, h2, h0, a, cap, rfl, fun hp => ?_⟩
  obtain ⟨b, off, rfl, hb, hc⟩ := h3 hp
  exact ⟨b, off, rfl, by have := k.size; omega, fun i hi => (Below.cell k (p := ⟨b, off + i, none⟩) hb).trans (hc i hi)⟩

theorem Flts.opn {w : World} {v : Value} {xs : List Nat} {n : Nat} (h : Flts w v xs) (hn : xs.length = n) : ∃ a cap, v = .slice a n cap ∧ Hid (0 < n → ∃ b off, a = some ⟨b, off, none⟩ ∧ b < w.heap.size ∧ ∀ i, i < n → w.cell? ⟨b, off + i, none⟩ = some (.float .f64 (xs.getD i 0))) := by
  subst hn
  exact h.val

theorem Flts.getD {w : World} {v : Value} {xs : List Nat} (h : Flts w v xs) {k : Nat} (hk : k < xs.length) : W64 (xs.getD k 0) := by
  have e : xs.getD k 0 = xs[k] := by simp [hk]
  rw [e]
  exact h.wf _ (List.getElem_mem hk)

/-- block B holds the numbers ys, and is not frozen -/
def BlkF (w : World) (e : TypeId) (B : Nat) (ys : List Nat) : Prop := w.heap[B]? = some (.cells (ys.map (Value.float .f64)).toArray e)

theorem BlkF.lt {w : World} {e : TypeId} {B : Nat} {ys : List Nat} (h : BlkF w e B ys) : B < w.heap.size := by
  unfold BlkF at h
  exact (Array.getElem?_eq_some_iff.1 h).1

theorem BlkF.cell {w : World} {e : TypeId} {B : Nat} {ys : List Nat} (h : BlkF w e B ys) {i : Nat} (hi : i < ys.length) : w.cell? ⟨B, i, none⟩ = some (.float .f64 (ys.getD i 0)) := by
  unfold BlkF at h
  simp [World.cell?, h, hi]

theorem BlkF.frozen {w : World} {e : TypeId} {B : Nat} {ys : List Nat} (h : BlkF w e B ys) (i : Nat) : w.frozen? ⟨B, i, none⟩ = false := by
  unfold BlkF at h
  simp [World.frozen?, h]

theorem BlkF.set {w : World} {e : TypeId} {B : Nat} {ys : List Nat} (h : BlkF w e B ys) (i : Nat) (x : Nat) : BlkF (w.setCell ⟨B, i, none⟩ (.float .f64 x)) e B (ys.set i x) := by
  unfold BlkF at h ⊢
  simp [World.setCell, Array.getElem?_modify, h, List.map_set]

theorem BlkF.keep {w w' : World} {e : TypeId} {B : Nat} {ys : List Nat} (h : BlkF w e B ys) (k : Kp w w') : BlkF w' e B ys := by
  unfold BlkF
  rw [k.block B h.lt]
  exact h

theorem BlkF.made (w : World) (e : TypeId) (n : Nat) : BlkF (w.alloc (.cells (madeCells #[.float .f64 0] n) e)) e w.heap.size (List.replicate n 0) := by
  unfold BlkF
  simp only [World.alloc, Array.getElem?_push_size]
  congr 2
  apply Array.ext
  · simp [madeCells]
  · intro i h1 h2
    simp [madeCells, Nat.mod_one]

theorem BlkF.flts {w : World} {e : TypeId} {B n cap : Nat} {ys : List Nat} (h : BlkF w e B ys) (hn : ys.length = n) (hw : ∀ x ∈ ys, W64 x) (hr : n * 8 ≤ 140737488351232) : Flts w (.slice (some ⟨B, 0, none⟩) n cap) ys := by
  refine ⟨hw, by omega, (by intro n c h; cases h), some ⟨B, 0, none⟩, cap, by rw [hn], fun _ => ⟨B, 0, rfl, h.lt, fun i hi => ?_⟩⟩
  rw [Nat.zero_add]
  exact h.cell hi

/-- the call's own slice of ints: it may be appended to -/
def OwnF (w : World) (e : TypeId) (base : Nat) (v : Value) (xs : List Nat) : Prop := w.ownsRow base e 1 v xs.length (xs.map (Value.float .f64))

theorem OwnF.flts {w : World} {e : TypeId} {base : Nat} {v : Value} {xs : List Nat} (h : OwnF w e base v xs) (hw : ∀ x ∈ xs, W64 x) (hr : xs.length * 8 ≤ 140737488351232) : Flts w v xs := by
  obtain ⟨_, h | ⟨g, cap, cur, rfl, _, hh, _, _, _, ht⟩⟩ := h
  · obtain ⟨rfl, h0⟩ := h
    have : xs = [] := List.eq_nil_of_length_eq_zero h0
    subst this
    exact Flts.nil w
  · refine ⟨hw, hr, (by intro n c h; cases h), some ⟨g, 0, none⟩, cap, rfl, fun _ => ⟨g, 0, rfl, (Array.getElem?_eq_some_iff.1 hh).1, fun i hi => ?_⟩⟩
    have e1 : cur[i]? = some (.float .f64 (xs.getD i 0)) := by
      have h2 := congrArg (fun l => l[i]?) ht
      simp only [Nat.mul_one, List.getElem?_take, hi, if_true, List.getElem?_map, Array.getElem?_toList] at h2
      rw [h2]
      simp [hi]
    simp [World.cell?, hh, e1]

theorem OwnF.fresh {w w0 : World} {e : TypeId} {base : Nat} {v : Value} {xs : List Nat} (h : OwnF w e base v xs) (hb : w0.heap.size ≤ base) : Fresh w0 v := by
  obtain ⟨_, h | ⟨g, cap, cur, rfl, hg, _⟩⟩ := h
  · obtain ⟨rfl, _⟩ := h
    exact Fresh.nil _ _ _
  · exact Fresh.mk (by omega)

theorem OwnF.keep {w w' : World} {e : TypeId} {base : Nat} {v : Value} {xs : List Nat} (h : OwnF w e base v xs) (k : Kp w w') : OwnF w' e base v xs := by
  obtain ⟨h0, h | ⟨g, cap, cur, rfl, hg, hh, r⟩⟩ := h
  · exact ⟨h0, .inl h⟩
  · exact ⟨h0, .inr ⟨g, cap, cur, rfl, hg, by rw [k.block g (Array.getElem?_eq_some_iff.1 hh).1]; exact hh, r⟩⟩

theorem OwnF.nil (w : World) (e : TypeId) (base : Nat) : OwnF w e base (.slice none 0 0) [] := World.ownsRow_nil _ _ _ _

/-- a literal slice is the call's own -/
theorem OwnF.lit (w : World) (e : TypeId) (ys : List Nat) (c : Array Value) (B n base : Nat) (hc : c = (ys.map (Value.float .f64)).toArray) (hB : B = w.heap.size) (hn : ys.length = n) (hb : base ≤ w.heap.size) (hm : n ≤ maxLen) :
    OwnF (w.alloc (.cells c e)) e base (.slice (some ⟨B, 0, none⟩) n n) ys := by
  subst hc hB hn
  refine ⟨by simp, .inr ⟨w.heap.size, ys.length, (ys.map (Value.float .f64)).toArray, rfl, hb, ?_, Nat.le_refl _, hm, by simp, by simp [List.take_of_length_le]⟩⟩
  simp only [World.alloc, Array.getElem?_push_size]

/-- 'append(own, s...)' -/
theorem wpList_append_flts {P : Program} (w : World) {ops : Array Oper} {rest : List Oper} {o : Oper} {a : Act} {Q : Exit → Act → World → Prop}
    (hgd : o.guard = none) (s x : Operand) (t : TypeId) (ho : o.op = .call { callee := .builtin .append, args := #[s, x], argTypes := #[t, t] })
    (base : Nat) (e : TypeId) (hin : (P.info? e).map (fun i => (i.zero, i.size, i.bytes)) = some (some (.float .f64 0), 1, 8)) (ht : P.underlying t = some (.slice e))
    (v u : Value) (xs ys : List Nat) (hs : a.eval s = v) (hx : a.eval x = u) (hv : OwnF w e base v xs) (hu : Flts w u ys)
    (hroom : (xs.length + ys.length) * 8 ≤ 140737488351232) (hbase : base ≤ w.heap.size)
    (h : ∀ v' w', OwnF w' e base v' (xs ++ ys) → w.grownBy w' v.ownBlock → wpList P ops Q rest (a.put o.dst v') w') : wpList P ops Q (o :: rest) a w := by
  obtain ⟨i0, hi, hz0, hz1, hz2⟩ := info_parts hin
  obtain ⟨ao, cap, hval, hcells⟩ := hu.val
  subst hval
  match ao, hx, hcells, hu with
  | none, hx, _, hu =>
    obtain ⟨h1, h2⟩ := hu.nonil _ _ rfl
    have : ys = [] := List.eq_nil_of_length_eq_zero h1
    subst this
    subst h2
    refine wpList_plain hgd fun K hK => ?_
    have hrun := run_append_owned_none (P := P) w base t o.type e i0 1 ht hi v xs.length (xs.map (Value.float .f64)) hv
    unfold Oper.wp
    simp only [List.length_nil] at hx
    simp [execOp, ho, resolve, invoke, builtin, hs, hx, hrun, Result.andThen]
    refine hK _ _ (h v w ?_ (World.grownBy.refl _ _))
    rw [List.append_nil]
    exact hv
  | some ad, hx, hcells, hu =>
    refine wpList_append_own w hgd s x t ho base e i0 (.float .f64 0) 1 8 ht hi hz0 hz1 hz2 rfl (by decide) v xs.length (xs.map (Value.float .f64)) hs hv ad ys.length cap (ys.map (Value.float .f64)) hx (by simp) ?_ (flts_oneCell _) (by unfold maxLen; omega) (by omega) hbase ?_
    · intro j u hj
      have hjl : j < ys.length := by
        have := (List.getElem?_eq_some_iff.1 hj).1
        simpa using this
      obtain ⟨b, off, e1, _, hc⟩ := hcells (by omega)
      cases e1
      have := hc j hjl
      rw [List.getElem?_map] at hj
      have e2 : ys[j]? = some (ys.getD j 0) := by simp [hjl]
      rw [e2] at hj
      cases hj
      by_cases h0 : j = 0
      · subst h0; simpa [Addr.add] using this
      · simpa [Addr.add, h0] using this
    · intro v' w' h1 h2 _
      refine h v' w' ?_ h2
      unfold OwnF
      rw [List.length_append, List.map_append]
      exact h1


/-- the same as a run, and under a guard that is open -/
theorem run_append_flts {P : Program} (w : World) (base : Nat) (t ty e : TypeId) (hin : (P.info? e).map (fun i => (i.zero, i.size, i.bytes)) = some (some (.float .f64 0), 1, 8)) (ht : P.underlying t = some (.slice e))
    (v u : Value) (xs ys : List Nat) (hv : OwnF w e base v xs) (hu : Flts w u ys) (hroom : (xs.length + ys.length) * 8 ≤ 140737488351232) (hbase : base ≤ w.heap.size) :
    ∃ v' w', (Builtin.append_ #[t, t] ty #[v, u]).run P w = .ok v' w' ∧ OwnF w' e base v' (xs ++ ys) ∧ w.grownBy w' v.ownBlock := by
  obtain ⟨i0, hi, hz0, hz1, hz2⟩ := info_parts hin
  obtain ⟨ao, cap, hval, hcells⟩ := hu.val
  subst hval
  match ao, hcells, hu with
  | none, _, hu =>
    obtain ⟨h1, h2⟩ := hu.nonil _ _ rfl
    have : ys = [] := List.eq_nil_of_length_eq_zero h1
    subst this
    subst h2
    have hrun := run_append_owned_none (P := P) w base t ty e i0 1 ht hi v xs.length (xs.map (Value.float .f64)) hv
    exact ⟨v, w, hrun, by rw [List.append_nil]; exact hv, World.grownBy.refl _ _⟩
  | some ad, hcells, hu =>
    have hc : ∀ j u, (ys.map (Value.float .f64))[j]? = some u → w.cell? (ad.add j) = some u := by
      intro j u hj
      have hjl : j < ys.length := by
        have := (List.getElem?_eq_some_iff.1 hj).1
        simpa using this
      obtain ⟨b, off, e1, _, hc⟩ := hcells (by omega)
      cases e1
      have := hc j hjl
      rw [List.getElem?_map] at hj
      have e2 : ys[j]? = some (ys.getD j 0) := by simp [hjl]
      rw [e2] at hj
      cases hj
      by_cases h0 : j = 0
      · subst h0; simpa [Addr.add] using this
      · simpa [Addr.add, h0] using this
    obtain ⟨v', w', hrun, ho, hg, _⟩ := run_append_own (P := P) w base t ty e i0 (.float .f64 0) 1 8 ht hi hz0 hz1 hz2 rfl (by decide) v xs.length (xs.map (Value.float .f64)) hv ad ys.length cap (ys.map (Value.float .f64)) (by simp) hc (flts_oneCell _) (by unfold maxLen; omega) (by omega) hbase
    refine ⟨v', w', hrun, ?_, hg⟩
    unfold OwnF
    rw [List.length_append, List.map_append]
    exact ho

theorem wpList_append_flts_at {P : Program} (w : World) {ops : Array Oper} {rest : List Oper} {o : Oper} {a : Act} {Q : Exit → Act → World → Prop}
    (hgd : Region.wanted o (yielded ops a.tmps) = true) (s x : Operand) (t : TypeId) (ho : o.op = .call { callee := .builtin .append, args := #[s, x], argTypes := #[t, t] })
    (base : Nat) (e : TypeId) (hin : (P.info? e).map (fun i => (i.zero, i.size, i.bytes)) = some (some (.float .f64 0), 1, 8)) (ht : P.underlying t = some (.slice e))
    (v u : Value) (xs ys : List Nat) (hs : a.eval s = v) (hx : a.eval x = u) (hv : OwnF w e base v xs) (hu : Flts w u ys)
    (hroom : (xs.length + ys.length) * 8 ≤ 140737488351232) (hbase : base ≤ w.heap.size)
    (h : ∀ v' w', OwnF w' e base v' (xs ++ ys) → w.grownBy w' v.ownBlock → wpList P ops Q rest (a.put o.dst v') w') : wpList P ops Q (o :: rest) a w := by
  refine wpList_step fun K hK => ?_
  rw [if_pos hgd]
  obtain ⟨v', w', hrun, h1, h2⟩ := run_append_flts (P := P) w base t o.type e hin ht v u xs ys hv hu hroom hbase
  unfold Oper.wp
  simp [execOp, ho, resolve, invoke, builtin, hs, hx, hrun, Result.andThen]
  exact hK _ _ (h v' w' h1 h2)

theorem OwnF.block {w : World} {e : TypeId} {base : Nat} {v : Value} {xs : List Nat} (h : OwnF w e base v xs) (k : Nat) (hk : v.ownBlock = some k) : base ≤ k := by
  obtain ⟨_, h | ⟨g, cap, cur, rfl, hg, _⟩⟩ := h
  · obtain ⟨rfl, _⟩ := h
    cases hk
  · cases hk
    exact hg

theorem OwnF.lens {w : World} {e : TypeId} {base : Nat} {v : Value} {xs : List Nat} (h : OwnF w e base v xs) (a : Option Addr) (n c : Nat) (hv : v = .slice a n c) : n ≤ c ∧ c ≤ 9223372036854775807 := by
  obtain ⟨_, h | ⟨g, cap, cur, rfl, _, _, h1, h2, _, _⟩⟩ := h
  · obtain ⟨rfl, _⟩ := h
    cases hv
    omega
  · cases hv
    unfold maxLen at h2
    omega

end Go.Proofs.Ytliddjpcbhdplaa
