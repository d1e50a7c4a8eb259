
/- Rows of numbers of the scheduler's own: slices.Insert of one. -/
import Derived.Test.YtenbmfhhmbfgoaaSchA
import Derived.WalkSmall
import Derived.ArgAppend
import Derived.Deep.DeepAppendRoom
import Derived.Lib.Overlaps
import Derived.Lib.AppendZerosOnto
import Derived.Lib.SliceRun
namespace Go.Proofs.Ytenbmfhhmbfgoaa
open Go.RowKit

theorem infoN : (Try.prog.info? 3).map (fun i => (i.zero, i.size, i.bytes)) = some (some (.int .i64 0), 1, 8) := by kernel_rfl

/-- values that are laid over a list from a place on -/
def putL (xs : List Value) : Nat → List Value → List Value
  | _, [] => xs
  | o, v :: r => putL (xs.set o v) (o + 1) r
theorem putL_length : ∀ (vs xs : List Value) (o : Nat), (putL xs o vs).length = xs.length
  | [], _, _ => rfl
  | v :: r, xs, o => by rw [putL, putL_length r]; simp
theorem putL_eq : ∀ (vs xs : List Value) (o : Nat), o + vs.length ≤ xs.length → putL xs o vs = xs.take o ++ vs ++ xs.drop (o + vs.length)
  | [], xs, o, _ => by simp [putL]
  | v :: r, xs, o, h => by
    simp only [List.length_cons] at h
    rw [putL, putL_eq r _ _ (by simp; omega), List.take_set, List.drop_set_of_lt (by omega), List.length_cons, show o + 1 + r.length = o + (r.length + 1) by omega, List.take_succ_eq_append_getElem (by omega), List.set_append_right _ _ (by simp; omega)]
    simp [show o - min o xs.length = 0 by omega]
theorem owns_setCells {base : Nat} {e : TypeId} {g n cap : Nat} : ∀ (vs : List Value) (o : Nat) (w : World) (xs : List Value), w.ownsRow base e 1 (.slice (some ⟨g, 0, none⟩) n cap) n xs → (w.setCells g o vs).ownsRow base e 1 (.slice (some ⟨g, 0, none⟩) n cap) n (putL xs o vs)
  | [], _, _, _, h => h
  | v :: r, o, w, xs, h => by
    rw [World.setCells, putL]
    exact owns_setCells r (o + 1) _ _ (h.stored o v).1
theorem grown_setCells (g : Nat) : ∀ (vs : List Value) (o : Nat) (w : World), w.grownBy (w.setCells g o vs) (some g)
  | [], _, w => World.grownBy.refl _ _
  | v :: r, o, w => by
    have h1 : w.grownBy (w.setCell ⟨g, o, none⟩ v) (some g) := ⟨rfl, rfl, rfl, Nat.le_of_eq (by simp), fun k _ hk => Below.heap_setCell _ _ _ k (fun e => hk (by rw [e]))⟩
    have h2 := grown_setCells g r (o + 1) (w.setCell ⟨g, o, none⟩ v)
    exact ⟨h2.os.trans h1.os, h2.tape.trans h1.tape, h2.output.trans h1.output, Nat.le_trans h1.size h2.size, fun k hk hne => (h2.block k (Nat.lt_of_lt_of_le hk h1.size) hne).trans (h1.block k hk hne)⟩
theorem grown_trans {a b c : World} {g : Option Nat} (h : a.grownBy b g) (k : b.grownBy c g) : a.grownBy c g :=
  ⟨k.os.trans h.os, k.tape.trans h.tape, k.output.trans h.output, Nat.le_trans h.size k.size, fun i hi hne => (k.block i (Nat.lt_of_lt_of_le hi h.size) hne).trans (h.block i hi hne)⟩
theorem grown_drew (w : World) (g : Option Nat) : w.grownBy w.drew g := ⟨rfl, rfl, rfl, Nat.le_refl _, fun _ _ _ => rfl⟩
theorem grown_alloc (w : World) (o : Obj) (g : Option Nat) : w.grownBy (w.alloc o) g := ⟨rfl, rfl, rfl, (Kp.alloc w o).size, fun k hk _ => (Kp.alloc w o).block k hk⟩
/-- a new row may be written into as it is not an old one -/
theorem grown_new {a b c : World} {g : Option Nat} {k : Nat} (h : a.grownBy b g) (k2 : b.grownBy c (some k)) (hk : a.heap.size ≤ k) : a.grownBy c g :=
  ⟨k2.os.trans h.os, k2.tape.trans h.tape, k2.output.trans h.output, Nat.le_trans h.size k2.size, fun i hi hne => (k2.block i (Nat.lt_of_lt_of_le hi h.size) (by intro e; cases e; omega)).trans (h.block i hi hne)⟩

theorem wpList_copy_eq {P : Program} (w : World) {ops : Array Oper} {rest : List Oper} {o : Oper} {a : Act} {Q : Exit → Act → World → Prop} (hgd : o.guard = none) (d s : Operand) (t t' : TypeId)
    (ho : o.op = .call { callee := .builtin .copy, args := #[d, s], argTypes := #[t, t'] }) (v u : Value) (hd : a.eval d = v) (hs : a.eval s = u) {v' : Value} {w' : World}
    (hr : (Builtin.copy_ #[t, t'] o.type #[v, u]).run P w = .ok v' w') (h : wpList P ops Q rest (a.put o.dst v') w') : wpList P ops Q (o :: rest) a w := by
  refine wpList_plain hgd fun K hK => ?_
  unfold Oper.wp execOp
  simp only [ho, resolve, invoke, builtin, Sem.run_bind, Sem.run_pure, Result.andThen_ok, List.map_toArray, List.map_cons, List.map_nil, hd, hs, hr]
  exact hK _ _ h
theorem step_copy_eq {P : Program} {ops : Array Oper} {o : Oper} {a : Act} {w : World} {K : Act → World → Prop} {Q : Exit → Act → World → Prop} {E : Prop}
    (hg : o.guard = none) (d x : Operand) (dT sT : TypeId) (hop : o.op = Op.call { callee := Callee.builtin Builtin.copy, args := #[d, x], argTypes := #[dT, sT] })
    (v u : Value) (hd : a.eval d = v) (hx : a.eval x = u) {v' : Value} {w' : World} (hr : (Builtin.copy_ #[dT, sT] o.type #[v, u]).run P w = .ok v' w') (hK : K (a.put o.dst v') w') :
    if Region.wanted o (yielded ops a.tmps) = true then Oper.wp P o a w K Q else E := by
  have hw : Region.wanted o (yielded ops a.tmps) = true := by simp [Region.wanted, hg]
  rw [if_pos hw]
  unfold Oper.wp execOp
  simp only [hop, resolve, invoke, builtin, Sem.run_bind, Sem.run_pure, Result.andThen_ok, List.map_toArray, List.map_cons, List.map_nil, hd, hx, hr]
  exact hK
theorem wpList_append_eq {P : Program} (w : World) {ops : Array Oper} {rest : List Oper} {o : Oper} {a : Act} {Q : Exit → Act → World → Prop} (hgd : o.guard = none) (d s : Operand) (t t' : TypeId)
    (ho : o.op = .call { callee := .builtin .append, args := #[d, s], argTypes := #[t, t'] }) (v u : Value) (hd : a.eval d = v) (hs : a.eval s = u) {v' : Value} {w' : World}
    (hr : (Builtin.append_ #[t, t'] o.type #[v, u]).run P w = .ok v' w') (h : wpList P ops Q rest (a.put o.dst v') w') : wpList P ops Q (o :: rest) a w := by
  refine wpList_plain hgd fun K hK => ?_
  unfold Oper.wp execOp
  simp only [ho, resolve, invoke, builtin, Sem.run_bind, Sem.run_pure, Result.andThen_ok, List.map_toArray, List.map_cons, List.map_nil, hd, hs, hr]
  exact hK _ _ h

/-- an append is told by the element's type alone -/
theorem append_types {P : Program} (w : World) (t t' e e' ty : TypeId) (i : TypeInfo) (ht : P.underlying t = some (.slice e)) (ht' : P.underlying t' = some (.slice e')) (hi : P.info? e = some i) (a : Option Addr) (n c : Nat) (u : Value) :
    (Builtin.append_ #[t, t'] ty #[.slice a n c, u]).run P w = (Builtin.append_ #[t, t] ty #[.slice a n c, u]).run P w := by
  simp [Builtin.append_, run_underlying ht, run_underlying ht', sizeOf, typeInfo, hi]

/-- one number more behind an own row: where it lies then -/
theorem run_push1 (w : World) (t : TypeId) (ht : Try.prog.underlying t = some (.slice 3)) (v : Value) (xs : List Int) (x : Int) (B c : Nat) (h : Own w 3 0 v xs) (hr : xs.length + 1 ≤ 1000000000)
    (h0 : w.cell? ⟨B, 0, none⟩ = some (.int .i64 x)) :
    ∃ g cap w', (∀ ty, Sem.run Try.prog (Builtin.append_ #[t, t] ty #[v, .slice (some ⟨B, 0, none⟩) 1 c]) w = .ok (.slice (some ⟨g, 0, none⟩) (xs.length + 1) cap) w') ∧ Own w' 3 0 (.slice (some ⟨g, 0, none⟩) (xs.length + 1) cap) (xs ++ [x]) ∧ w.grownBy w' v.ownBlock ∧ (v.ownBlock = some g ∨ w.heap.size ≤ g) := by
  obtain ⟨i0, hi, hz0, hz1, hz2⟩ := info_parts infoN
  have hl : (xs.map (Value.int .i64) ++ [Value.int .i64 x]).length = (xs.length + 1) * 1 := by simp
  have hnews : ∀ j u, [Value.int .i64 x][j]? = some u → w.cell? ((⟨B, 0, none⟩ : Addr).add j) = some u := by
    intro j u hj
    match j, hj with
    | 0, hj => cases hj; simpa [Addr.add] using h0
    | j + 1, hj => simp at hj
  have h1 : ∀ u ∈ [Value.int .i64 x], u.oneCell' = true := by intro u hu; rw [List.mem_singleton.1 hu]; rfl
  have fin : ∀ v' w', w'.ownsRow w.heap.size 3 1 v' (xs.length + 1) (xs.map (Value.int .i64) ++ [Value.int .i64 x]) → ∃ g cap, v' = .slice (some ⟨g, 0, none⟩) (xs.length + 1) cap ∧ w.heap.size ≤ g ∧ Own w' 3 0 (.slice (some ⟨g, 0, none⟩) (xs.length + 1) cap) (xs ++ [x]) := by
    rintro v' w' ⟨h1, ⟨_, h2⟩ | ⟨g, cap, cur, rfl, hb, hh, rest⟩⟩
    · omega
    · refine ⟨g, cap, rfl, hb, ?_⟩
      unfold Own
      rw [List.map_append, List.length_append]
      exact ⟨hl, .inr ⟨g, cap, cur, rfl, Nat.zero_le _, hh, rest⟩⟩
  have h' := h
  obtain ⟨_, ⟨rfl, hn0⟩ | ⟨g, cap, cur, rfl, _, hh, hcap, _⟩⟩ := h
  · have e0 : xs = [] := List.eq_nil_of_length_eq_zero hn0
    subst e0
    obtain ⟨v', w', hr, r1, r2, _⟩ := run_append_own (P := Try.prog) w w.heap.size t 0 3 i0 _ 1 8 ht hi hz0 hz1 hz2 rfl (by decide) (.slice none 0 0) 0 [] (World.ownsRow_nil w _ _ _) ⟨B, 0, none⟩ 1 c [Value.int .i64 x] rfl hnews h1 (by simp only [maxLen]; omega) (by omega) (Nat.le_refl _)
    obtain ⟨g, cap, rfl, hb, ho⟩ := fin v' w' r1
    exact ⟨g, cap, w', fun _ => hr, ho, r2, .inr hb⟩
  · by_cases hroom : xs.length + 1 ≤ cap
    · obtain ⟨w', hr, r1, r2⟩ := run_append_own_spare (P := Try.prog) w 0 t 0 3 i0 1 ht hi hz1 g xs.length cap _ h' ⟨B, 0, none⟩ 1 c [Value.int .i64 x] rfl hnews h1 hroom
      refine ⟨g, cap, w', fun _ => hr, ?_, r2, .inl rfl⟩
      unfold Own
      rw [List.map_append, List.length_append]
      exact r1
    · obtain ⟨v', w', hr, r1, r2⟩ := run_append_arg_grows (P := Try.prog) w t 0 3 i0 _ 1 8 ht hi hz0 hz1 hz2 rfl (by decide) ⟨g, 0, none⟩ xs.length cap (xs.map (Value.int .i64)) (by simp) (World.ownsRow.cells h' rfl) ⟨B, 0, none⟩ 1 c [Value.int .i64 x] rfl hnews (by omega) (by simp only [maxLen]; omega) (by omega)
      obtain ⟨g', cap', rfl, hb, ho⟩ := fin v' w' r1
      exact ⟨g', cap', w', fun _ => hr, ho, ⟨r2.os, r2.tape, r2.output, r2.size, fun k hk _ => r2.block k hk (by simp)⟩, .inr hb⟩

/-- what Insert hands back -/
def InsR (w w' : World) (v : Value) (xs : List Int) (e : Ending) : Prop := ∃ g cap, e = .returned (.slice (some ⟨g, 0, none⟩) xs.length cap) ∧ Own w' 3 0 (.slice (some ⟨g, 0, none⟩) xs.length cap) xs ∧ w.grownBy w' v.ownBlock ∧ (v.ownBlock = some g ∨ w.heap.size ≤ g)

set_option maxRecDepth 20000 in
set_option maxHeartbeats 4000000 in
theorem insert_end (v : Value) (n : Nat) (xs : List Int) (t : Int) (vb : Nat) (w : World) (h : Own w 3 0 v xs) (hn : xs.length = n) (hr : n + 1 ≤ 1000000000) (hb : Blk w 3 vb [t]) :
    Calls Try.prog 41 #[v, .int .i64 (n : Int), .slice (some ⟨vb, 0, none⟩) 1 1] w fun e w' => InsR w w' v (xs ++ [t]) e := by
  obtain ⟨a, c, e, -⟩ : ∃ a c, v = .slice a n c ∧ True := by
    obtain ⟨_, ⟨e, h0⟩ | ⟨g, cap, cur, e, _⟩⟩ := h
    · exact ⟨none, 0, by rw [e, ← hn, h0], trivial⟩
    · exact ⟨_, cap, by rw [e, hn], trivial⟩
  obtain ⟨g, cap, w1, hrun, r1, r2, r3⟩ : ∃ g cap w', (∀ ty, Sem.run Try.prog (Builtin.append_ #[61, 31] ty #[v, .slice (some ⟨vb, 0, none⟩) 1 1]) w = .ok (.slice (some ⟨g, 0, none⟩) (xs.length + 1) cap) w') ∧ Own w' 3 0 (.slice (some ⟨g, 0, none⟩) (xs.length + 1) cap) (xs ++ [t]) ∧ w.grownBy w' v.ownBlock ∧ (v.ownBlock = some g ∨ w.heap.size ≤ g) := by
    obtain ⟨g, cap, w', hrun, r⟩ := run_push1 w 61 Try.underlying61 v xs t vb 1 h (by omega) (by simpa using hb.cell (i := 0) (by simp))
    refine ⟨g, cap, w', fun ty => ?_, r⟩
    obtain ⟨i0, hi, _⟩ := info_parts infoN
    rw [e, append_types w _ _ _ _ ty i0 Try.underlying61 Try.underlying31 hi, ← e]
    exact hrun ty
  have HX : Hid (InsR w w1 v (xs ++ [t]) (.returned (.slice (some ⟨g, 0, none⟩) (n + 1) cap))) := by
    refine ⟨g, cap, by simp [hn], ?_, r2, r3⟩
    rw [List.length_append]
    exact r1
  have ha : a = none → n = 0 ∧ c = 0 := by
    intro ea
    obtain ⟨_, ⟨e2, h0⟩ | ⟨g, cap, cur, e2, _⟩⟩ := h
    · rw [e] at e2; injection e2 with _ q1 q2; exact ⟨q1, q2⟩
    · rw [e, ea] at e2; cases e2
  have hnc : n ≤ c := by
    obtain ⟨_, ⟨e2, h0⟩ | ⟨g, cap, cur, e2, _, _, h1, _⟩⟩ := h
    · rw [e] at e2; injection e2 with _ q1 q2; omega
    · rw [e] at e2; injection e2 with _ q1 q2; omega
  rw [hn] at hrun
  subst e
  clear h hb r1 r2 r3 hn
  match a, ha with
  | none, ha =>
    obtain ⟨rfl, rfl⟩ := ha rfl
    clear ha
    go_enter Try.func41, Try.ntmps41
    go_wp2_with (at_builtin; refine wpList_append_eq _ rfl _ _ _ _ rfl _ _ rfl rfl (hrun _) ?_)
    go_ret
    exact unhide HX
  | some ⟨ab, ao, asp⟩, _ =>
    clear ha
    go_enter Try.func41, Try.ntmps41
    go_wp2_with (at_builtin; refine wpList_append_eq _ rfl _ _ _ _ rfl _ _ rfl rfl (hrun _) ?_)
    all_goals (go_ret; exact unhide HX)

end Go.Proofs.Ytenbmfhhmbfgoaa
