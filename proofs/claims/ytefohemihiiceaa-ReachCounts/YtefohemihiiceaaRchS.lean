
/- A region that draws its order, within a round: by an invariant of what has come up, over any operations of which only what counts is known. -/
import Derived.Test.YtefohemihiiceaaRchQ
import Derived.OrdersIn
namespace Go.Proofs.Ytefohemihiiceaa
open Go.RowKit Go.Shelf
attribute [local go_sem] Oper.semAt_some

theorem any_inv {F : Fence} {n : Nat} {P : Program} {ops : Array Oper} {Q : Exit → Act → World → Prop} (Inv : Array Bool → Act → World → Prop)
    (hstep : ∀ i listed a w, i ∈ Region.ready .any ops listed → Inv listed a w → ∀ K : Act → World → Prop, (∀ a' w', Inv (listed.setIfInBounds i true) a' w' → K a' w') → wpOpIn F n P ops Q i K a w)
    (hend : ∀ listed a w, Region.ready .any ops listed = [] → Inv listed a w → Q .normal a w) :
    ∀ fuel listed a w, Inv listed a w → listed.toList.count false ≤ fuel → wpAnyIn F n P .any ops Q fuel listed a w := by
  have key : ∀ (listed : Array Bool) i, i ∈ Region.ready .any ops listed → listed.toList[i]? = some false := fun listed i hi => by
    have h0 := (mem_ready.1 hi).1
    cases e : listed[i]? with
    | none => rw [Array.getD_eq_getD_getElem?, e] at h0; cases h0
    | some b => rw [Array.getD_eq_getD_getElem?, e] at h0; rw [Array.getElem?_toList, e]; exact congrArg some h0
  intro fuel
  induction fuel with
  | zero =>
    intro listed a w hI hc
    have hr : Region.ready .any ops listed = [] := by
      cases hr : Region.ready .any ops listed with
      | nil => rfl
      | cons i rs =>
        have h1 := key listed i (by rw [hr]; exact List.mem_cons_self ..)
        have h2 : 0 < listed.toList.count false := List.count_pos_iff.2 (List.mem_of_getElem? h1)
        omega
    exact ⟨hr, hend _ _ _ hr hI⟩
  | succ fuel ih =>
    intro listed a w hI hc
    refine ⟨fun h0 => hend _ _ _ h0 hI, fun i hi => hstep i listed a w hi hI _ fun a' w' h' => ih _ _ _ h' ?_⟩
    have h1 := key listed i hi
    obtain ⟨hlt, h3⟩ := List.getElem?_eq_some_iff.1 h1
    rw [Array.toList_setIfInBounds, List.count_set hlt, h3]
    have h4 : 0 < listed.toList.count false := List.count_pos_iff.2 (List.mem_of_getElem? h1)
    rw [if_pos (by rfl), if_neg (by decide)]
    omega

/-- what an operation is, as far as it counts -/
def opK (o : Oper) : Option (Nat × Bool) × Option Nat × Op := (o.guard, o.dst, o.op)
theorem opK_out {ops : Array Oper} {i : Nat} {d : Option Nat} {p : Op} (h : ops[i]?.map opK = some (none, d, p)) : ∃ o, ops[i]? = some o ∧ o.guard = none ∧ o.dst = d ∧ o.op = p := by
  cases e : ops[i]? with
  | none => rw [e] at h; cases h
  | some o =>
    rw [e] at h
    simp only [Option.map_some, Option.some.injEq, opK, Prod.mk.injEq] at h
    exact ⟨o, rfl, h.1, h.2.1, h.2.2⟩

/-- one operation of a round, whose run is known -/
theorem op_runs {F : Fence} {n : Nat} {P : Program} {ops : Array Oper} {Q : Exit → Act → World → Prop} {l i : Nat} {d : Option Nat} {p : Op} {K : Act → World → Prop} {a : Act} {w : World} (hro : F.round = some l) (hfn : ∀ f, F.fn f)
    (hk : ops[i]?.map opK = some (none, d, p)) (hnd : ∀ c, p ≠ .defer c)
    (h : ∀ o : Oper, o.guard = none → o.dst = d → o.op = p → ∃ v w', (execOp a.eval o).run P w = .ok (.value v) w' ∧ K (a.put d v) w') : wpOpIn F n P ops Q i K a w := by
  obtain ⟨o, ho, h1, h2, h3⟩ := opK_out hk
  obtain ⟨v, w', hrun, hK⟩ := h o h1 h2 h3
  unfold wpOpIn
  rw [ho]
  have hw : Region.wanted o (yielded ops a.tmps) = true := by simp [Region.wanted, h1]
  simp only [hw, if_true]
  unfold Oper.wpIn
  refine ⟨fun f _ => hfn f, ?_⟩
  rw [hro, Oper.semAt_some l a.eval o (fun c e => hnd c (by rw [← h3]; exact e)), hrun, Oper.uponIn_value, h2]
  exact hK

theorem load_boxU {w : World} {a : Act} {o : Oper} {x : Operand} {p : Addr} {v : Value} (hop : o.op = Op.load 30 x) (hx : a.eval x = .pointer (some p)) (hc : w.cell? p = some v) : (execOp a.eval o).run Try.prog w = .ok (.value v) w := by
  unfold execOp
  rw [hop]
  dsimp only
  rw [hx]
  go_simp
theorem load_rowU {w : World} {a : Act} {o : Oper} {x : Operand} {p : Addr} {v : Value} (hop : o.op = Op.load 36 x) (hx : a.eval x = .pointer (some p)) (hc : w.cell? p = some v) : (execOp a.eval o).run Try.prog w = .ok (.value v) w := by
  unfold execOp
  rw [hop]
  dsimp only
  rw [hx]
  go_simp
theorem load_useU {w : World} {a : Act} {o : Oper} {x : Operand} {B : Nat} {u v : Value} (hop : o.op = Op.load 39 x) (hx : a.eval x = .pointer (some ⟨B, 0, none⟩)) (hc : w.cell? ⟨B, 0, none⟩ = some u) (hd : w.cell? ⟨B, 1, none⟩ = some v) : (execOp a.eval o).run Try.prog w = .ok (.value (.agg #[u, v])) w := by
  unfold execOp
  rw [hop]
  dsimp only
  rw [hx]
  go_simp
theorem move_U {w : World} {a : Act} {o : Oper} {x : Operand} {v : Value} (hop : o.op = Op.move x) (hx : a.eval x = v) : (execOp a.eval o).run Try.prog w = .ok (.value v) w := by
  unfold execOp
  rw [hop]
  dsimp only
  rw [hx]
  go_simp
theorem index_U {w : World} {a : Act} {o : Oper} {x y : Operand} {C N k : Nat} (hop : o.op = Op.indexAddr 30 x y) (hx : a.eval x = .slice (some ⟨C, 0, none⟩) N N) (hy : a.eval y = .int .i64 (k : Int)) (hk : k < N) : (execOp a.eval o).run Try.prog w = .ok (.value (.pointer (some ⟨C, k, none⟩))) w := by
  have hkI : (k : Int) < (N : Int) := by omega
  unfold execOp
  rw [hop]
  dsimp only
  rw [hx, hy]
  go_simp
theorem build_U {w : World} {a : Act} {o : Oper} {u v : Int} (hop : o.op = Op.buildSlice 36 1 #[(0, .tmp 26)]) (hx : a.eval (.tmp 26) = .agg #[.int .i64 u, .int .i64 v]) : (execOp a.eval o).run Try.prog w = .ok (.value (.slice (some ⟨w.heap.size, 0, none⟩) 1 1)) (w.alloc (.cells #[.int .i64 u, .int .i64 v] 39)) := by
  have hx2 : a.tmps[26]?.getD undef = .agg #[.int .i64 u, .int .i64 v] := by
    have : a.eval (.tmp 26) = a.tmps.getD 26 undef := rfl
    rw [this, Array.getD_eq_getD_getElem?] at hx
    exact hx
  unfold execOp
  rw [hop]
  go_simp
theorem store_U {w : World} {a : Act} {o : Oper} {x y : Operand} {p : Addr} {u : Value} {b : Option Addr} {n k : Nat} (hop : o.op = Op.store 36 x y) (hx : a.eval x = .pointer (some p)) (hy : a.eval y = .slice b n k) (hc : w.cell? p = some u) (hf : w.frozen? p = false) : (execOp a.eval o).run Try.prog w = .ok .skip (w.setCell p (.slice b n k)) := by
  unfold execOp
  rw [hop]
  dsimp only
  rw [hx, hy]
  go_simp

theorem append_U {w w' : World} {a : Act} {o : Oper} {x y : Operand} {v u r : Value} (hop : o.op = Op.call { callee := Callee.builtin Builtin.append, args := #[x, y], argTypes := #[36, 36] }) (hx : a.eval x = v) (hy : a.eval y = u)
    (hrun : (Builtin.append_ #[36, 36] o.type #[v, u]).run Try.prog w = .ok r w') : (execOp a.eval o).run Try.prog w = .ok (.value r) w' := by
  simp [execOp, hop, resolve, invoke, builtin, hx, hy, hrun, Result.andThen]

theorem op_skips {F : Fence} {n : Nat} {P : Program} {ops : Array Oper} {Q : Exit → Act → World → Prop} {l i : Nat} {d : Option Nat} {p : Op} {K : Act → World → Prop} {a : Act} {w : World} (hro : F.round = some l) (hfn : ∀ f, F.fn f)
    (hk : ops[i]?.map opK = some (none, d, p)) (hnd : ∀ c, p ≠ .defer c)
    (h : ∀ o : Oper, o.guard = none → o.dst = d → o.op = p → ∃ w', (execOp a.eval o).run P w = .ok .skip w' ∧ K (a.put d undef) w') : wpOpIn F n P ops Q i K a w := by
  obtain ⟨o, ho, h1, h2, h3⟩ := opK_out hk
  obtain ⟨w', hrun, hK⟩ := h o h1 h2 h3
  unfold wpOpIn
  rw [ho]
  have hw : Region.wanted o (yielded ops a.tmps) = true := by simp [Region.wanted, h1]
  simp only [hw, if_true]
  unfold Oper.wpIn
  refine ⟨fun f _ => hfn f, ?_⟩
  rw [hro, Oper.semAt_some l a.eval o (fun c e => hnd c (by rw [← h3]; exact e)), hrun, Oper.uponIn_skip, h2]
  exact hK

/-! ### the region of Users -/
/-- what the slots hold, once they are reckoned -/
def vU (C N y m s : Nat) (rv nv ap : Value) : Nat → Value
  | 0 => .slice (some ⟨C, 0, none⟩) N N
  | 1 => .int .i64 (y : Int)
  | 2 => .slice (some ⟨C, 0, none⟩) N N
  | 3 => .int .i64 (y : Int)
  | 4 => .pointer (some ⟨C, y, none⟩)
  | 5 => rv
  | 6 => .agg #[.int .i64 (m : Int), .int .i64 (s : Int)]
  | 7 => nv
  | 8 => ap
  | _ => .pointer (some ⟨C, y, none⟩)
/-- what has come up so far -/
structure SlU (val : Nat → Value) (C Bx y : Nat) (listed : Array Bool) (a : Act) : Prop where
  sz : listed.size = 11
  ts : a.tmps.size = 31
  t6 : a.eval (.tmp 6) = .pointer (some ⟨C + 1, 0, none⟩)
  t7 : a.eval (.tmp 7) = .int .i64 (y : Int)
  t8 : a.eval (.tmp 8) = .pointer (some ⟨Bx, 0, none⟩)
  v : ∀ k, k ≤ 9 → listed.getD k false = true → a.eval (.tmp (20 + k)) = val k
theorem eval_put {a : Act} {d k : Nat} {v : Value} (hd : d < a.tmps.size) : (a.put (some d) v).eval (.tmp k) = if k = d then v else a.eval (.tmp k) := by
  show ((a.put (some d) v).tmps).getD k undef = _
  have e : (a.put (some d) v).tmps = a.tmps.setIfInBounds d v := rfl
  rw [e, Array.getD_eq_getD_getElem?]
  by_cases h : k = d
  · subst h
    rw [if_pos rfl, Array.getElem?_setIfInBounds_self_of_lt hd]
    rfl
  · rw [if_neg h, Array.getElem?_setIfInBounds_ne (Ne.symm h), ← Array.getD_eq_getD_getElem?]
    rfl
theorem listed_set {listed : Array Bool} {i k : Nat} (hs : i < listed.size) (d : Bool) : (listed.setIfInBounds i true).getD k d = if k = i then true else listed.getD k d := by
  rw [Array.getD_eq_getD_getElem?]
  by_cases h : k = i
  · subst h
    rw [if_pos rfl, Array.getElem?_setIfInBounds_self_of_lt hs]
    rfl
  · rw [if_neg h, Array.getElem?_setIfInBounds_ne (Ne.symm h), ← Array.getD_eq_getD_getElem?]
theorem SlU.put {val : Nat → Value} {C Bx y : Nat} {listed : Array Bool} {a : Act} (h : SlU val C Bx y listed a) {i : Nat} (hi : i ≤ 9) : SlU val C Bx y (listed.setIfInBounds i true) (a.put (some (20 + i)) (val i)) := by
  have hd : 20 + i < a.tmps.size := by rw [h.ts]; omega
  refine ⟨by rw [Array.size_setIfInBounds]; exact h.sz, by show (a.tmps.setIfInBounds _ _).size = 31; rw [Array.size_setIfInBounds]; exact h.ts, ?_, ?_, ?_, fun k hk hl => ?_⟩
  · rw [eval_put hd, if_neg (by omega)]; exact h.t6
  · rw [eval_put hd, if_neg (by omega)]; exact h.t7
  · rw [eval_put hd, if_neg (by omega)]; exact h.t8
  · rw [eval_put hd]
    by_cases e : k = i
    · subst e; rw [if_pos rfl]
    · rw [if_neg (by omega)]
      rw [listed_set (by rw [h.sz]; omega), if_neg e] at hl
      exact h.v k hk hl
theorem SlU.as {val val' : Nat → Value} {C Bx y : Nat} {listed : Array Bool} {a : Act} (h : SlU val C Bx y listed a) (h8 : listed.getD 8 false = false) (e : ∀ k, k ≠ 8 → val k = val' k) : SlU val' C Bx y listed a :=
  ⟨h.sz, h.ts, h.t6, h.t7, h.t8, fun k hk hl => by rw [← e k (fun e2 => by rw [e2, h8] at hl; cases hl)]; exact h.v k hk hl⟩
theorem SlU.last {val : Nat → Value} {C Bx y : Nat} {listed : Array Bool} {a : Act} (h : SlU val C Bx y listed a) (v : Value) : SlU val C Bx y (listed.setIfInBounds 10 true) (a.put none v) :=
  ⟨by rw [Array.size_setIfInBounds]; exact h.sz, h.ts, h.t6, h.t7, h.t8, fun k hk hl => by rw [listed_set (by rw [h.sz]; omega), if_neg (by omega)] at hl; exact h.v k hk hl⟩

end Go.Proofs.Ytefohemihiiceaa
