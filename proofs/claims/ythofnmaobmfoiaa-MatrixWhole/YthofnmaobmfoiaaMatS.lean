
/- The region that makes three tensors by three calls, in whatever order: by its states, over any operations of which only what counts is known. -/
import Derived.Test.YthofnmaobmfoiaaMatR
namespace Go.Proofs.Ythofnmaobmfoiaa
open Go.RowKit

theorem ch_get (k : Nat) (A : Act) (u5 u6 u7 u37 u49 u61 : Value) (hk : k ≠ 5 ∧ k ≠ 6 ∧ k ≠ 7 ∧ k ≠ 37 ∧ k ≠ 49 ∧ k ≠ 61) : (ch A u5 u6 u7 u37 u49 u61).tmps[k]?.getD undef = A.tmps[k]?.getD undef := by
  obtain ⟨h1, h2, h3, h4, h5, h6⟩ := hk
  simp only [ch]
  rw [Array.getElem?_setIfInBounds_ne (Ne.symm h6), Array.getElem?_setIfInBounds_ne (Ne.symm h5), Array.getElem?_setIfInBounds_ne (Ne.symm h4), Array.getElem?_setIfInBounds_ne (Ne.symm h3), Array.getElem?_setIfInBounds_ne (Ne.symm h2), Array.getElem?_setIfInBounds_ne (Ne.symm h1)]
theorem ch_get5 (A : Act) (u5 u6 u7 u37 u49 u61 : Value) (hs : 61 < A.tmps.size) : (ch A u5 u6 u7 u37 u49 u61).tmps[5]?.getD undef = u5 := by
  simp only [ch]
  rw [Array.getElem?_setIfInBounds_ne (by decide : (61 : Nat) ≠ 5), Array.getElem?_setIfInBounds_ne (by decide : (49 : Nat) ≠ 5), Array.getElem?_setIfInBounds_ne (by decide : (37 : Nat) ≠ 5), Array.getElem?_setIfInBounds_ne (by decide : (7 : Nat) ≠ 5), Array.getElem?_setIfInBounds_ne (by decide : (6 : Nat) ≠ 5), Array.getElem?_setIfInBounds_self_of_lt (by first | (simp only [Array.size_setIfInBounds]; omega) | omega)]
  rfl
theorem ch_get6 (A : Act) (u5 u6 u7 u37 u49 u61 : Value) (hs : 61 < A.tmps.size) : (ch A u5 u6 u7 u37 u49 u61).tmps[6]?.getD undef = u6 := by
  simp only [ch]
  rw [Array.getElem?_setIfInBounds_ne (by decide : (61 : Nat) ≠ 6), Array.getElem?_setIfInBounds_ne (by decide : (49 : Nat) ≠ 6), Array.getElem?_setIfInBounds_ne (by decide : (37 : Nat) ≠ 6), Array.getElem?_setIfInBounds_ne (by decide : (7 : Nat) ≠ 6), Array.getElem?_setIfInBounds_self_of_lt (by first | (simp only [Array.size_setIfInBounds]; omega) | omega)]
  rfl
theorem ch_get7 (A : Act) (u5 u6 u7 u37 u49 u61 : Value) (hs : 61 < A.tmps.size) : (ch A u5 u6 u7 u37 u49 u61).tmps[7]?.getD undef = u7 := by
  simp only [ch]
  rw [Array.getElem?_setIfInBounds_ne (by decide : (61 : Nat) ≠ 7), Array.getElem?_setIfInBounds_ne (by decide : (49 : Nat) ≠ 7), Array.getElem?_setIfInBounds_ne (by decide : (37 : Nat) ≠ 7), Array.getElem?_setIfInBounds_self_of_lt (by first | (simp only [Array.size_setIfInBounds]; omega) | omega)]
  rfl
theorem ch_get37 (A : Act) (u5 u6 u7 u37 u49 u61 : Value) (hs : 61 < A.tmps.size) : (ch A u5 u6 u7 u37 u49 u61).tmps[37]?.getD undef = u37 := by
  simp only [ch]
  rw [Array.getElem?_setIfInBounds_ne (by decide : (61 : Nat) ≠ 37), Array.getElem?_setIfInBounds_ne (by decide : (49 : Nat) ≠ 37), Array.getElem?_setIfInBounds_self_of_lt (by first | (simp only [Array.size_setIfInBounds]; omega) | omega)]
  rfl
theorem ch_get49 (A : Act) (u5 u6 u7 u37 u49 u61 : Value) (hs : 61 < A.tmps.size) : (ch A u5 u6 u7 u37 u49 u61).tmps[49]?.getD undef = u49 := by
  simp only [ch]
  rw [Array.getElem?_setIfInBounds_ne (by decide : (61 : Nat) ≠ 49), Array.getElem?_setIfInBounds_self_of_lt (by first | (simp only [Array.size_setIfInBounds]; omega) | omega)]
  rfl
theorem ch_get61 (A : Act) (u5 u6 u7 u37 u49 u61 : Value) (hs : 61 < A.tmps.size) : (ch A u5 u6 u7 u37 u49 u61).tmps[61]?.getD undef = u61 := by
  simp only [ch]
  rw [Array.getElem?_setIfInBounds_self_of_lt (by first | (simp only [Array.size_setIfInBounds]; omega) | omega)]
  rfl
/-- which operations have come up -/
def li (b5 b6 b7 : Bool) (c s : Nat) : Array Bool := #[true, true, true, true, true, true, true, true, true, true, true, Nat.ble 1 c, true, true, true, true, true, true, true, true, true, true, true, Nat.ble 2 c, true, true, true, true, true, true, true, true, true, true, true, Nat.ble 3 c, b5, b6, b7, Nat.ble 1 s, Nat.ble 2 s, Nat.ble 3 s]
theorem li_36 {b5 b6 b7 : Bool} {c s : Nat} : (li b5 b6 b7 c s).setIfInBounds 36 true = li true b6 b7 c s := rfl
theorem li_37 {b5 b6 b7 : Bool} {c s : Nat} : (li b5 b6 b7 c s).setIfInBounds 37 true = li b5 true b7 c s := rfl
theorem li_38 {b5 b6 b7 : Bool} {c s : Nat} : (li b5 b6 b7 c s).setIfInBounds 38 true = li b5 b6 true c s := rfl
theorem li_11 {b5 b6 b7 : Bool} : (li b5 b6 b7 0 0).setIfInBounds 11 true = li b5 b6 b7 1 0 := rfl
theorem li_23 {b5 b6 b7 : Bool} : (li b5 b6 b7 1 0).setIfInBounds 23 true = li b5 b6 b7 2 0 := rfl
theorem li_35 {b5 b6 b7 : Bool} : (li b5 b6 b7 2 0).setIfInBounds 35 true = li b5 b6 b7 3 0 := rfl
theorem li_39 {b5 b6 b7 : Bool} : (li b5 b6 b7 3 0).setIfInBounds 39 true = li b5 b6 b7 3 1 := rfl
theorem li_40 {b5 b6 b7 : Bool} : (li b5 b6 b7 3 1).setIfInBounds 40 true = li b5 b6 b7 3 2 := rfl
theorem li_41 {b5 b6 b7 : Bool} : (li b5 b6 b7 3 2).setIfInBounds 41 true = li b5 b6 b7 3 3 := rfl
/-- what an operation is, as far as it counts -/
def opKey (o : Oper) : Option (Nat × Bool) × Option Nat × Op := (o.guard, o.dst, o.op)
theorem op_out {ops : Array Oper} {i : Nat} {d : Option Nat} {p : Op} (h : ops[i]?.map opKey = some (none, d, p)) : ∃ o, ops[i]? = some o ∧ o.guard = none ∧ o.dst = d ∧ o.op = p := by
  cases e : ops[i]? with
  | none => rw [e] at h; cases h
  | some o =>
    rw [e] at h
    simp only [Option.map_some, Option.some.injEq, opKey, Prod.mk.injEq] at h
    exact ⟨o, rfl, h.1, h.2.1, h.2.2⟩

set_option maxHeartbeats 2000000 in
theorem three_made {ops : Array Oper} {Q : Exit → Act → World → Prop} {S : World → Prop} {A : Act} {w2 : World} {n0 n1 n2 n3 : Nat} {D1 D2 D3 : List Nat} {a0 : Option Addr} {l0 c0 : Nat}
    (f11 : ops[11]?.map opKey = some (none, some 37, (Op.call { callee := Callee.value (Operand.func 5), args := #[.tmp 30, .tmp 35, .tmp 36, .const (.int .i64 0)], argTypes := #[3, 3, 23, 3] })))
    (f23 : ops[23]?.map opKey = some (none, some 49, (Op.call { callee := Callee.value (Operand.func 5), args := #[.tmp 42, .tmp 47, .tmp 48, .const (.int .i64 16)], argTypes := #[3, 3, 23, 3] })))
    (f35 : ops[35]?.map opKey = some (none, some 61, (Op.call { callee := Callee.value (Operand.func 5), args := #[.tmp 54, .tmp 59, .tmp 60, .const (.int .i64 32)], argTypes := #[3, 3, 23, 3] })))
    (f36 : ops[36]?.map opKey = some (none, some 5, (Op.alloc 28)))
    (f37 : ops[37]?.map opKey = some (none, some 6, (Op.alloc 28)))
    (f38 : ops[38]?.map opKey = some (none, some 7, (Op.alloc 28)))
    (f39 : ops[39]?.map opKey = some (none, none, (Op.store 28 (.tmp 5) (.tmp 37))))
    (f40 : ops[40]?.map opKey = some (none, none, (Op.store 28 (.tmp 6) (.tmp 49))))
    (f41 : ops[41]?.map opKey = some (none, none, (Op.store 28 (.tmp 7) (.tmp 61))))
    (r111_3_3 : Region.ready .any ops (li true true true 3 3) = [])
    (r111_3_2 : Region.ready .any ops (li true true true 3 2) = [41])
    (r111_3_1 : Region.ready .any ops (li true true true 3 1) = [40])
    (r111_3_0 : Region.ready .any ops (li true true true 3 0) = [39])
    (r011_3_0 : Region.ready .any ops (li false true true 3 0) = [36])
    (r101_3_0 : Region.ready .any ops (li true false true 3 0) = [37])
    (r110_3_0 : Region.ready .any ops (li true true false 3 0) = [38])
    (r111_2_0 : Region.ready .any ops (li true true true 2 0) = [35])
    (r001_3_0 : Region.ready .any ops (li false false true 3 0) = [36, 37])
    (r010_3_0 : Region.ready .any ops (li false true false 3 0) = [36, 38])
    (r011_2_0 : Region.ready .any ops (li false true true 2 0) = [35, 36])
    (r100_3_0 : Region.ready .any ops (li true false false 3 0) = [37, 38])
    (r101_2_0 : Region.ready .any ops (li true false true 2 0) = [35, 37])
    (r110_2_0 : Region.ready .any ops (li true true false 2 0) = [35, 38])
    (r111_1_0 : Region.ready .any ops (li true true true 1 0) = [23])
    (r000_3_0 : Region.ready .any ops (li false false false 3 0) = [36, 37, 38])
    (r001_2_0 : Region.ready .any ops (li false false true 2 0) = [35, 36, 37])
    (r010_2_0 : Region.ready .any ops (li false true false 2 0) = [35, 36, 38])
    (r011_1_0 : Region.ready .any ops (li false true true 1 0) = [23, 36])
    (r100_2_0 : Region.ready .any ops (li true false false 2 0) = [35, 37, 38])
    (r101_1_0 : Region.ready .any ops (li true false true 1 0) = [23, 37])
    (r110_1_0 : Region.ready .any ops (li true true false 1 0) = [23, 38])
    (r111_0_0 : Region.ready .any ops (li true true true 0 0) = [11])
    (r000_2_0 : Region.ready .any ops (li false false false 2 0) = [35, 36, 37, 38])
    (r001_1_0 : Region.ready .any ops (li false false true 1 0) = [23, 36, 37])
    (r010_1_0 : Region.ready .any ops (li false true false 1 0) = [23, 36, 38])
    (r011_0_0 : Region.ready .any ops (li false true true 0 0) = [11, 36])
    (r100_1_0 : Region.ready .any ops (li true false false 1 0) = [23, 37, 38])
    (r101_0_0 : Region.ready .any ops (li true false true 0 0) = [11, 37])
    (r110_0_0 : Region.ready .any ops (li true true false 0 0) = [11, 38])
    (r000_1_0 : Region.ready .any ops (li false false false 1 0) = [23, 36, 37, 38])
    (r001_0_0 : Region.ready .any ops (li false false true 0 0) = [11, 36, 37])
    (r010_0_0 : Region.ready .any ops (li false true false 0 0) = [11, 36, 38])
    (r100_0_0 : Region.ready .any ops (li true false false 0 0) = [11, 37, 38])
    (r000_0_0 : Region.ready .any ops (li false false false 0 0) = [11, 36, 37, 38])
    (hA30 : A.tmps[30]?.getD undef = .int .i64 (n0 : Int))
    (hA35 : A.tmps[35]?.getD undef = .int .i64 (n1 : Int))
    (hA36 : A.tmps[36]?.getD undef = .slice a0 l0 c0)
    (hA42 : A.tmps[42]?.getD undef = .int .i64 (n1 : Int))
    (hA47 : A.tmps[47]?.getD undef = .int .i64 (n2 : Int))
    (hA48 : A.tmps[48]?.getD undef = .slice a0 l0 c0)
    (hA54 : A.tmps[54]?.getD undef = .int .i64 (n2 : Int))
    (hA59 : A.tmps[59]?.getD undef = .int .i64 (n3 : Int))
    (hA60 : A.tmps[60]?.getD undef = .slice a0 l0 c0)
    (HM1 : ∀ w, Kp w2 w → Calls Try.prog 5 #[.int .i64 (n0 : Int), .int .i64 (n1 : Int), .slice a0 l0 c0, .int .i64 0] w fun e w' => ∃ v, e = .returned v ∧ Tn w2 w' v n0 n1 D1 ∧ Kp w w')
    (HM2 : ∀ w, Kp w2 w → Calls Try.prog 5 #[.int .i64 (n1 : Int), .int .i64 (n2 : Int), .slice a0 l0 c0, .int .i64 16] w fun e w' => ∃ v, e = .returned v ∧ Tn w2 w' v n1 n2 D2 ∧ Kp w w')
    (HM3 : ∀ w, Kp w2 w → Calls Try.prog 5 #[.int .i64 (n2 : Int), .int .i64 (n3 : Int), .slice a0 l0 c0, .int .i64 32] w fun e w' => ∃ v, e = .returned v ∧ Tn w2 w' v n2 n3 D3 ∧ Kp w w')
    (SK : ∀ w', Kp w2 w' → S w') (hsz : 61 < A.tmps.size)
    (fin : ∀ u5 u6 u7 u37 u49 u61 w, St w2 w true true true true true true true true true u5 u6 u7 u37 u49 u61 n0 n1 n2 n3 D1 D2 D3 → Q .normal (ch A u5 u6 u7 u37 u49 u61) w) :
    ∀ w, Kp w2 w → wpAnyH Try.prog .any ops Q S 9 (li false false false 0 0) (ch A undef undef undef undef undef undef) w := by
  obtain ⟨o11, e11, g11, d11, p11⟩ := op_out f11
  obtain ⟨o23, e23, g23, d23, p23⟩ := op_out f23
  obtain ⟨o35, e35, g35, d35, p35⟩ := op_out f35
  obtain ⟨o36, e36, g36, d36, p36⟩ := op_out f36
  obtain ⟨o37, e37, g37, d37, p37⟩ := op_out f37
  obtain ⟨o38, e38, g38, d38, p38⟩ := op_out f38
  obtain ⟨o39, e39, g39, d39, p39⟩ := op_out f39
  obtain ⟨o40, e40, g40, d40, p40⟩ := op_out f40
  obtain ⟨o41, e41, g41, d41, p41⟩ := op_out f41
  have K111_3_3 : ∀ u5 u6 u7 u37 u49 u61 w, St w2 w true true true true true true true true true u5 u6 u7 u37 u49 u61 n0 n1 n2 n3 D1 D2 D3 → wpAnyH Try.prog .any ops Q S 0 (li true true true 3 3) (ch A u5 u6 u7 u37 u49 u61) w := by
    intro u5 u6 u7 u37 u49 u61 w h
    exact wpAnyH_done r111_3_3 (fin _ _ _ _ _ _ _ h) _
  have K111_3_2 : ∀ u5 u6 u7 u37 u49 u61 w, St w2 w true true true true true true true true false u5 u6 u7 u37 u49 u61 n0 n1 n2 n3 D1 D2 D3 → wpAnyH Try.prog .any ops Q S 1 (li true true true 3 2) (ch A u5 u6 u7 u37 u49 u61) w := by
    intro u5 u6 u7 u37 u49 u61 w h
    refine wpAnyH_ready r111_3_2 (by simp) ?_
    refine AllReadyH.cons e41 (fun K hK => ?_) ?_
    · obtain ⟨T, a1, m1, d1, a2, m2, d2, x, y, e1, e2, e3, hn⟩ := h.st7
      refine step_store g41 7 61 p41 d41 T a1 a2 m1 d1 m2 d2 x y ((ch_get7 A u5 u6 u7 u37 u49 u61 hsz).trans e1) ((ch_get61 A u5 u6 u7 u37 u49 u61 hsz).trans e2) e3 ?_
      refine hK.out _ _ (SK _ hn.kp) (fun _ => ?_)
      rw [li_41]
      exact K111_3_3 _ _ _ _ _ _ _ hn
    exact AllReadyH.nil
  have K111_3_1 : ∀ u5 u6 u7 u37 u49 u61 w, St w2 w true true true true true true true false false u5 u6 u7 u37 u49 u61 n0 n1 n2 n3 D1 D2 D3 → wpAnyH Try.prog .any ops Q S 2 (li true true true 3 1) (ch A u5 u6 u7 u37 u49 u61) w := by
    intro u5 u6 u7 u37 u49 u61 w h
    refine wpAnyH_ready r111_3_1 (by simp) ?_
    refine AllReadyH.cons e40 (fun K hK => ?_) ?_
    · obtain ⟨T, a1, m1, d1, a2, m2, d2, x, y, e1, e2, e3, hn⟩ := h.st6
      refine step_store g40 6 49 p40 d40 T a1 a2 m1 d1 m2 d2 x y ((ch_get6 A u5 u6 u7 u37 u49 u61 hsz).trans e1) ((ch_get49 A u5 u6 u7 u37 u49 u61 hsz).trans e2) e3 ?_
      refine hK.out _ _ (SK _ hn.kp) (fun _ => ?_)
      rw [li_40]
      exact K111_3_2 _ _ _ _ _ _ _ hn
    exact AllReadyH.nil
  have K111_3_0 : ∀ u5 u6 u7 u37 u49 u61 w, St w2 w true true true true true true false false false u5 u6 u7 u37 u49 u61 n0 n1 n2 n3 D1 D2 D3 → wpAnyH Try.prog .any ops Q S 3 (li true true true 3 0) (ch A u5 u6 u7 u37 u49 u61) w := by
    intro u5 u6 u7 u37 u49 u61 w h
    refine wpAnyH_ready r111_3_0 (by simp) ?_
    refine AllReadyH.cons e39 (fun K hK => ?_) ?_
    · obtain ⟨T, a1, m1, d1, a2, m2, d2, x, y, e1, e2, e3, hn⟩ := h.st5
      refine step_store g39 5 37 p39 d39 T a1 a2 m1 d1 m2 d2 x y ((ch_get5 A u5 u6 u7 u37 u49 u61 hsz).trans e1) ((ch_get37 A u5 u6 u7 u37 u49 u61 hsz).trans e2) e3 ?_
      refine hK.out _ _ (SK _ hn.kp) (fun _ => ?_)
      rw [li_39]
      exact K111_3_1 _ _ _ _ _ _ _ hn
    exact AllReadyH.nil
  have K011_3_0 : ∀ u5 u6 u7 u37 u49 u61 w, St w2 w false true true true true true false false false u5 u6 u7 u37 u49 u61 n0 n1 n2 n3 D1 D2 D3 → wpAnyH Try.prog .any ops Q S 4 (li false true true 3 0) (ch A u5 u6 u7 u37 u49 u61) w := by
    intro u5 u6 u7 u37 u49 u61 w h
    refine wpAnyH_ready r011_3_0 (by simp) ?_
    refine AllReadyH.cons e36 (fun K hK => ?_) ?_
    · refine step_alloc g36 p36 ?_
      rw [d36, ch_put5]
      refine hK.out _ _ (SK _ h.al5.kp) (fun _ => ?_)
      rw [li_36]
      exact K111_3_0 _ _ _ _ _ _ _ h.al5
    exact AllReadyH.nil
  have K101_3_0 : ∀ u5 u6 u7 u37 u49 u61 w, St w2 w true false true true true true false false false u5 u6 u7 u37 u49 u61 n0 n1 n2 n3 D1 D2 D3 → wpAnyH Try.prog .any ops Q S 4 (li true false true 3 0) (ch A u5 u6 u7 u37 u49 u61) w := by
    intro u5 u6 u7 u37 u49 u61 w h
    refine wpAnyH_ready r101_3_0 (by simp) ?_
    refine AllReadyH.cons e37 (fun K hK => ?_) ?_
    · refine step_alloc g37 p37 ?_
      rw [d37, ch_put6]
      refine hK.out _ _ (SK _ h.al6.kp) (fun _ => ?_)
      rw [li_37]
      exact K111_3_0 _ _ _ _ _ _ _ h.al6
    exact AllReadyH.nil
  have K110_3_0 : ∀ u5 u6 u7 u37 u49 u61 w, St w2 w true true false true true true false false false u5 u6 u7 u37 u49 u61 n0 n1 n2 n3 D1 D2 D3 → wpAnyH Try.prog .any ops Q S 4 (li true true false 3 0) (ch A u5 u6 u7 u37 u49 u61) w := by
    intro u5 u6 u7 u37 u49 u61 w h
    refine wpAnyH_ready r110_3_0 (by simp) ?_
    refine AllReadyH.cons e38 (fun K hK => ?_) ?_
    · refine step_alloc g38 p38 ?_
      rw [d38, ch_put7]
      refine hK.out _ _ (SK _ h.al7.kp) (fun _ => ?_)
      rw [li_38]
      exact K111_3_0 _ _ _ _ _ _ _ h.al7
    exact AllReadyH.nil
  have K111_2_0 : ∀ u5 u6 u7 u37 u49 u61 w, St w2 w true true true true true false false false false u5 u6 u7 u37 u49 u61 n0 n1 n2 n3 D1 D2 D3 → wpAnyH Try.prog .any ops Q S 4 (li true true true 2 0) (ch A u5 u6 u7 u37 u49 u61) w := by
    intro u5 u6 u7 u37 u49 u61 w h
    refine wpAnyH_ready r111_2_0 (by simp) ?_
    refine AllReadyH.cons e35 (fun K hK => ?_) ?_
    · refine step_call g35 54 59 60 _ _ p35 _ _ _ ((ch_get 54 A u5 u6 u7 u37 u49 u61 (by decide)).trans hA54) ((ch_get 59 A u5 u6 u7 u37 u49 u61 (by decide)).trans hA59) ((ch_get 60 A u5 u6 u7 u37 u49 u61 (by decide)).trans hA60) ?_
      refine (HM3 w h.kp).mono ?_
      rintro e w' ⟨v, rfl, t, k⟩
      refine ⟨v, rfl, ?_⟩
      rw [d35, ch_put61]
      refine hK.out _ _ (SK _ (h.ca3 k t).kp) (fun _ => ?_)
      rw [li_35]
      exact K111_3_0 _ _ _ _ _ _ _ (h.ca3 k t)
    exact AllReadyH.nil
  have K001_3_0 : ∀ u5 u6 u7 u37 u49 u61 w, St w2 w false false true true true true false false false u5 u6 u7 u37 u49 u61 n0 n1 n2 n3 D1 D2 D3 → wpAnyH Try.prog .any ops Q S 5 (li false false true 3 0) (ch A u5 u6 u7 u37 u49 u61) w := by
    intro u5 u6 u7 u37 u49 u61 w h
    refine wpAnyH_ready r001_3_0 (by simp) ?_
    refine AllReadyH.cons e36 (fun K hK => ?_) ?_
    · refine step_alloc g36 p36 ?_
      rw [d36, ch_put5]
      refine hK.out _ _ (SK _ h.al5.kp) (fun _ => ?_)
      rw [li_36]
      exact K101_3_0 _ _ _ _ _ _ _ h.al5
    refine AllReadyH.cons e37 (fun K hK => ?_) ?_
    · refine step_alloc g37 p37 ?_
      rw [d37, ch_put6]
      refine hK.out _ _ (SK _ h.al6.kp) (fun _ => ?_)
      rw [li_37]
      exact K011_3_0 _ _ _ _ _ _ _ h.al6
    exact AllReadyH.nil
  have K010_3_0 : ∀ u5 u6 u7 u37 u49 u61 w, St w2 w false true false true true true false false false u5 u6 u7 u37 u49 u61 n0 n1 n2 n3 D1 D2 D3 → wpAnyH Try.prog .any ops Q S 5 (li false true false 3 0) (ch A u5 u6 u7 u37 u49 u61) w := by
    intro u5 u6 u7 u37 u49 u61 w h
    refine wpAnyH_ready r010_3_0 (by simp) ?_
    refine AllReadyH.cons e36 (fun K hK => ?_) ?_
    · refine step_alloc g36 p36 ?_
      rw [d36, ch_put5]
      refine hK.out _ _ (SK _ h.al5.kp) (fun _ => ?_)
      rw [li_36]
      exact K110_3_0 _ _ _ _ _ _ _ h.al5
    refine AllReadyH.cons e38 (fun K hK => ?_) ?_
    · refine step_alloc g38 p38 ?_
      rw [d38, ch_put7]
      refine hK.out _ _ (SK _ h.al7.kp) (fun _ => ?_)
      rw [li_38]
      exact K011_3_0 _ _ _ _ _ _ _ h.al7
    exact AllReadyH.nil
  have K011_2_0 : ∀ u5 u6 u7 u37 u49 u61 w, St w2 w false true true true true false false false false u5 u6 u7 u37 u49 u61 n0 n1 n2 n3 D1 D2 D3 → wpAnyH Try.prog .any ops Q S 5 (li false true true 2 0) (ch A u5 u6 u7 u37 u49 u61) w := by
    intro u5 u6 u7 u37 u49 u61 w h
    refine wpAnyH_ready r011_2_0 (by simp) ?_
    refine AllReadyH.cons e35 (fun K hK => ?_) ?_
    · refine step_call g35 54 59 60 _ _ p35 _ _ _ ((ch_get 54 A u5 u6 u7 u37 u49 u61 (by decide)).trans hA54) ((ch_get 59 A u5 u6 u7 u37 u49 u61 (by decide)).trans hA59) ((ch_get 60 A u5 u6 u7 u37 u49 u61 (by decide)).trans hA60) ?_
      refine (HM3 w h.kp).mono ?_
      rintro e w' ⟨v, rfl, t, k⟩
      refine ⟨v, rfl, ?_⟩
      rw [d35, ch_put61]
      refine hK.out _ _ (SK _ (h.ca3 k t).kp) (fun _ => ?_)
      rw [li_35]
      exact K011_3_0 _ _ _ _ _ _ _ (h.ca3 k t)
    refine AllReadyH.cons e36 (fun K hK => ?_) ?_
    · refine step_alloc g36 p36 ?_
      rw [d36, ch_put5]
      refine hK.out _ _ (SK _ h.al5.kp) (fun _ => ?_)
      rw [li_36]
      exact K111_2_0 _ _ _ _ _ _ _ h.al5
    exact AllReadyH.nil
  have K100_3_0 : ∀ u5 u6 u7 u37 u49 u61 w, St w2 w true false false true true true false false false u5 u6 u7 u37 u49 u61 n0 n1 n2 n3 D1 D2 D3 → wpAnyH Try.prog .any ops Q S 5 (li true false false 3 0) (ch A u5 u6 u7 u37 u49 u61) w := by
    intro u5 u6 u7 u37 u49 u61 w h
    refine wpAnyH_ready r100_3_0 (by simp) ?_
    refine AllReadyH.cons e37 (fun K hK => ?_) ?_
    · refine step_alloc g37 p37 ?_
      rw [d37, ch_put6]
      refine hK.out _ _ (SK _ h.al6.kp) (fun _ => ?_)
      rw [li_37]
      exact K110_3_0 _ _ _ _ _ _ _ h.al6
    refine AllReadyH.cons e38 (fun K hK => ?_) ?_
    · refine step_alloc g38 p38 ?_
      rw [d38, ch_put7]
      refine hK.out _ _ (SK _ h.al7.kp) (fun _ => ?_)
      rw [li_38]
      exact K101_3_0 _ _ _ _ _ _ _ h.al7
    exact AllReadyH.nil
  have K101_2_0 : ∀ u5 u6 u7 u37 u49 u61 w, St w2 w true false true true true false false false false u5 u6 u7 u37 u49 u61 n0 n1 n2 n3 D1 D2 D3 → wpAnyH Try.prog .any ops Q S 5 (li true false true 2 0) (ch A u5 u6 u7 u37 u49 u61) w := by
    intro u5 u6 u7 u37 u49 u61 w h
    refine wpAnyH_ready r101_2_0 (by simp) ?_
    refine AllReadyH.cons e35 (fun K hK => ?_) ?_
    · refine step_call g35 54 59 60 _ _ p35 _ _ _ ((ch_get 54 A u5 u6 u7 u37 u49 u61 (by decide)).trans hA54) ((ch_get 59 A u5 u6 u7 u37 u49 u61 (by decide)).trans hA59) ((ch_get 60 A u5 u6 u7 u37 u49 u61 (by decide)).trans hA60) ?_
      refine (HM3 w h.kp).mono ?_
      rintro e w' ⟨v, rfl, t, k⟩
      refine ⟨v, rfl, ?_⟩
      rw [d35, ch_put61]
      refine hK.out _ _ (SK _ (h.ca3 k t).kp) (fun _ => ?_)
      rw [li_35]
      exact K101_3_0 _ _ _ _ _ _ _ (h.ca3 k t)
    refine AllReadyH.cons e37 (fun K hK => ?_) ?_
    · refine step_alloc g37 p37 ?_
      rw [d37, ch_put6]
      refine hK.out _ _ (SK _ h.al6.kp) (fun _ => ?_)
      rw [li_37]
      exact K111_2_0 _ _ _ _ _ _ _ h.al6
    exact AllReadyH.nil
  have K110_2_0 : ∀ u5 u6 u7 u37 u49 u61 w, St w2 w true true false true true false false false false u5 u6 u7 u37 u49 u61 n0 n1 n2 n3 D1 D2 D3 → wpAnyH Try.prog .any ops Q S 5 (li true true false 2 0) (ch A u5 u6 u7 u37 u49 u61) w := by
    intro u5 u6 u7 u37 u49 u61 w h
    refine wpAnyH_ready r110_2_0 (by simp) ?_
    refine AllReadyH.cons e35 (fun K hK => ?_) ?_
    · refine step_call g35 54 59 60 _ _ p35 _ _ _ ((ch_get 54 A u5 u6 u7 u37 u49 u61 (by decide)).trans hA54) ((ch_get 59 A u5 u6 u7 u37 u49 u61 (by decide)).trans hA59) ((ch_get 60 A u5 u6 u7 u37 u49 u61 (by decide)).trans hA60) ?_
      refine (HM3 w h.kp).mono ?_
      rintro e w' ⟨v, rfl, t, k⟩
      refine ⟨v, rfl, ?_⟩
      rw [d35, ch_put61]
      refine hK.out _ _ (SK _ (h.ca3 k t).kp) (fun _ => ?_)
      rw [li_35]
      exact K110_3_0 _ _ _ _ _ _ _ (h.ca3 k t)
    refine AllReadyH.cons e38 (fun K hK => ?_) ?_
    · refine step_alloc g38 p38 ?_
      rw [d38, ch_put7]
      refine hK.out _ _ (SK _ h.al7.kp) (fun _ => ?_)
      rw [li_38]
      exact K111_2_0 _ _ _ _ _ _ _ h.al7
    exact AllReadyH.nil
  have K111_1_0 : ∀ u5 u6 u7 u37 u49 u61 w, St w2 w true true true true false false false false false u5 u6 u7 u37 u49 u61 n0 n1 n2 n3 D1 D2 D3 → wpAnyH Try.prog .any ops Q S 5 (li true true true 1 0) (ch A u5 u6 u7 u37 u49 u61) w := by
    intro u5 u6 u7 u37 u49 u61 w h
    refine wpAnyH_ready r111_1_0 (by simp) ?_
    refine AllReadyH.cons e23 (fun K hK => ?_) ?_
    · refine step_call g23 42 47 48 _ _ p23 _ _ _ ((ch_get 42 A u5 u6 u7 u37 u49 u61 (by decide)).trans hA42) ((ch_get 47 A u5 u6 u7 u37 u49 u61 (by decide)).trans hA47) ((ch_get 48 A u5 u6 u7 u37 u49 u61 (by decide)).trans hA48) ?_
      refine (HM2 w h.kp).mono ?_
      rintro e w' ⟨v, rfl, t, k⟩
      refine ⟨v, rfl, ?_⟩
      rw [d23, ch_put49]
      refine hK.out _ _ (SK _ (h.ca2 k t).kp) (fun _ => ?_)
      rw [li_23]
      exact K111_2_0 _ _ _ _ _ _ _ (h.ca2 k t)
    exact AllReadyH.nil
  have K000_3_0 : ∀ u5 u6 u7 u37 u49 u61 w, St w2 w false false false true true true false false false u5 u6 u7 u37 u49 u61 n0 n1 n2 n3 D1 D2 D3 → wpAnyH Try.prog .any ops Q S 6 (li false false false 3 0) (ch A u5 u6 u7 u37 u49 u61) w := by
    intro u5 u6 u7 u37 u49 u61 w h
    refine wpAnyH_ready r000_3_0 (by simp) ?_
    refine AllReadyH.cons e36 (fun K hK => ?_) ?_
    · refine step_alloc g36 p36 ?_
      rw [d36, ch_put5]
      refine hK.out _ _ (SK _ h.al5.kp) (fun _ => ?_)
      rw [li_36]
      exact K100_3_0 _ _ _ _ _ _ _ h.al5
    refine AllReadyH.cons e37 (fun K hK => ?_) ?_
    · refine step_alloc g37 p37 ?_
      rw [d37, ch_put6]
      refine hK.out _ _ (SK _ h.al6.kp) (fun _ => ?_)
      rw [li_37]
      exact K010_3_0 _ _ _ _ _ _ _ h.al6
    refine AllReadyH.cons e38 (fun K hK => ?_) ?_
    · refine step_alloc g38 p38 ?_
      rw [d38, ch_put7]
      refine hK.out _ _ (SK _ h.al7.kp) (fun _ => ?_)
      rw [li_38]
      exact K001_3_0 _ _ _ _ _ _ _ h.al7
    exact AllReadyH.nil
  have K001_2_0 : ∀ u5 u6 u7 u37 u49 u61 w, St w2 w false false true true true false false false false u5 u6 u7 u37 u49 u61 n0 n1 n2 n3 D1 D2 D3 → wpAnyH Try.prog .any ops Q S 6 (li false false true 2 0) (ch A u5 u6 u7 u37 u49 u61) w := by
    intro u5 u6 u7 u37 u49 u61 w h
    refine wpAnyH_ready r001_2_0 (by simp) ?_
    refine AllReadyH.cons e35 (fun K hK => ?_) ?_
    · refine step_call g35 54 59 60 _ _ p35 _ _ _ ((ch_get 54 A u5 u6 u7 u37 u49 u61 (by decide)).trans hA54) ((ch_get 59 A u5 u6 u7 u37 u49 u61 (by decide)).trans hA59) ((ch_get 60 A u5 u6 u7 u37 u49 u61 (by decide)).trans hA60) ?_
      refine (HM3 w h.kp).mono ?_
      rintro e w' ⟨v, rfl, t, k⟩
      refine ⟨v, rfl, ?_⟩
      rw [d35, ch_put61]
      refine hK.out _ _ (SK _ (h.ca3 k t).kp) (fun _ => ?_)
      rw [li_35]
      exact K001_3_0 _ _ _ _ _ _ _ (h.ca3 k t)
    refine AllReadyH.cons e36 (fun K hK => ?_) ?_
    · refine step_alloc g36 p36 ?_
      rw [d36, ch_put5]
      refine hK.out _ _ (SK _ h.al5.kp) (fun _ => ?_)
      rw [li_36]
      exact K101_2_0 _ _ _ _ _ _ _ h.al5
    refine AllReadyH.cons e37 (fun K hK => ?_) ?_
    · refine step_alloc g37 p37 ?_
      rw [d37, ch_put6]
      refine hK.out _ _ (SK _ h.al6.kp) (fun _ => ?_)
      rw [li_37]
      exact K011_2_0 _ _ _ _ _ _ _ h.al6
    exact AllReadyH.nil
  have K010_2_0 : ∀ u5 u6 u7 u37 u49 u61 w, St w2 w false true false true true false false false false u5 u6 u7 u37 u49 u61 n0 n1 n2 n3 D1 D2 D3 → wpAnyH Try.prog .any ops Q S 6 (li false true false 2 0) (ch A u5 u6 u7 u37 u49 u61) w := by
    intro u5 u6 u7 u37 u49 u61 w h
    refine wpAnyH_ready r010_2_0 (by simp) ?_
    refine AllReadyH.cons e35 (fun K hK => ?_) ?_
    · refine step_call g35 54 59 60 _ _ p35 _ _ _ ((ch_get 54 A u5 u6 u7 u37 u49 u61 (by decide)).trans hA54) ((ch_get 59 A u5 u6 u7 u37 u49 u61 (by decide)).trans hA59) ((ch_get 60 A u5 u6 u7 u37 u49 u61 (by decide)).trans hA60) ?_
      refine (HM3 w h.kp).mono ?_
      rintro e w' ⟨v, rfl, t, k⟩
      refine ⟨v, rfl, ?_⟩
      rw [d35, ch_put61]
      refine hK.out _ _ (SK _ (h.ca3 k t).kp) (fun _ => ?_)
      rw [li_35]
      exact K010_3_0 _ _ _ _ _ _ _ (h.ca3 k t)
    refine AllReadyH.cons e36 (fun K hK => ?_) ?_
    · refine step_alloc g36 p36 ?_
      rw [d36, ch_put5]
      refine hK.out _ _ (SK _ h.al5.kp) (fun _ => ?_)
      rw [li_36]
      exact K110_2_0 _ _ _ _ _ _ _ h.al5
    refine AllReadyH.cons e38 (fun K hK => ?_) ?_
    · refine step_alloc g38 p38 ?_
      rw [d38, ch_put7]
      refine hK.out _ _ (SK _ h.al7.kp) (fun _ => ?_)
      rw [li_38]
      exact K011_2_0 _ _ _ _ _ _ _ h.al7
    exact AllReadyH.nil
  have K011_1_0 : ∀ u5 u6 u7 u37 u49 u61 w, St w2 w false true true true false false false false false u5 u6 u7 u37 u49 u61 n0 n1 n2 n3 D1 D2 D3 → wpAnyH Try.prog .any ops Q S 6 (li false true true 1 0) (ch A u5 u6 u7 u37 u49 u61) w := by
    intro u5 u6 u7 u37 u49 u61 w h
    refine wpAnyH_ready r011_1_0 (by simp) ?_
    refine AllReadyH.cons e23 (fun K hK => ?_) ?_
    · refine step_call g23 42 47 48 _ _ p23 _ _ _ ((ch_get 42 A u5 u6 u7 u37 u49 u61 (by decide)).trans hA42) ((ch_get 47 A u5 u6 u7 u37 u49 u61 (by decide)).trans hA47) ((ch_get 48 A u5 u6 u7 u37 u49 u61 (by decide)).trans hA48) ?_
      refine (HM2 w h.kp).mono ?_
      rintro e w' ⟨v, rfl, t, k⟩
      refine ⟨v, rfl, ?_⟩
      rw [d23, ch_put49]
      refine hK.out _ _ (SK _ (h.ca2 k t).kp) (fun _ => ?_)
      rw [li_23]
      exact K011_2_0 _ _ _ _ _ _ _ (h.ca2 k t)
    refine AllReadyH.cons e36 (fun K hK => ?_) ?_
    · refine step_alloc g36 p36 ?_
      rw [d36, ch_put5]
      refine hK.out _ _ (SK _ h.al5.kp) (fun _ => ?_)
      rw [li_36]
      exact K111_1_0 _ _ _ _ _ _ _ h.al5
    exact AllReadyH.nil
  have K100_2_0 : ∀ u5 u6 u7 u37 u49 u61 w, St w2 w true false false true true false false false false u5 u6 u7 u37 u49 u61 n0 n1 n2 n3 D1 D2 D3 → wpAnyH Try.prog .any ops Q S 6 (li true false false 2 0) (ch A u5 u6 u7 u37 u49 u61) w := by
    intro u5 u6 u7 u37 u49 u61 w h
    refine wpAnyH_ready r100_2_0 (by simp) ?_
    refine AllReadyH.cons e35 (fun K hK => ?_) ?_
    · refine step_call g35 54 59 60 _ _ p35 _ _ _ ((ch_get 54 A u5 u6 u7 u37 u49 u61 (by decide)).trans hA54) ((ch_get 59 A u5 u6 u7 u37 u49 u61 (by decide)).trans hA59) ((ch_get 60 A u5 u6 u7 u37 u49 u61 (by decide)).trans hA60) ?_
      refine (HM3 w h.kp).mono ?_
      rintro e w' ⟨v, rfl, t, k⟩
      refine ⟨v, rfl, ?_⟩
      rw [d35, ch_put61]
      refine hK.out _ _ (SK _ (h.ca3 k t).kp) (fun _ => ?_)
      rw [li_35]
      exact K100_3_0 _ _ _ _ _ _ _ (h.ca3 k t)
    refine AllReadyH.cons e37 (fun K hK => ?_) ?_
    · refine step_alloc g37 p37 ?_
      rw [d37, ch_put6]
      refine hK.out _ _ (SK _ h.al6.kp) (fun _ => ?_)
      rw [li_37]
      exact K110_2_0 _ _ _ _ _ _ _ h.al6
    refine AllReadyH.cons e38 (fun K hK => ?_) ?_
    · refine step_alloc g38 p38 ?_
      rw [d38, ch_put7]
      refine hK.out _ _ (SK _ h.al7.kp) (fun _ => ?_)
      rw [li_38]
      exact K101_2_0 _ _ _ _ _ _ _ h.al7
    exact AllReadyH.nil
  have K101_1_0 : ∀ u5 u6 u7 u37 u49 u61 w, St w2 w true false true true false false false false false u5 u6 u7 u37 u49 u61 n0 n1 n2 n3 D1 D2 D3 → wpAnyH Try.prog .any ops Q S 6 (li true false true 1 0) (ch A u5 u6 u7 u37 u49 u61) w := by
    intro u5 u6 u7 u37 u49 u61 w h
    refine wpAnyH_ready r101_1_0 (by simp) ?_
    refine AllReadyH.cons e23 (fun K hK => ?_) ?_
    · refine step_call g23 42 47 48 _ _ p23 _ _ _ ((ch_get 42 A u5 u6 u7 u37 u49 u61 (by decide)).trans hA42) ((ch_get 47 A u5 u6 u7 u37 u49 u61 (by decide)).trans hA47) ((ch_get 48 A u5 u6 u7 u37 u49 u61 (by decide)).trans hA48) ?_
      refine (HM2 w h.kp).mono ?_
      rintro e w' ⟨v, rfl, t, k⟩
      refine ⟨v, rfl, ?_⟩
      rw [d23, ch_put49]
      refine hK.out _ _ (SK _ (h.ca2 k t).kp) (fun _ => ?_)
      rw [li_23]
      exact K101_2_0 _ _ _ _ _ _ _ (h.ca2 k t)
    refine AllReadyH.cons e37 (fun K hK => ?_) ?_
    · refine step_alloc g37 p37 ?_
      rw [d37, ch_put6]
      refine hK.out _ _ (SK _ h.al6.kp) (fun _ => ?_)
      rw [li_37]
      exact K111_1_0 _ _ _ _ _ _ _ h.al6
    exact AllReadyH.nil
  have K110_1_0 : ∀ u5 u6 u7 u37 u49 u61 w, St w2 w true true false true false false false false false u5 u6 u7 u37 u49 u61 n0 n1 n2 n3 D1 D2 D3 → wpAnyH Try.prog .any ops Q S 6 (li true true false 1 0) (ch A u5 u6 u7 u37 u49 u61) w := by
    intro u5 u6 u7 u37 u49 u61 w h
    refine wpAnyH_ready r110_1_0 (by simp) ?_
    refine AllReadyH.cons e23 (fun K hK => ?_) ?_
    · refine step_call g23 42 47 48 _ _ p23 _ _ _ ((ch_get 42 A u5 u6 u7 u37 u49 u61 (by decide)).trans hA42) ((ch_get 47 A u5 u6 u7 u37 u49 u61 (by decide)).trans hA47) ((ch_get 48 A u5 u6 u7 u37 u49 u61 (by decide)).trans hA48) ?_
      refine (HM2 w h.kp).mono ?_
      rintro e w' ⟨v, rfl, t, k⟩
      refine ⟨v, rfl, ?_⟩
      rw [d23, ch_put49]
      refine hK.out _ _ (SK _ (h.ca2 k t).kp) (fun _ => ?_)
      rw [li_23]
      exact K110_2_0 _ _ _ _ _ _ _ (h.ca2 k t)
    refine AllReadyH.cons e38 (fun K hK => ?_) ?_
    · refine step_alloc g38 p38 ?_
      rw [d38, ch_put7]
      refine hK.out _ _ (SK _ h.al7.kp) (fun _ => ?_)
      rw [li_38]
      exact K111_1_0 _ _ _ _ _ _ _ h.al7
    exact AllReadyH.nil
  have K111_0_0 : ∀ u5 u6 u7 u37 u49 u61 w, St w2 w true true true false false false false false false u5 u6 u7 u37 u49 u61 n0 n1 n2 n3 D1 D2 D3 → wpAnyH Try.prog .any ops Q S 6 (li true true true 0 0) (ch A u5 u6 u7 u37 u49 u61) w := by
    intro u5 u6 u7 u37 u49 u61 w h
    refine wpAnyH_ready r111_0_0 (by simp) ?_
    refine AllReadyH.cons e11 (fun K hK => ?_) ?_
    · refine step_call g11 30 35 36 _ _ p11 _ _ _ ((ch_get 30 A u5 u6 u7 u37 u49 u61 (by decide)).trans hA30) ((ch_get 35 A u5 u6 u7 u37 u49 u61 (by decide)).trans hA35) ((ch_get 36 A u5 u6 u7 u37 u49 u61 (by decide)).trans hA36) ?_
      refine (HM1 w h.kp).mono ?_
      rintro e w' ⟨v, rfl, t, k⟩
      refine ⟨v, rfl, ?_⟩
      rw [d11, ch_put37]
      refine hK.out _ _ (SK _ (h.ca1 k t).kp) (fun _ => ?_)
      rw [li_11]
      exact K111_1_0 _ _ _ _ _ _ _ (h.ca1 k t)
    exact AllReadyH.nil
  have K000_2_0 : ∀ u5 u6 u7 u37 u49 u61 w, St w2 w false false false true true false false false false u5 u6 u7 u37 u49 u61 n0 n1 n2 n3 D1 D2 D3 → wpAnyH Try.prog .any ops Q S 7 (li false false false 2 0) (ch A u5 u6 u7 u37 u49 u61) w := by
    intro u5 u6 u7 u37 u49 u61 w h
    refine wpAnyH_ready r000_2_0 (by simp) ?_
    refine AllReadyH.cons e35 (fun K hK => ?_) ?_
    · refine step_call g35 54 59 60 _ _ p35 _ _ _ ((ch_get 54 A u5 u6 u7 u37 u49 u61 (by decide)).trans hA54) ((ch_get 59 A u5 u6 u7 u37 u49 u61 (by decide)).trans hA59) ((ch_get 60 A u5 u6 u7 u37 u49 u61 (by decide)).trans hA60) ?_
      refine (HM3 w h.kp).mono ?_
      rintro e w' ⟨v, rfl, t, k⟩
      refine ⟨v, rfl, ?_⟩
      rw [d35, ch_put61]
      refine hK.out _ _ (SK _ (h.ca3 k t).kp) (fun _ => ?_)
      rw [li_35]
      exact K000_3_0 _ _ _ _ _ _ _ (h.ca3 k t)
    refine AllReadyH.cons e36 (fun K hK => ?_) ?_
    · refine step_alloc g36 p36 ?_
      rw [d36, ch_put5]
      refine hK.out _ _ (SK _ h.al5.kp) (fun _ => ?_)
      rw [li_36]
      exact K100_2_0 _ _ _ _ _ _ _ h.al5
    refine AllReadyH.cons e37 (fun K hK => ?_) ?_
    · refine step_alloc g37 p37 ?_
      rw [d37, ch_put6]
      refine hK.out _ _ (SK _ h.al6.kp) (fun _ => ?_)
      rw [li_37]
      exact K010_2_0 _ _ _ _ _ _ _ h.al6
    refine AllReadyH.cons e38 (fun K hK => ?_) ?_
    · refine step_alloc g38 p38 ?_
      rw [d38, ch_put7]
      refine hK.out _ _ (SK _ h.al7.kp) (fun _ => ?_)
      rw [li_38]
      exact K001_2_0 _ _ _ _ _ _ _ h.al7
    exact AllReadyH.nil
  have K001_1_0 : ∀ u5 u6 u7 u37 u49 u61 w, St w2 w false false true true false false false false false u5 u6 u7 u37 u49 u61 n0 n1 n2 n3 D1 D2 D3 → wpAnyH Try.prog .any ops Q S 7 (li false false true 1 0) (ch A u5 u6 u7 u37 u49 u61) w := by
    intro u5 u6 u7 u37 u49 u61 w h
    refine wpAnyH_ready r001_1_0 (by simp) ?_
    refine AllReadyH.cons e23 (fun K hK => ?_) ?_
    · refine step_call g23 42 47 48 _ _ p23 _ _ _ ((ch_get 42 A u5 u6 u7 u37 u49 u61 (by decide)).trans hA42) ((ch_get 47 A u5 u6 u7 u37 u49 u61 (by decide)).trans hA47) ((ch_get 48 A u5 u6 u7 u37 u49 u61 (by decide)).trans hA48) ?_
      refine (HM2 w h.kp).mono ?_
      rintro e w' ⟨v, rfl, t, k⟩
      refine ⟨v, rfl, ?_⟩
      rw [d23, ch_put49]
      refine hK.out _ _ (SK _ (h.ca2 k t).kp) (fun _ => ?_)
      rw [li_23]
      exact K001_2_0 _ _ _ _ _ _ _ (h.ca2 k t)
    refine AllReadyH.cons e36 (fun K hK => ?_) ?_
    · refine step_alloc g36 p36 ?_
      rw [d36, ch_put5]
      refine hK.out _ _ (SK _ h.al5.kp) (fun _ => ?_)
      rw [li_36]
      exact K101_1_0 _ _ _ _ _ _ _ h.al5
    refine AllReadyH.cons e37 (fun K hK => ?_) ?_
    · refine step_alloc g37 p37 ?_
      rw [d37, ch_put6]
      refine hK.out _ _ (SK _ h.al6.kp) (fun _ => ?_)
      rw [li_37]
      exact K011_1_0 _ _ _ _ _ _ _ h.al6
    exact AllReadyH.nil
  have K010_1_0 : ∀ u5 u6 u7 u37 u49 u61 w, St w2 w false true false true false false false false false u5 u6 u7 u37 u49 u61 n0 n1 n2 n3 D1 D2 D3 → wpAnyH Try.prog .any ops Q S 7 (li false true false 1 0) (ch A u5 u6 u7 u37 u49 u61) w := by
    intro u5 u6 u7 u37 u49 u61 w h
    refine wpAnyH_ready r010_1_0 (by simp) ?_
    refine AllReadyH.cons e23 (fun K hK => ?_) ?_
    · refine step_call g23 42 47 48 _ _ p23 _ _ _ ((ch_get 42 A u5 u6 u7 u37 u49 u61 (by decide)).trans hA42) ((ch_get 47 A u5 u6 u7 u37 u49 u61 (by decide)).trans hA47) ((ch_get 48 A u5 u6 u7 u37 u49 u61 (by decide)).trans hA48) ?_
      refine (HM2 w h.kp).mono ?_
      rintro e w' ⟨v, rfl, t, k⟩
      refine ⟨v, rfl, ?_⟩
      rw [d23, ch_put49]
      refine hK.out _ _ (SK _ (h.ca2 k t).kp) (fun _ => ?_)
      rw [li_23]
      exact K010_2_0 _ _ _ _ _ _ _ (h.ca2 k t)
    refine AllReadyH.cons e36 (fun K hK => ?_) ?_
    · refine step_alloc g36 p36 ?_
      rw [d36, ch_put5]
      refine hK.out _ _ (SK _ h.al5.kp) (fun _ => ?_)
      rw [li_36]
      exact K110_1_0 _ _ _ _ _ _ _ h.al5
    refine AllReadyH.cons e38 (fun K hK => ?_) ?_
    · refine step_alloc g38 p38 ?_
      rw [d38, ch_put7]
      refine hK.out _ _ (SK _ h.al7.kp) (fun _ => ?_)
      rw [li_38]
      exact K011_1_0 _ _ _ _ _ _ _ h.al7
    exact AllReadyH.nil
  have K011_0_0 : ∀ u5 u6 u7 u37 u49 u61 w, St w2 w false true true false false false false false false u5 u6 u7 u37 u49 u61 n0 n1 n2 n3 D1 D2 D3 → wpAnyH Try.prog .any ops Q S 7 (li false true true 0 0) (ch A u5 u6 u7 u37 u49 u61) w := by
    intro u5 u6 u7 u37 u49 u61 w h
    refine wpAnyH_ready r011_0_0 (by simp) ?_
    refine AllReadyH.cons e11 (fun K hK => ?_) ?_
    · refine step_call g11 30 35 36 _ _ p11 _ _ _ ((ch_get 30 A u5 u6 u7 u37 u49 u61 (by decide)).trans hA30) ((ch_get 35 A u5 u6 u7 u37 u49 u61 (by decide)).trans hA35) ((ch_get 36 A u5 u6 u7 u37 u49 u61 (by decide)).trans hA36) ?_
      refine (HM1 w h.kp).mono ?_
      rintro e w' ⟨v, rfl, t, k⟩
      refine ⟨v, rfl, ?_⟩
      rw [d11, ch_put37]
      refine hK.out _ _ (SK _ (h.ca1 k t).kp) (fun _ => ?_)
      rw [li_11]
      exact K011_1_0 _ _ _ _ _ _ _ (h.ca1 k t)
    refine AllReadyH.cons e36 (fun K hK => ?_) ?_
    · refine step_alloc g36 p36 ?_
      rw [d36, ch_put5]
      refine hK.out _ _ (SK _ h.al5.kp) (fun _ => ?_)
      rw [li_36]
      exact K111_0_0 _ _ _ _ _ _ _ h.al5
    exact AllReadyH.nil
  have K100_1_0 : ∀ u5 u6 u7 u37 u49 u61 w, St w2 w true false false true false false false false false u5 u6 u7 u37 u49 u61 n0 n1 n2 n3 D1 D2 D3 → wpAnyH Try.prog .any ops Q S 7 (li true false false 1 0) (ch A u5 u6 u7 u37 u49 u61) w := by
    intro u5 u6 u7 u37 u49 u61 w h
    refine wpAnyH_ready r100_1_0 (by simp) ?_
    refine AllReadyH.cons e23 (fun K hK => ?_) ?_
    · refine step_call g23 42 47 48 _ _ p23 _ _ _ ((ch_get 42 A u5 u6 u7 u37 u49 u61 (by decide)).trans hA42) ((ch_get 47 A u5 u6 u7 u37 u49 u61 (by decide)).trans hA47) ((ch_get 48 A u5 u6 u7 u37 u49 u61 (by decide)).trans hA48) ?_
      refine (HM2 w h.kp).mono ?_
      rintro e w' ⟨v, rfl, t, k⟩
      refine ⟨v, rfl, ?_⟩
      rw [d23, ch_put49]
      refine hK.out _ _ (SK _ (h.ca2 k t).kp) (fun _ => ?_)
      rw [li_23]
      exact K100_2_0 _ _ _ _ _ _ _ (h.ca2 k t)
    refine AllReadyH.cons e37 (fun K hK => ?_) ?_
    · refine step_alloc g37 p37 ?_
      rw [d37, ch_put6]
      refine hK.out _ _ (SK _ h.al6.kp) (fun _ => ?_)
      rw [li_37]
      exact K110_1_0 _ _ _ _ _ _ _ h.al6
    refine AllReadyH.cons e38 (fun K hK => ?_) ?_
    · refine step_alloc g38 p38 ?_
      rw [d38, ch_put7]
      refine hK.out _ _ (SK _ h.al7.kp) (fun _ => ?_)
      rw [li_38]
      exact K101_1_0 _ _ _ _ _ _ _ h.al7
    exact AllReadyH.nil
  have K101_0_0 : ∀ u5 u6 u7 u37 u49 u61 w, St w2 w true false true false false false false false false u5 u6 u7 u37 u49 u61 n0 n1 n2 n3 D1 D2 D3 → wpAnyH Try.prog .any ops Q S 7 (li true false true 0 0) (ch A u5 u6 u7 u37 u49 u61) w := by
    intro u5 u6 u7 u37 u49 u61 w h
    refine wpAnyH_ready r101_0_0 (by simp) ?_
    refine AllReadyH.cons e11 (fun K hK => ?_) ?_
    · refine step_call g11 30 35 36 _ _ p11 _ _ _ ((ch_get 30 A u5 u6 u7 u37 u49 u61 (by decide)).trans hA30) ((ch_get 35 A u5 u6 u7 u37 u49 u61 (by decide)).trans hA35) ((ch_get 36 A u5 u6 u7 u37 u49 u61 (by decide)).trans hA36) ?_
      refine (HM1 w h.kp).mono ?_
      rintro e w' ⟨v, rfl, t, k⟩
      refine ⟨v, rfl, ?_⟩
      rw [d11, ch_put37]
      refine hK.out _ _ (SK _ (h.ca1 k t).kp) (fun _ => ?_)
      rw [li_11]
      exact K101_1_0 _ _ _ _ _ _ _ (h.ca1 k t)
    refine AllReadyH.cons e37 (fun K hK => ?_) ?_
    · refine step_alloc g37 p37 ?_
      rw [d37, ch_put6]
      refine hK.out _ _ (SK _ h.al6.kp) (fun _ => ?_)
      rw [li_37]
      exact K111_0_0 _ _ _ _ _ _ _ h.al6
    exact AllReadyH.nil
  have K110_0_0 : ∀ u5 u6 u7 u37 u49 u61 w, St w2 w true true false false false false false false false u5 u6 u7 u37 u49 u61 n0 n1 n2 n3 D1 D2 D3 → wpAnyH Try.prog .any ops Q S 7 (li true true false 0 0) (ch A u5 u6 u7 u37 u49 u61) w := by
    intro u5 u6 u7 u37 u49 u61 w h
    refine wpAnyH_ready r110_0_0 (by simp) ?_
    refine AllReadyH.cons e11 (fun K hK => ?_) ?_
    · refine step_call g11 30 35 36 _ _ p11 _ _ _ ((ch_get 30 A u5 u6 u7 u37 u49 u61 (by decide)).trans hA30) ((ch_get 35 A u5 u6 u7 u37 u49 u61 (by decide)).trans hA35) ((ch_get 36 A u5 u6 u7 u37 u49 u61 (by decide)).trans hA36) ?_
      refine (HM1 w h.kp).mono ?_
      rintro e w' ⟨v, rfl, t, k⟩
      refine ⟨v, rfl, ?_⟩
      rw [d11, ch_put37]
      refine hK.out _ _ (SK _ (h.ca1 k t).kp) (fun _ => ?_)
      rw [li_11]
      exact K110_1_0 _ _ _ _ _ _ _ (h.ca1 k t)
    refine AllReadyH.cons e38 (fun K hK => ?_) ?_
    · refine step_alloc g38 p38 ?_
      rw [d38, ch_put7]
      refine hK.out _ _ (SK _ h.al7.kp) (fun _ => ?_)
      rw [li_38]
      exact K111_0_0 _ _ _ _ _ _ _ h.al7
    exact AllReadyH.nil
  have K000_1_0 : ∀ u5 u6 u7 u37 u49 u61 w, St w2 w false false false true false false false false false u5 u6 u7 u37 u49 u61 n0 n1 n2 n3 D1 D2 D3 → wpAnyH Try.prog .any ops Q S 8 (li false false false 1 0) (ch A u5 u6 u7 u37 u49 u61) w := by
    intro u5 u6 u7 u37 u49 u61 w h
    refine wpAnyH_ready r000_1_0 (by simp) ?_
    refine AllReadyH.cons e23 (fun K hK => ?_) ?_
    · refine step_call g23 42 47 48 _ _ p23 _ _ _ ((ch_get 42 A u5 u6 u7 u37 u49 u61 (by decide)).trans hA42) ((ch_get 47 A u5 u6 u7 u37 u49 u61 (by decide)).trans hA47) ((ch_get 48 A u5 u6 u7 u37 u49 u61 (by decide)).trans hA48) ?_
      refine (HM2 w h.kp).mono ?_
      rintro e w' ⟨v, rfl, t, k⟩
      refine ⟨v, rfl, ?_⟩
      rw [d23, ch_put49]
      refine hK.out _ _ (SK _ (h.ca2 k t).kp) (fun _ => ?_)
      rw [li_23]
      exact K000_2_0 _ _ _ _ _ _ _ (h.ca2 k t)
    refine AllReadyH.cons e36 (fun K hK => ?_) ?_
    · refine step_alloc g36 p36 ?_
      rw [d36, ch_put5]
      refine hK.out _ _ (SK _ h.al5.kp) (fun _ => ?_)
      rw [li_36]
      exact K100_1_0 _ _ _ _ _ _ _ h.al5
    refine AllReadyH.cons e37 (fun K hK => ?_) ?_
    · refine step_alloc g37 p37 ?_
      rw [d37, ch_put6]
      refine hK.out _ _ (SK _ h.al6.kp) (fun _ => ?_)
      rw [li_37]
      exact K010_1_0 _ _ _ _ _ _ _ h.al6
    refine AllReadyH.cons e38 (fun K hK => ?_) ?_
    · refine step_alloc g38 p38 ?_
      rw [d38, ch_put7]
      refine hK.out _ _ (SK _ h.al7.kp) (fun _ => ?_)
      rw [li_38]
      exact K001_1_0 _ _ _ _ _ _ _ h.al7
    exact AllReadyH.nil
  have K001_0_0 : ∀ u5 u6 u7 u37 u49 u61 w, St w2 w false false true false false false false false false u5 u6 u7 u37 u49 u61 n0 n1 n2 n3 D1 D2 D3 → wpAnyH Try.prog .any ops Q S 8 (li false false true 0 0) (ch A u5 u6 u7 u37 u49 u61) w := by
    intro u5 u6 u7 u37 u49 u61 w h
    refine wpAnyH_ready r001_0_0 (by simp) ?_
    refine AllReadyH.cons e11 (fun K hK => ?_) ?_
    · refine step_call g11 30 35 36 _ _ p11 _ _ _ ((ch_get 30 A u5 u6 u7 u37 u49 u61 (by decide)).trans hA30) ((ch_get 35 A u5 u6 u7 u37 u49 u61 (by decide)).trans hA35) ((ch_get 36 A u5 u6 u7 u37 u49 u61 (by decide)).trans hA36) ?_
      refine (HM1 w h.kp).mono ?_
      rintro e w' ⟨v, rfl, t, k⟩
      refine ⟨v, rfl, ?_⟩
      rw [d11, ch_put37]
      refine hK.out _ _ (SK _ (h.ca1 k t).kp) (fun _ => ?_)
      rw [li_11]
      exact K001_1_0 _ _ _ _ _ _ _ (h.ca1 k t)
    refine AllReadyH.cons e36 (fun K hK => ?_) ?_
    · refine step_alloc g36 p36 ?_
      rw [d36, ch_put5]
      refine hK.out _ _ (SK _ h.al5.kp) (fun _ => ?_)
      rw [li_36]
      exact K101_0_0 _ _ _ _ _ _ _ h.al5
    refine AllReadyH.cons e37 (fun K hK => ?_) ?_
    · refine step_alloc g37 p37 ?_
      rw [d37, ch_put6]
      refine hK.out _ _ (SK _ h.al6.kp) (fun _ => ?_)
      rw [li_37]
      exact K011_0_0 _ _ _ _ _ _ _ h.al6
    exact AllReadyH.nil
  have K010_0_0 : ∀ u5 u6 u7 u37 u49 u61 w, St w2 w false true false false false false false false false u5 u6 u7 u37 u49 u61 n0 n1 n2 n3 D1 D2 D3 → wpAnyH Try.prog .any ops Q S 8 (li false true false 0 0) (ch A u5 u6 u7 u37 u49 u61) w := by
    intro u5 u6 u7 u37 u49 u61 w h
    refine wpAnyH_ready r010_0_0 (by simp) ?_
    refine AllReadyH.cons e11 (fun K hK => ?_) ?_
    · refine step_call g11 30 35 36 _ _ p11 _ _ _ ((ch_get 30 A u5 u6 u7 u37 u49 u61 (by decide)).trans hA30) ((ch_get 35 A u5 u6 u7 u37 u49 u61 (by decide)).trans hA35) ((ch_get 36 A u5 u6 u7 u37 u49 u61 (by decide)).trans hA36) ?_
      refine (HM1 w h.kp).mono ?_
      rintro e w' ⟨v, rfl, t, k⟩
      refine ⟨v, rfl, ?_⟩
      rw [d11, ch_put37]
      refine hK.out _ _ (SK _ (h.ca1 k t).kp) (fun _ => ?_)
      rw [li_11]
      exact K010_1_0 _ _ _ _ _ _ _ (h.ca1 k t)
    refine AllReadyH.cons e36 (fun K hK => ?_) ?_
    · refine step_alloc g36 p36 ?_
      rw [d36, ch_put5]
      refine hK.out _ _ (SK _ h.al5.kp) (fun _ => ?_)
      rw [li_36]
      exact K110_0_0 _ _ _ _ _ _ _ h.al5
    refine AllReadyH.cons e38 (fun K hK => ?_) ?_
    · refine step_alloc g38 p38 ?_
      rw [d38, ch_put7]
      refine hK.out _ _ (SK _ h.al7.kp) (fun _ => ?_)
      rw [li_38]
      exact K011_0_0 _ _ _ _ _ _ _ h.al7
    exact AllReadyH.nil
  have K100_0_0 : ∀ u5 u6 u7 u37 u49 u61 w, St w2 w true false false false false false false false false u5 u6 u7 u37 u49 u61 n0 n1 n2 n3 D1 D2 D3 → wpAnyH Try.prog .any ops Q S 8 (li true false false 0 0) (ch A u5 u6 u7 u37 u49 u61) w := by
    intro u5 u6 u7 u37 u49 u61 w h
    refine wpAnyH_ready r100_0_0 (by simp) ?_
    refine AllReadyH.cons e11 (fun K hK => ?_) ?_
    · refine step_call g11 30 35 36 _ _ p11 _ _ _ ((ch_get 30 A u5 u6 u7 u37 u49 u61 (by decide)).trans hA30) ((ch_get 35 A u5 u6 u7 u37 u49 u61 (by decide)).trans hA35) ((ch_get 36 A u5 u6 u7 u37 u49 u61 (by decide)).trans hA36) ?_
      refine (HM1 w h.kp).mono ?_
      rintro e w' ⟨v, rfl, t, k⟩
      refine ⟨v, rfl, ?_⟩
      rw [d11, ch_put37]
      refine hK.out _ _ (SK _ (h.ca1 k t).kp) (fun _ => ?_)
      rw [li_11]
      exact K100_1_0 _ _ _ _ _ _ _ (h.ca1 k t)
    refine AllReadyH.cons e37 (fun K hK => ?_) ?_
    · refine step_alloc g37 p37 ?_
      rw [d37, ch_put6]
      refine hK.out _ _ (SK _ h.al6.kp) (fun _ => ?_)
      rw [li_37]
      exact K110_0_0 _ _ _ _ _ _ _ h.al6
    refine AllReadyH.cons e38 (fun K hK => ?_) ?_
    · refine step_alloc g38 p38 ?_
      rw [d38, ch_put7]
      refine hK.out _ _ (SK _ h.al7.kp) (fun _ => ?_)
      rw [li_38]
      exact K101_0_0 _ _ _ _ _ _ _ h.al7
    exact AllReadyH.nil
  have K000_0_0 : ∀ u5 u6 u7 u37 u49 u61 w, St w2 w false false false false false false false false false u5 u6 u7 u37 u49 u61 n0 n1 n2 n3 D1 D2 D3 → wpAnyH Try.prog .any ops Q S 9 (li false false false 0 0) (ch A u5 u6 u7 u37 u49 u61) w := by
    intro u5 u6 u7 u37 u49 u61 w h
    refine wpAnyH_ready r000_0_0 (by simp) ?_
    refine AllReadyH.cons e11 (fun K hK => ?_) ?_
    · refine step_call g11 30 35 36 _ _ p11 _ _ _ ((ch_get 30 A u5 u6 u7 u37 u49 u61 (by decide)).trans hA30) ((ch_get 35 A u5 u6 u7 u37 u49 u61 (by decide)).trans hA35) ((ch_get 36 A u5 u6 u7 u37 u49 u61 (by decide)).trans hA36) ?_
      refine (HM1 w h.kp).mono ?_
      rintro e w' ⟨v, rfl, t, k⟩
      refine ⟨v, rfl, ?_⟩
      rw [d11, ch_put37]
      refine hK.out _ _ (SK _ (h.ca1 k t).kp) (fun _ => ?_)
      rw [li_11]
      exact K000_1_0 _ _ _ _ _ _ _ (h.ca1 k t)
    refine AllReadyH.cons e36 (fun K hK => ?_) ?_
    · refine step_alloc g36 p36 ?_
      rw [d36, ch_put5]
      refine hK.out _ _ (SK _ h.al5.kp) (fun _ => ?_)
      rw [li_36]
      exact K100_0_0 _ _ _ _ _ _ _ h.al5
    refine AllReadyH.cons e37 (fun K hK => ?_) ?_
    · refine step_alloc g37 p37 ?_
      rw [d37, ch_put6]
      refine hK.out _ _ (SK _ h.al6.kp) (fun _ => ?_)
      rw [li_37]
      exact K010_0_0 _ _ _ _ _ _ _ h.al6
    refine AllReadyH.cons e38 (fun K hK => ?_) ?_
    · refine step_alloc g38 p38 ?_
      rw [d38, ch_put7]
      refine hK.out _ _ (SK _ h.al7.kp) (fun _ => ?_)
      rw [li_38]
      exact K001_0_0 _ _ _ _ _ _ _ h.al7
    exact AllReadyH.nil
  intro w k
  exact K000_0_0 _ _ _ _ _ _ _ ⟨k, (fun e => by cases e), (fun e => by cases e), (fun e => by cases e), (fun e => by cases e), (fun e => by cases e), (fun e => by cases e), (fun e => by cases e), (fun e => by cases e), (fun e => by cases e), (fun e => by cases e), (fun e => by cases e), (fun e => by cases e)⟩

end Go.Proofs.Ythofnmaobmfoiaa
