
/- The queue's Len, Pop and Push. -/
import Derived.Test.YthcilobmoeihbaaPilB
import Derived.WalkSmall
import Derived.ArgAppend
import Derived.Deep.DeepAppendRoom
namespace Go.Proofs.Ythcilobmoeihbaa
open Go.RowKit

theorem qlen_any (a : Option Addr) (n cap : Nat) (w : World) : Calls Try.prog 42 #[.slice a n cap] w fun e w' => e = .returned (.int .i64 (n : Int)) ∧ w' = w := by
  go_enter Try.func42, Try.ntmps42
  go_wp2
  go_ret
  exact ⟨rfl, rfl⟩

def boxE (x : Int × Int) : Value := .iface 60 (.agg #[.int .i64 x.1, .int .i64 x.2])

/-- of what was there only blocks P and g may have turned -/
def K2x (P : Nat) (g : Option Nat) (w w' : World) : Prop := w'.os = w.os ∧ w'.tape = w.tape ∧ w'.output = w.output ∧ w.heap.size ≤ w'.heap.size ∧ ∀ k, k < w.heap.size → k ≠ P → some k ≠ g → w'.heap[k]? = w.heap[k]?
theorem K2x.of_kp {P : Nat} {g : Option Nat} {w w' : World} (h : Kp w w') : K2x P g w w' := ⟨h.os, h.tape, h.output, h.size, fun k hk _ _ => h.block k hk⟩
theorem K2x.of_kx {P : Nat} {g : Option Nat} {w w' : World} (h : Kx P w w') : K2x P g w w' := ⟨h.os, h.tape, h.output, h.size, fun k hk h1 _ => h.block k hk (fun e => h1 (by cases e; rfl))⟩
theorem K2x.of_grown {P : Nat} {g : Option Nat} {w w' : World} (h : w.grownBy w' g) : K2x P g w w' := ⟨h.os, h.tape, h.output, h.size, fun k hk _ h2 => h.block k hk h2⟩
theorem K2x.trans {P : Nat} {g : Option Nat} {a b c : World} (h : K2x P g a b) (k : K2x P g b c) : K2x P g a c := by
  obtain ⟨h1, h2, h3, h4, h5⟩ := h
  obtain ⟨k1, k2, k3, k4, k5⟩ := k
  exact ⟨k1.trans h1, k2.trans h2, k3.trans h3, Nat.le_trans h4 k4, fun i hi n1 n2 => (k5 i (by omega) n1 n2).trans (h5 i hi n1 n2)⟩
theorem K2x.size {P : Nat} {g : Option Nat} {w w' : World} (h : K2x P g w w') : w.heap.size ≤ w'.heap.size := h.2.2.2.1

theorem boxed_kp {w w' : World} {B : Nat} {t : TypeId} {v : Value} (h : Boxed w B t v) (k : Kp w w') : Boxed w' B t v := by
  unfold Boxed
  rw [k.block B h.lt]
  exact h

set_option maxRecDepth 20000 in
set_option maxHeartbeats 4000000 in
theorem qpop_any (P g n cap : Nat) (ms : List (Int × Int)) (x : Int × Int) (w : World) (hp : Boxed w P 56 (.slice (some ⟨g, 0, none⟩) (n + 1) cap)) (h : OwnP w (.slice (some ⟨g, 0, none⟩) (n + 1) cap) (ms ++ [x])) (hn : ms.length = n) (hr : n ≤ 1000000000) :
    Calls Try.prog 49 #[.pointer (some ⟨P, 0, none⟩)] w fun e w' => e = .returned (boxE x) ∧ Boxed w' P 56 (.slice (some ⟨g, 0, none⟩) n cap) ∧ OwnP w' (.slice (some ⟨g, 0, none⟩) n cap) ms ∧ Kx P w w' := by
  have c0 := hp.cell
  have f0 := hp.frozen
  have hlt := hp.lt
  obtain ⟨i0, i1⟩ := h.at (i := n) (by simp; omega)
  have ex : atL (0, 0) (ms ++ [x]) n = x := by unfold atL; simp [List.getD, ← hn]
  rw [ex] at i0 i1
  have hcap : n ≤ cap := by
    obtain ⟨g', cap', e, _, h2⟩ := h.form (i := 0) (by simp)
    injection e with e1 e2 e3
    simp at h2
    omega
  have hO : OwnP w (.slice (some ⟨g, 0, none⟩) n cap) ms := by
    unfold OwnP at h ⊢
    rw [itC_append, List.length_append] at h
    rw [hn] at h ⊢
    exact ownsRow_pop (by rw [itC_length, hn]) h
  have hgP : g ≠ P := by
    rintro rfl
    obtain ⟨_, ⟨h1, _⟩ | ⟨g', cap', cur, e, _, hh, _⟩⟩ := h
    · cases h1
    · injection e with e1 e2 e3
      cases e1
      have := (show w.heap[g]? = _ from hp).symm.trans hh
      simp at this
  have hp' := hp
  have HO := hide hO
  clear h hp hO ex
  go_enter Try.func49, Try.ntmps49
  have HB := hide ((hp'.set (.slice (some ⟨g, 0, none⟩) n cap)).alloc (.cells #[.int .i64 x.1, .int .i64 x.2] 60))
  have HW := hide (((unhide HO).kept (grownBy_setCell' w P (.slice (some ⟨g, 0, none⟩) n cap)) (.inr (fun e => hgP (by simpa [Value.ownBlock] using e)))).alloc (.cells #[.int .i64 x.1, .int .i64 x.2] 60))
  have HK := hide (((Kx.refl P w).set 0 (.slice (some ⟨g, 0, none⟩) n cap)).kp (Kp.alloc _ (.cells #[.int .i64 x.1, .int .i64 x.2] 60)))
  clear hp'
  go_wp2
  go_ret
  exact ⟨rfl, unhide HB, unhide HW, unhide HK⟩

theorem infoE : (Try.prog.info? 60).map (fun i => (i.zero, i.size, i.bytes)) = some (some (.agg #[.int .i64 0, .int .i64 0]), 2, 16) := by kernel_rfl

/-- one more behind the queue's row: where it lies then -/
theorem run_push (w : World) (v : Value) (ms : List (Int × Int)) (x : Int × Int) (B c : Nat) (h : OwnP w v ms) (hr : ms.length + 1 ≤ 1000000000)
    (h0 : w.cell? ⟨B, 0, none⟩ = some (.int .i64 x.1)) (h1 : w.cell? ⟨B, 1, none⟩ = some (.int .i64 x.2)) (ty : TypeId) :
    ∃ g cap w', Sem.run Try.prog (Builtin.append_ #[54, 54] ty #[v, .slice (some ⟨B, 0, none⟩) 1 c]) w = .ok (.slice (some ⟨g, 0, none⟩) (ms.length + 1) cap) w' ∧ OwnP w' (.slice (some ⟨g, 0, none⟩) (ms.length + 1) cap) (ms ++ [x]) ∧ w.grownBy w' v.ownBlock ∧ (v.ownBlock = some g ∨ w.heap.size ≤ g) := by
  obtain ⟨i0, hi, hz0, hz1, hz2⟩ := info_parts infoE
  have hl : (itC ms ++ itC [x]).length = (ms.length + 1) * 2 := by rw [List.length_append, itC_length, itC_length]; simp; omega
  have hnews : ∀ j u, (itC [x])[j]? = some u → w.cell? ((⟨B, 0, none⟩ : Addr).add j) = some u := by
    intro j u hj
    match j, hj with
    | 0, hj => cases hj; simpa [Addr.add] using h0
    | 1, hj => cases hj; simpa [Addr.add] using h1
    | j + 2, hj => simp [itC] at hj
  have fin : ∀ v' w', w'.ownsRow w.heap.size 60 2 v' (ms.length + 1) (itC ms ++ itC [x]) → ∃ g cap, v' = .slice (some ⟨g, 0, none⟩) (ms.length + 1) cap ∧ w.heap.size ≤ g ∧ OwnP w' (.slice (some ⟨g, 0, none⟩) (ms.length + 1) cap) (ms ++ [x]) := by
    rintro v' w' ⟨h1, ⟨_, h2⟩ | ⟨g, cap, cur, rfl, hb, hh, rest⟩⟩
    · omega
    · refine ⟨g, cap, rfl, hb, ?_⟩
      unfold OwnP
      rw [itC_append, List.length_append]
      exact ⟨hl, .inr ⟨g, cap, cur, rfl, Nat.zero_le _, hh, rest⟩⟩
  have h' := h
  obtain ⟨_, ⟨rfl, hn0⟩ | ⟨g, cap, cur, rfl, _, hh, hcap, _⟩⟩ := h
  · have e0 : ms = [] := List.eq_nil_of_length_eq_zero hn0
    subst e0
    obtain ⟨v', w', hr, r1, r2, _⟩ := run_append_own (P := Try.prog) w w.heap.size 54 ty 60 i0 _ 2 16 Try.underlying54 hi hz0 hz1 hz2 rfl (by decide) (.slice none 0 0) 0 [] (World.ownsRow_nil w _ _ _) ⟨B, 0, none⟩ 1 c (itC [x]) rfl hnews (itC_one [x]) (by simp only [maxLen]; omega) (by omega) (Nat.le_refl _)
    obtain ⟨g, cap, rfl, hb, ho⟩ := fin v' w' r1
    exact ⟨g, cap, w', hr, ho, r2, .inr hb⟩
  · by_cases hroom : ms.length + 1 ≤ cap
    · obtain ⟨w', hr, r1, r2⟩ := run_append_own_spare (P := Try.prog) w 0 54 ty 60 i0 2 Try.underlying54 hi hz1 g ms.length cap (itC ms) h' ⟨B, 0, none⟩ 1 c (itC [x]) rfl hnews (itC_one [x]) hroom
      refine ⟨g, cap, w', hr, ?_, r2, .inl rfl⟩
      unfold OwnP
      rw [itC_append, List.length_append]
      exact r1
    · obtain ⟨v', w', hr, r1, r2⟩ := run_append_arg_grows (P := Try.prog) w 54 ty 60 i0 _ 2 16 Try.underlying54 hi hz0 hz1 hz2 rfl (by decide) ⟨g, 0, none⟩ ms.length cap (itC ms) (itC_length ms) (World.ownsRow.cells h' rfl) ⟨B, 0, none⟩ 1 c (itC [x]) rfl hnews (by omega) (by simp only [maxLen]; omega) (by omega)
      obtain ⟨g', cap', rfl, hb, ho⟩ := fin v' w' r1
      exact ⟨g', cap', w', hr, ho, ⟨r2.os, r2.tape, r2.output, r2.size, fun k hk _ => r2.block k hk (by simp)⟩, .inr hb⟩

/-- 'append' to the queue's row, in a drawn region -/
theorem step_push {ops : Array Oper} {o : Oper} {a : Act} {w : World} {K : Act → World → Prop} {Q : Exit → Act → World → Prop} {E : Prop}
    (hg : o.guard = none) (s x : Operand) (hop : o.op = Op.call { callee := Callee.builtin Builtin.append, args := #[s, x], argTypes := #[54, 54] })
    (v : Value) (n : Nat) (ms : List (Int × Int)) (y : Int × Int) (B c : Nat) (hn : ms.length = n) (hs : a.eval s = v) (hx : a.eval x = .slice (some ⟨B, 0, none⟩) 1 c) (hv : OwnP w v ms) (hr : n + 1 ≤ 1000000000) (h0 : w.cell? ⟨B, 0, none⟩ = some (.int .i64 y.1)) (h1 : w.cell? ⟨B, 1, none⟩ = some (.int .i64 y.2))
    (h : ∀ g cap w', Hid (OwnP w' (.slice (some ⟨g, 0, none⟩) (n + 1) cap) (ms ++ [y]) ∧ w.grownBy w' v.ownBlock ∧ (v.ownBlock = some g ∨ w.heap.size ≤ g)) → K (a.put o.dst (.slice (some ⟨g, 0, none⟩) (n + 1) cap)) w') :
    if Region.wanted o (yielded ops a.tmps) = true then Oper.wp Try.prog o a w K Q else E := by
  subst hn
  have hw : Region.wanted o (yielded ops a.tmps) = true := by simp [Region.wanted, hg]
  rw [if_pos hw]
  obtain ⟨g, cap, w', hrun, r1, r2, r3⟩ := run_push w v ms y B c hv hr h0 h1 o.type
  unfold Oper.wp execOp
  simp only [hop, resolve, invoke, builtin, Sem.run_bind, Sem.run_pure, Result.andThen_ok, List.map_toArray, List.map_cons, List.map_nil, hs, hx, hrun]
  exact h g cap w' ⟨r1, r2, r3⟩

end Go.Proofs.Ythcilobmoeihbaa
