
/- Rows of ids with ranks that a call has made; the document's Without. -/
import Derived.Test.YthcilobmoeihbaaHepI
import Derived.Laws.AppendOwn
import Derived.Laws.OwnMore
import Derived.Deep.RegionLaw
import Derived.Deep.DeepCutAuto
namespace Go.Proofs.Ythcilobmoeihbaa
open Go.RowKit

theorem infoIt : (Try.prog.info? 32).map (fun i => (i.zero, i.size, i.bytes)) = some (some (.agg #[.int .i64 0, .int .i64 0]), 2, 16) := by kernel_rfl
def itC : List (Int × Int) → List Value
  | [] => []
  | p :: r => .int .i64 p.1 :: .int .i64 p.2 :: itC r
theorem itC_length : ∀ ms, (itC ms).length = ms.length * 2
  | [] => rfl
  | p :: r => by simp [itC, itC_length r]; omega
theorem itC_append : ∀ ms ks, itC (ms ++ ks) = itC ms ++ itC ks
  | [], _ => rfl
  | p :: r, ks => by simp [itC, itC_append r ks]
theorem itC_one : ∀ ms, ∀ u ∈ itC ms, u.oneCell' = true
  | [], u, h => by cases h
  | p :: r, u, h => by
    simp only [itC, List.mem_cons] at h
    rcases h with rfl | rfl | h
    · rfl
    · rfl
    · exact itC_one r u h
theorem itC_at : ∀ (ms : List (Int × Int)) (i : Nat), i < ms.length → (itC ms)[i * 2]? = some (.int .i64 (ms.getD i (0, 0)).1) ∧ (itC ms)[i * 2 + 1]? = some (.int .i64 (ms.getD i (0, 0)).2)
  | [], i, h => absurd h (by simp)
  | p :: r, 0, _ => ⟨rfl, rfl⟩
  | p :: r, i + 1, h => by
    have := itC_at r i (by simpa using h)
    rw [show (i + 1) * 2 = i * 2 + 2 by omega]
    exact this
theorem itC_inv {ms : List (Int × Int)} {j : Nat} {u : Value} (h : (itC ms)[j]? = some u) : ∃ i, i < ms.length ∧ ((j = i * 2 ∧ u = .int .i64 (ms.getD i (0, 0)).1) ∨ (j = i * 2 + 1 ∧ u = .int .i64 (ms.getD i (0, 0)).2)) := by
  have hj := (List.getElem?_eq_some_iff.1 h).1
  rw [itC_length] at hj
  have hi : j / 2 < ms.length := by omega
  obtain ⟨h1, h2⟩ := itC_at ms (j / 2) hi
  by_cases e : j % 2 = 0
  · have e2 : j / 2 * 2 = j := by omega
    rw [e2, h] at h1
    exact ⟨j / 2, hi, .inl ⟨by omega, Option.some.inj h1⟩⟩
  · have e2 : j / 2 * 2 + 1 = j := by omega
    rw [e2, h] at h2
    exact ⟨j / 2, hi, .inr ⟨by omega, Option.some.inj h2⟩⟩
/-- the call's own row of them -/
def OwnI (w : World) (base : Nat) (v : Value) (ms : List (Int × Int)) : Prop := w.ownsRow base 32 2 v ms.length (itC ms)
theorem OwnI.nil (w : World) (base : Nat) : OwnI w base (.slice none 0 0) [] := World.ownsRow_nil _ _ _ _
theorem OwnI.its {w : World} {base : Nat} {v : Value} {ms : List (Int × Int)} (h : OwnI w base v ms) (hr : ms.length ≤ 1000000) (hw : ∀ p ∈ ms, I64 p.1 ∧ I64 p.2) : Its w v ms := by
  obtain ⟨_, ⟨rfl, h0⟩ | ⟨g, cap, cur, rfl, _, hh, hcap, _, _, ht⟩⟩ := h
  · exact ⟨hr, none, 0, by rw [h0], by omega, fun hp => absurd hp (by omega)⟩
  · refine ⟨hr, some ⟨g, 0, none⟩, cap, rfl, hcap, fun _ => ⟨g, 0, rfl, (Array.getElem?_eq_some_iff.1 hh).1, fun i hi => ?_⟩⟩
    have hc : ∀ j, j < ms.length * 2 → w.cell? ⟨g, j, none⟩ = (itC ms)[j]? := fun j hj => by
      rw [← ht, List.getElem?_take, if_pos hj, Array.getElem?_toList]
      simp [World.cell?, hh]
    obtain ⟨h1, h2⟩ := itC_at ms i hi
    have e : ms.getD i (0, 0) = ms[i] := by simp [hi]
    have hm := hw _ (List.getElem_mem hi)
    rw [← e] at hm
    rw [Nat.zero_add]
    exact ⟨hm.1, hm.2, by rw [hc _ (by omega), h1], by rw [hc _ (by omega), h2]⟩
theorem Its.cells {w : World} {b off n c : Nat} {ms : List (Int × Int)} (h : Its w (.slice (some ⟨b, off, none⟩) n c) ms) (hn : ms.length = n) (q m : Nat) (hq : q + m ≤ n) : ∀ j u, (itC ((ms.drop q).take m))[j]? = some u → w.cell? ((⟨b, off + q * 2, none⟩ : Addr).add j) = some u := fun j u hj => by
  obtain ⟨_, a, cap, e, _, hc⟩ := h
  rw [hn] at e
  cases e
  obtain ⟨i, hi, hu⟩ := itC_inv hj
  have hl : ((ms.drop q).take m).length = m := by rw [List.length_take, List.length_drop]; omega
  rw [hl] at hi
  obtain ⟨b', off', e', _, hcc⟩ := hc (by omega)
  cases e'
  obtain ⟨_, _, h1, h2⟩ := hcc (q + i) (by omega)
  have eg : ((ms.drop q).take m).getD i (0, 0) = ms.getD (q + i) (0, 0) := by
    simp [List.getD, List.getElem?_drop, hi]
  rw [eg] at hu
  rw [Go.WideShapes.add_plain]
  rcases hu with ⟨rfl, rfl⟩ | ⟨rfl, rfl⟩
  · rw [show off + q * 2 + i * 2 = off + (q + i) * 2 by omega]
    exact h1
  · rw [show off + q * 2 + (i * 2 + 1) = off + (q + i) * 2 + 1 by omega]
    exact h2

/-- 'append(row, list...)' in a drawn region, the row one's own or none -/
theorem step_append_its {ops : Array Oper} {o : Oper} {a : Act} {w : World} {K : Act → World → Prop} {Q : Exit → Act → World → Prop} {E : Prop}
    (hg : o.guard = none) (s x : Operand) (hop : o.op = Op.call { callee := Callee.builtin Builtin.append, args := #[s, x], argTypes := #[26, 26] })
    (base : Nat) (v : Value) (ms ks : List (Int × Int)) (ad : Addr) (m c : Nat) (hs : a.eval s = v) (hx : a.eval x = .slice (some ad) m c) (hv : OwnI w base v ms) (hk : ks.length = m) (hc : ∀ j u, (itC ks)[j]? = some u → w.cell? (ad.add j) = some u) (hroom : ms.length + m ≤ 1000000) (hbase : base ≤ w.heap.size)
    (h : ∀ a' k' w', Hid (OwnI w' base (.slice a' (ms.length + m) k') (ms ++ ks) ∧ w.grownBy w' v.ownBlock) → K (a.put o.dst (.slice a' (ms.length + m) k')) w') :
    if Region.wanted o (yielded ops a.tmps) = true then Oper.wp Try.prog o a w K Q else E := by
  have hw : Region.wanted o (yielded ops a.tmps) = true := by simp [Region.wanted, hg]
  rw [if_pos hw]
  obtain ⟨i0, hi, hz0, hz1, hz2⟩ := info_parts infoIt
  refine wp_append_own w s x 26 hop base 32 i0 _ 2 16 Try.underlying26 hi hz0 hz1 hz2 rfl (by decide) _ ms.length (itC ms) hs hv ad m c (itC ks) hx (by rw [itC_length, hk]) hc (itC_one ks) (by simp only [maxLen]; omega) (by omega) hbase ?_
  intro v' w' h2 h3 _
  have hv' : ∃ a' k', v' = .slice a' (ms.length + m) k' := by
    obtain ⟨_, ⟨e1, e2⟩ | ⟨q, cap, cur, e1, _⟩⟩ := h2
    · exact ⟨none, 0, by rw [e1, e2]⟩
    · exact ⟨_, cap, e1⟩
  obtain ⟨a', k', rfl⟩ := hv'
  refine h a' k' w' ⟨?_, h3⟩
  unfold OwnI
  rw [List.length_append, hk, itC_append]
  exact h2

theorem cell_kp {w w' : World} (k : Kp w w') {p : Addr} {v : Value} (h : w.cell? p = some v) : w'.cell? p = some v := by
  have hlt : p.block < w.heap.size := by
    unfold World.cell? at h
    split at h
    · rename_i c t f hh
      exact (Array.getElem?_eq_some_iff.1 hh).1
    · cases h
  exact (Below.cell k hlt).trans h
/-- all but the one at a place -/
def allBut (ms : List (Int × Int)) (q : Nat) : List (Int × Int) := ms.take q ++ ms.drop (q + 1)
theorem its_form {w : World} {a : Option Addr} {n c : Nat} {ms : List (Int × Int)} (h : Its w (.slice a n c) ms) (hn : ms.length = n) (hp : 0 < n) : n ≤ c ∧ ∃ b off, a = some ⟨b, off, none⟩ := by
  obtain ⟨_, a', cap, e, h1, h2⟩ := h
  rw [hn] at e h1 h2
  cases e
  obtain ⟨b, off, rfl, _⟩ := h2 hp
  exact ⟨h1, b, off, rfl⟩

set_option maxRecDepth 20000 in
set_option maxHeartbeats 8000000 in
theorem without_any (a : Option Addr) (n c : Nat) (ms : List (Int × Int)) (q : Nat) (w : World) (h : Its w (.slice a n c) ms) (hn : ms.length = n) (hq : q < n) :
    Calls Try.prog 15 #[.slice a n c, .int .i64 (q : Int)] w fun e w' => ∃ a' k', e = .returned (.slice a' (n - 1) k') ∧ OwnI w' w.heap.size (.slice a' (n - 1) k') (allBut ms q) ∧ Kp w w' := by
  have hr := h.room
  rw [hn] at hr
  obtain ⟨hcap, b, off, rfl⟩ := its_form h hn (by omega)
  have c1 := h.cells hn 0 q (by omega)
  have c2 := h.cells hn (q + 1) (n - (q + 1)) (by omega)
  rw [Nat.zero_mul, Nat.add_zero, List.drop_zero] at c1
  have e2 : (ms.drop (q + 1)).take (n - (q + 1)) = ms.drop (q + 1) := List.take_of_length_le (by rw [List.length_drop]; omega)
  rw [e2] at c2
  have C1 := hide c1
  have C2 := hide c2
  have L1 : Hid ((ms.take q).length = q) := by unfold Hid; rw [List.length_take]; omega
  have L2 : Hid ((ms.drop (q + 1)).length = n - (q + 1)) := by unfold Hid; rw [List.length_drop]; omega
  have hqI : (q : Int) < (n : Int) := by omega
  have hqc : q ≤ c := by omega
  have hw1 : IntKind.i64.wrap ((q : Int) + 1) = ((q + 1 : Nat) : Int) := by rw [IntKind.wrap_i64]; omega
  have hqn : q + 1 ≤ n := by omega
  have hqc1 : q + 1 ≤ c := by omega
  have hq0 : (0 : Int) ≤ (q : Int) + 1 := by omega
  have hq1 : (q : Int) + 1 ≤ (n : Int) := by omega
  obtain ⟨ad, hif, C3⟩ : ∃ ad : Addr, (if c = q + 1 then some (⟨b, off, none⟩ : Addr) else some ⟨b, off + (q + 1) * 2, none⟩) = some ad ∧ Hid (∀ w', Kp w w' → ∀ j u, (itC (ms.drop (q + 1)))[j]? = some u → w'.cell? (ad.add j) = some u) := by
    by_cases hc1 : c = q + 1
    · refine ⟨_, if_pos hc1, fun w' _ j u hj => ?_⟩
      have e : ms.drop (q + 1) = [] := List.eq_nil_of_length_eq_zero (by rw [unhide L2]; omega)
      rw [e] at hj
      simp [itC] at hj
    · refine ⟨_, if_neg hc1, fun w' k j u hj => cell_kp k (unhide C2 j u hj)⟩
  clear h c1 c2 e2 hn C2
  go_enter Try.func15, Try.ntmps15
  go_upto_region 1 with fail
  go_region_law (first
    | (have hq7 := HO7; clear hq7; refine step_append_its rfl (.tmp 8) (.tmp 12) rfl w.heap.size (.slice a7 q k7) (ms.take q) (ms.drop (q + 1)) ad (n - (q + 1)) (c - (q + 1)) (by first | rfl | simp [Act.eval] | simp [Act.eval, Act.put]) (by first | rfl | simp [Act.eval] | simp [Act.eval, Act.put]) (unhide HO7) (unhide L2) (unhide C3 _ (unhide K7)) (by rw [unhide L1]; omega) (unhide K7).size ?_; intro a8 k8 w8 F8; have hl8 : (ms.take q).length + (n - (q + 1)) = n - 1 := (by rw [unhide L1]; omega); rw [hl8] at F8; have HO8 := hide (unhide F8).1; have K8 := hide ((unhide K7).of_grown (unhide F8).2 (fun k e => ((unhide HO7).lt k e).1)); clear F8; rw [hl8]; clear hl8)
    | (refine step_append_its rfl (.const (.slice none 0 0)) (.tmp 7) rfl w.heap.size (.slice none 0 0) [] (ms.take q) ⟨b, off, none⟩ q c (by first | rfl | simp [Act.eval] | simp [Act.eval, Act.put]) (by first | rfl | simp [Act.eval] | simp [Act.eval, Act.put]) (OwnI.nil _ _) (unhide L1) (unhide C1) (by simp; omega) (Nat.le_refl _) ?_; intro a7 k7 w7 F7; rw [List.length_nil, Nat.zero_add, List.nil_append] at F7; have HO7 := hide (unhide F7).1; have K7 := hide ((Kp.drew w).of_grown (unhide F7).2 (fun k e => by cases e)); clear F7; rw [List.length_nil, Nat.zero_add]))
  all_goals (
    go_wp2
    go_ret
    exact ⟨a8, k8, rfl, unhide HO8, unhide K8⟩)

end Go.Proofs.Ythcilobmoeihbaa
