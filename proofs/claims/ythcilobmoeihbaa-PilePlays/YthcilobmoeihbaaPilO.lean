
/- The document's list beside the pile: its row in memory, who comes next in it, what is taken out of it. -/
import Derived.Test.YthcilobmoeihbaaPilM
namespace Go.Proofs.Ythcilobmoeihbaa
open Go.RowKit

theorem OwnI.kty {w w' : World} {base : Nat} {v : Value} {ms : List (Int × Int)} (h : OwnI w base v ms) (k : Kty w w') : OwnI w' base v ms := by
  obtain ⟨h0, h | ⟨g, cap, cur, rfl, hg, hh, r⟩⟩ := h
  · exact ⟨h0, .inl h⟩
  · exact ⟨h0, .inr ⟨g, cap, cur, rfl, hg, (k g cur 32 (0, 0) hh (by decide) (by decide)).trans hh, r⟩⟩
theorem OwnI.keep {w w' : World} {base : Nat} {v : Value} {ms : List (Int × Int)} (h : OwnI w base v ms) (k : Kp w w') : OwnI w' base v ms := h.kty (Kty.of_kp k)
theorem OwnI.low {w : World} {base b2 : Nat} {v : Value} {ms : List (Int × Int)} (h : OwnI w base v ms) (hb : b2 ≤ base) : OwnI w b2 v ms := by
  obtain ⟨h0, h | ⟨g, cap, cur, rfl, hg, r⟩⟩ := h
  · exact ⟨h0, .inl h⟩
  · exact ⟨h0, .inr ⟨g, cap, cur, rfl, Nat.le_trans hb hg, r⟩⟩
theorem OwnI.its' {w : World} {base n c : Nat} {a : Option Addr} {ms : List (Int × Int)} (h : OwnI w base (.slice a n c) ms) (hn : ms.length = n) (hr : n ≤ 1000000) (hw : ∀ p ∈ ms, I64 p.1 ∧ I64 p.2) : Its w (.slice a n c) ms := by
  subst hn
  exact h.its hr hw
theorem OwnI.form {w : World} {base : Nat} {v : Value} {ms : List (Int × Int)} (h : OwnI w base v ms) (hi : 0 < ms.length) : ∃ g cap, v = .slice (some ⟨g, 0, none⟩) ms.length cap ∧ base ≤ g ∧ ms.length ≤ cap := by
  obtain ⟨_, ⟨_, h0⟩ | ⟨g, cap, cur, rfl, hg, hh, hcap, _⟩⟩ := h
  · omega
  · exact ⟨g, cap, rfl, hg, hcap⟩
theorem OwnI.at {w : World} {base g n cap : Nat} {ms : List (Int × Int)} (h : OwnI w base (.slice (some ⟨g, 0, none⟩) n cap) ms) {i : Nat} (hi : i < ms.length) : w.cell? ⟨g, i * 2, none⟩ = some (.int .i64 (atL (0, 0) ms i).1) ∧ w.cell? ⟨g, i * 2 + 1, none⟩ = some (.int .i64 (atL (0, 0) ms i).2) := by
  obtain ⟨_, ⟨h1, _⟩ | ⟨g', cap', cur, e, _, hh, hcap, _, _, ht⟩⟩ := h
  · cases h1
  · cases e
    have hc : ∀ j, j < ms.length * 2 → w.cell? ⟨g, j, none⟩ = (itC ms)[j]? := fun j hj => by
      rw [← ht, List.getElem?_take, if_pos hj, Array.getElem?_toList]
      simp [World.cell?, hh]
    obtain ⟨h1, h2⟩ := itC_at ms i hi
    exact ⟨by rw [hc _ (by omega), h1]; rfl, by rw [hc _ (by omega), h2]; rfl⟩
theorem OwnI.oth {w : World} {base T : Nat} {v : Value} {ms : List (Int × Int)} (h : OwnI w base v ms) (hT : v.ownBlock = some T) : Oth w T ∧ base ≤ T := by
  obtain ⟨_, ⟨rfl, _⟩ | ⟨g, cap, cur, rfl, hg, hh, _⟩⟩ := h
  · cases hT
  · cases hT
    exact ⟨⟨cur, _, _, hh, by decide, by decide⟩, hg⟩
theorem MyP.own {w0 w w' : World} {P : Nat} {ss ms : List (Int × Int)} {v : Value} (h : MyP w0 w P ss) (ho : OwnI w w0.heap.size v ms) (k : w.grownBy w' v.ownBlock) : MyP w0 w' P ss := by
  cases hv : v.ownBlock with
  | none =>
    rw [hv] at k
    exact h.keep ⟨k.os, k.tape, k.output, k.size, fun i hi => k.block i hi (by simp)⟩
  | some T =>
    rw [hv] at k
    obtain ⟨h1, h2⟩ := ho.oth hv
    exact h.other h1 h2 k
theorem Blk.own {w w' : World} {D : Nat} {e : TypeId} {ys : List Int} {base : Nat} {v : Value} {ms : List (Int × Int)} (h : Blk w e D ys) (ho : OwnI w base v ms) (k : w.grownBy w' v.ownBlock) (he : e ≠ 32) : Blk w' e D ys := by
  unfold Blk
  rw [k.block D h.lt ?_]
  · exact h
  · intro e2
    obtain ⟨_, ⟨rfl, _⟩ | ⟨g, cap, cur, rfl, hg, hh, _⟩⟩ := ho
    · cases e2
    · injection e2 with e3
      subst e3
      have := (show w.heap[D]? = _ from h).symm.trans hh
      simp at this
      exact he this.2

/-- one more behind the document's list -/
theorem wpList_append_it {ops : Array Oper} {rest : List Oper} {o : Oper} {a : Act} {Q : Exit → Act → World → Prop} (w : World) (hgd : o.guard = none) (s x : Operand)
    (ho : o.op = .call { callee := .builtin .append, args := #[s, x], argTypes := #[26, 26] })
    (base : Nat) (v : Value) (n : Nat) (ms : List (Int × Int)) (p : Int × Int) (B c : Nat) (hs : a.eval s = v) (hx : a.eval x = .slice (some ⟨B, 0, none⟩) 1 c) (hv : OwnI w base v ms) (hn : ms.length = n) (h0 : w.cell? ⟨B, 0, none⟩ = some (.int .i64 p.1)) (h1 : w.cell? ⟨B, 1, none⟩ = some (.int .i64 p.2))
    (hroom : n + 1 ≤ 1000000) (hbase : base ≤ w.heap.size)
    (h : ∀ a' k' w', Hid (OwnI w' base (.slice a' (n + 1) k') (ms ++ [p]) ∧ w.grownBy w' v.ownBlock) → wpList Try.prog ops Q rest (a.put o.dst (.slice a' (n + 1) k')) w') : wpList Try.prog ops Q (o :: rest) a w := by
  subst hn
  obtain ⟨i0, hi, hz0, hz1, hz2⟩ := info_parts infoIt
  refine wpList_append_own w hgd s x 26 ho base 32 i0 _ 2 16 Try.underlying26 hi hz0 hz1 hz2 rfl (by decide) v ms.length (itC ms) hs hv ⟨B, 0, none⟩ 1 c (itC [p]) hx rfl ?_ (itC_one [p]) (by simp only [maxLen]; omega) (by omega) hbase ?_
  · intro j u hj
    match j, hj with
    | 0, hj => cases hj; simpa [Addr.add] using h0
    | 1, hj => cases hj; simpa [Addr.add] using h1
    | j + 2, hj => simp [itC] at hj
  · intro v' w' h2 h3 _
    have hv' : ∃ a' k', v' = .slice a' (ms.length + 1) k' := by
      obtain ⟨_, ⟨e1, e2⟩ | ⟨q, cap, cur, e1, _⟩⟩ := h2
      · omega
      · exact ⟨_, cap, e1⟩
    obtain ⟨a', k', rfl⟩ := hv'
    refine h a' k' w' ⟨?_, h3⟩
    unfold OwnI
    rw [List.length_append, itC_append]
    exact h2

/-- who comes next in the list is who comes next in the pile -/
theorem best_nxt {ms ss : List (Int × Int)} {b : Int} (hp : ms.Perm ss) (hs : Srt ss) (hb : BestP ms ms.length b) : (ss = [] ∧ ms = [] ∧ b = -1) ∨ ∃ q : Nat, b = (q : Int) ∧ q < ms.length ∧ atL (0, 0) ms q = nxt ss ∧ 0 < ss.length := by
  rcases hb with ⟨h0, rfl⟩ | ⟨q, rfl, hq, hm⟩
  · have e : ms = [] := List.eq_nil_of_length_eq_zero h0
    subst e
    exact .inl ⟨List.nil_perm.1 hp, rfl, rfl⟩
  · refine .inr ⟨q, rfl, hq, ?_, by rw [← hp.length_eq]; omega⟩
    cases ss with
    | nil => exfalso; have := hp.length_eq; rw [List.length_nil] at this; omega
    | cons s t =>
      have e1 : atL (0, 0) ms q = ms[q] := by unfold atL; simp [List.getD, hq]
      have h1 : ltI (atL (0, 0) ms q) s = false := hs.head _ (hp.mem_iff.1 (by rw [e1]; exact List.getElem_mem hq))
      obtain ⟨j, hj, e2⟩ := List.getElem_of_mem (hp.mem_iff.2 (List.mem_cons_self ..))
      have h2 := hm j hj
      have e3 : ms.getD j (0, 0) = s := by rw [← e2]; simp [List.getD, hj]
      rw [e3] at h2
      exact ordI.one h1 h2
theorem allBut_perm {ms : List (Int × Int)} {q : Nat} (hq : q < ms.length) : ms.Perm (atL (0, 0) ms q :: allBut ms q) := by
  unfold allBut
  have h : ms.take q ++ (atL (0, 0) ms q :: ms.drop (q + 1)) = ms := by rw [← drop_at hq, List.take_append_drop]
  have h2 : (ms.take q ++ (atL (0, 0) ms q :: ms.drop (q + 1))).Perm (atL (0, 0) ms q :: (ms.take q ++ ms.drop (q + 1))) := List.perm_middle
  rwa [h] at h2
theorem allBut_tail {ms ss : List (Int × Int)} {q : Nat} (hp : ms.Perm ss) (hq : q < ms.length) (he : atL (0, 0) ms q = nxt ss) (h0 : 0 < ss.length) : (allBut ms q).Perm ss.tail := by
  cases ss with
  | nil => simp at h0
  | cons s t =>
    have h := (allBut_perm hq).symm.trans hp
    rw [he] at h
    exact List.Perm.cons_inv h
theorem allBut_length {ms : List (Int × Int)} {q : Nat} (hq : q < ms.length) : (allBut ms q).length = ms.length - 1 := by
  have := (allBut_perm hq).length_eq
  simp at this
  omega
theorem allBut_mem {ms : List (Int × Int)} {q : Nat} {x : Int × Int} (h : x ∈ allBut ms q) : x ∈ ms := by
  unfold allBut at h
  rcases List.mem_append.1 h with h | h
  · exact List.mem_of_mem_take h
  · exact List.mem_of_mem_drop h
/-- the list while those with an id are taken out from its end on, K are left to be looked at -/
def OutSt (id : Int) (ms : List (Int × Int)) (K : Nat) : List (Int × Int) := ms.take K ++ keepI id (ms.drop K)
theorem OutSt.start (id : Int) (ms : List (Int × Int)) : OutSt id ms ms.length = ms := by simp [OutSt, keepI]
theorem OutSt.fin (id : Int) (ms : List (Int × Int)) : OutSt id ms 0 = keepI id ms := by simp [OutSt]
theorem OutSt.read {id : Int} {ms : List (Int × Int)} {K : Nat} (h : K < ms.length) : atL (0, 0) (OutSt id ms (K + 1)) K = atL (0, 0) ms K := by
  unfold OutSt atL
  have hl : K < (ms.take (K + 1)).length := by simp; omega
  rw [List.getD_eq_getElem?_getD, List.getElem?_append_left hl, List.getElem?_take, if_pos (by omega), ← List.getD_eq_getElem?_getD]
theorem OutSt.length_ge {id : Int} {ms : List (Int × Int)} {K : Nat} (h : K ≤ ms.length) : K ≤ (OutSt id ms K).length := by unfold OutSt; rw [List.length_append, List.length_take]; omega
theorem OutSt.length_le {id : Int} {ms : List (Int × Int)} {K : Nat} (h : K ≤ ms.length) : (OutSt id ms K).length ≤ ms.length := by
  unfold OutSt
  have := keepI_le id (ms.drop K)
  rw [List.length_append, List.length_take]
  simp at this
  omega
theorem OutSt.stays {id : Int} {ms : List (Int × Int)} {K : Nat} (h : K < ms.length) (he : (atL (0, 0) ms K).1 ≠ id) : OutSt id ms K = OutSt id ms (K + 1) := by
  unfold OutSt
  rw [drop_at h, take_at h]
  unfold keepI
  have e : ((atL (0, 0) ms K).1 != id) = true := by simpa using he
  rw [List.filter_cons_of_pos (by exact e)]
  simp
theorem OutSt.goes {id : Int} {ms : List (Int × Int)} {K : Nat} (h : K < ms.length) (he : (atL (0, 0) ms K).1 = id) : OutSt id ms K = allBut (OutSt id ms (K + 1)) K := by
  have e1 : OutSt id ms K = ms.take K ++ keepI id (ms.drop (K + 1)) := by
    unfold OutSt
    rw [drop_at h]
    unfold keepI
    have e : ¬ ((atL (0, 0) ms K).1 != id) = true := by simp [he]
    rw [List.filter_cons_of_neg (by exact e)]
  have hl : (ms.take K).length = K := by rw [List.length_take]; omega
  rw [e1]
  unfold allBut OutSt
  rw [take_at h]
  have hl2 : (ms.take K ++ [atL (0, 0) ms K]).length = K + 1 := by simp [hl]
  rw [List.drop_left' hl2, List.append_assoc, List.take_left' hl]
theorem OutSt.mem {id : Int} {ms : List (Int × Int)} {K : Nat} {x : Int × Int} (h : x ∈ OutSt id ms K) : x ∈ ms := by
  unfold OutSt at h
  rcases List.mem_append.1 h with h | h
  · exact List.mem_of_mem_take h
  · exact List.mem_of_mem_drop (List.mem_filter.1 h).1

end Go.Proofs.Ythcilobmoeihbaa
