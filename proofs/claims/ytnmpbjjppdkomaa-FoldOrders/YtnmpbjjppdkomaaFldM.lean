
/- Slots that are filled in whatever order: which are left; no program in it. -/
import Derived.Test.YtnmpbjjppdkomaaFldG
namespace Go.Proofs.Ytnmpbjjppdkomaa

/-- ls are the slots left to be filled with what ts has there; us is what they hold -/
structure Ord (ts us : List Tn) (ls : List Nat) (n : Nat) : Prop where
  lt_ : ts.length = n
  lu : us.length = n
  nd : ls.Nodup
  lt : ∀ x ∈ ls, x < n
  full : ∀ i, i < n → (ts.getD i tnil).d.length ≠ 0
  each : ∀ i, i < n → us.getD i tnil = if i ∈ ls then tnil else ts.getD i tnil
  vc : vacN us = ls.length

theorem Ord.start {ts : List Tn} {n : Nat} (h : ts.length = n) (hf : ∀ i, i < n → (ts.getD i tnil).d.length ≠ 0) : Ord ts (List.replicate n tnil) (List.range n) n := by
  refine ⟨h, by simp, List.nodup_range, fun x hx => List.mem_range.1 hx, hf, fun i hi => ?_, ?_⟩
  · rw [if_pos (List.mem_range.2 hi)]
    simp [hi]
  · unfold vacN
    rw [List.countP_replicate, if_pos (by simp [tnil])]
    simp

theorem split_at {ls : List Nat} {k : Nat} (hk : k < ls.length) : ls.take k ++ ls[k] :: ls.drop (k + 1) = ls := by
  rw [← List.drop_eq_getElem_cons hk, List.take_append_drop]

theorem Ord.step_mid {ts us : List Tn} {A B : List Nat} {x n : Nat} (h : Ord ts us (A ++ x :: B) n) : Ord ts (us.set x (ts.getD x tnil)) (A ++ B) n := by
  obtain ⟨h0, h1, h2, h3, h4, h5, h6⟩ := h
  have hx : x < n := h3 x (by simp)
  have hnd := h2
  simp only [List.nodup_append, List.nodup_cons] at hnd
  obtain ⟨a1, ⟨a2, a3⟩, a4⟩ := hnd
  have hxA : x ∉ A := fun e => a4 x e x (by simp) rfl
  refine ⟨h0, by rw [List.length_set]; exact h1, ?_, fun y hy => h3 y ?_, h4, fun i hi => ?_, ?_⟩
  · simp only [List.nodup_append]
    exact ⟨a1, a3, fun a ha b hb => a4 a ha b (by simp [hb])⟩
  · rcases List.mem_append.1 hy with e | e
    · simp [e]
    · simp [e]
  · by_cases e : i = x
    · subst e
      rw [if_neg (by simp [hxA, a2])]
      simp [h1, hi]
    · have e1 : (us.set x (ts.getD x tnil)).getD i tnil = us.getD i tnil := by
        rw [List.getD_eq_getElem?_getD, List.getElem?_set_ne (fun e' => e e'.symm), ← List.getD_eq_getElem?_getD]
      rw [e1, h5 i hi]
      have e2 : (i ∈ A ++ x :: B) ↔ (i ∈ A ++ B) := by simp [e]
      simp only [e2]
  · have hu : us.getD x tnil = tnil := by rw [h5 x hx, if_pos (by simp)]
    have hxl : x < us.length := by omega
    have e0 : us[x] = tnil := by rw [← hu]; simp [hxl]
    unfold vacN at h6 ⊢
    rw [List.countP_set hxl, e0, if_pos (by simp [tnil]), if_neg (by simpa using h4 x hx), h6]
    simp

theorem Ord.step {ts us : List Tn} {ls : List Nat} {n : Nat} (h : Ord ts us ls n) {k : Nat} (hk : k < ls.length) : Ord ts (us.set ls[k] (ts.getD ls[k] tnil)) (ls.take k ++ ls.drop (k + 1)) n := by
  have hs := split_at hk
  generalize ls[k] = x at *
  rw [← hs] at h
  exact h.step_mid

/-- none is left: all is there -/
theorem Ord.done {ts us : List Tn} {n : Nat} (h : Ord ts us [] n) : us = ts := by
  obtain ⟨h0, h1, _, _, _, h5, _⟩ := h
  apply List.ext_getElem (by omega)
  intro i hi hi'
  have e := h5 i (by omega)
  rw [if_neg (by simp)] at e
  have e1 : us.getD i tnil = us[i] := by simp [hi]
  have e2 : ts.getD i tnil = ts[i] := by simp [hi']
  rw [← e1, ← e2]
  exact e
/-- the slot that is next is not filled -/
theorem Ord.next {ts us : List Tn} {ls : List Nat} {n : Nat} (h : Ord ts us ls n) {k : Nat} (hk : k < ls.length) : ls[k] < n ∧ (us.getD ls[k] tnil).d.length = 0 := by
  have hm := List.getElem_mem hk
  have hx := h.lt _ hm
  refine ⟨hx, ?_⟩
  rw [h.each _ hx, if_pos hm]
  rfl
/-- and then it is -/
theorem Ord.filled {ts us : List Tn} {ls : List Nat} {n : Nat} (h : Ord ts us ls n) {k : Nat} (hk : k < ls.length) : ((us.set ls[k] (ts.getD ls[k] tnil)).getD ls[k] tnil).d.length ≠ 0 := by
  have hx := (h.next hk).1
  have e : (us.set ls[k] (ts.getD ls[k] tnil)).getD ls[k] tnil = ts.getD ls[k] tnil := by simp [h.lu, hx]
  rw [e]
  exact h.full _ hx

end Go.Proofs.Ytnmpbjjppdkomaa
