
/- A pile of the call's own; awake. -/
import Derived.Test.YthcilobmoeihbaaPilH
namespace Go.Proofs.Ythcilobmoeihbaa
open Go.RowKit

/-- a pile that the call has made -/
structure MyP (w0 w : World) (P : Nat) (ss : List (Int × Int)) : Prop where
  at_ : ∃ G, Pile w P G ss ∧ ∀ k, G = some k → w0.heap.size ≤ k
  new : w0.heap.size ≤ P
  kp : Kp w0 w
/-- blocks that are neither a pile's box nor rows of entries stay -/
def Kty (w w' : World) : Prop := ∀ (k : Nat) (c : Array Value) (t : TypeId) (f : Nat × Nat), w.heap[k]? = some (Obj.cells c t f) → t ≠ 56 → t ≠ 60 → w'.heap[k]? = w.heap[k]?
theorem Kty.of_kp {w w' : World} (h : Kp w w') : Kty w w' := fun k _ _ _ hk _ _ => h.block k (Array.getElem?_eq_some_iff.1 hk).1
theorem Kty.trans {a b c : World} (h : Kty a b) (k : Kty b c) : Kty a c := fun i cs t f hi h1 h2 => by
  have e := h i cs t f hi h1 h2
  exact (k i cs t f (e.trans hi) h1 h2).trans e
theorem Kty.of_k2 {w w' : World} {P : Nat} {G : Option Nat} {ss : List (Int × Int)} (h : K2x P G w w') (hp : Pile w P G ss) : Kty w w' := fun k c t f hk h1 h2 => by
  obtain ⟨_, _, a, cap, ys, hb, ho, hG, _⟩ := hp
  refine h.2.2.2.2 k (Array.getElem?_eq_some_iff.1 hk).1 (fun e => ?_) (fun e => ?_)
  · subst e
    have := (show w.heap[k]? = _ from hb).symm.trans hk
    simp at this
    exact h1 this.2.1.symm
  · obtain ⟨_, ⟨e2, _⟩ | ⟨g, cap', cur, e2, _, hh, _⟩⟩ := ho
    · rw [e2] at hG
      rw [← hG] at e
      cases e
    · rw [e2] at hG
      rw [← hG] at e
      injection e with e3
      subst e3
      have := hk.symm.trans hh
      simp at this
      exact h2 this.2.1
theorem Kp.of_k2 {w0 w w' : World} {P : Nat} {G : Option Nat} (k0 : Kp w0 w) (h : K2x P G w w') (hP : w0.heap.size ≤ P) (hG : ∀ k, G = some k → w0.heap.size ≤ k) : Kp w0 w' := by
  obtain ⟨h1, h2, h3, h4, h5⟩ := h
  refine ⟨h1.trans k0.os, h2.trans k0.tape, h3.trans k0.output, Nat.le_trans k0.size h4, fun i hi => (h5 i (Nat.lt_of_lt_of_le hi k0.size) (by omega) (fun e => ?_)).trans (k0.block i hi)⟩
  have := hG i e.symm
  omega
theorem MyP.step {w0 w w' : World} {P : Nat} {G : Option Nat} {ss ts : List (Int × Int)} (h : MyP w0 w P ss) (hG : ∀ k, G = some k → w0.heap.size ≤ k) (hp : ∃ G', Pile w' P G' ts ∧ NewB w G G') (hk : K2x P G w w') : MyP w0 w' P ts := by
  obtain ⟨G', p1, n1⟩ := hp
  refine ⟨⟨G', p1, fun k e => ?_⟩, h.new, h.kp.of_k2 hk h.new hG⟩
  rcases n1 with e1 | e1 | ⟨q, e1, hq⟩
  · exact hG k (e1.symm.trans e)
  · rw [e1] at e; cases e
  · rw [e1] at e; cases e
    exact Nat.le_trans h.kp.size hq
theorem MyP.keep {w0 w w' : World} {P : Nat} {ss : List (Int × Int)} (h : MyP w0 w P ss) (k : Kp w w') : MyP w0 w' P ss := by
  obtain ⟨⟨G, hp, hG⟩, h2, h3⟩ := h
  exact ⟨⟨G, hp.keep k, hG⟩, h2, h3.trans k⟩
theorem MyP.room {w0 w : World} {P : Nat} {ss : List (Int × Int)} (h : MyP w0 w P ss) : ss.length ≤ 1000000 := by
  obtain ⟨⟨G, hp, hG⟩, _⟩ := h
  exact hp.room
theorem MyP.srt {w0 w : World} {P : Nat} {ss : List (Int × Int)} (h : MyP w0 w P ss) : Srt ss := by
  obtain ⟨⟨G, hp, hG⟩, _⟩ := h
  exact hp.srt

theorem my_new (w0 w : World) (k0 : Kp w0 w) : Calls Try.prog 10 #[] w fun e w' => ∃ P, e = .returned (.pointer (some ⟨P, 0, none⟩)) ∧ MyP w0 w' P [] ∧ Kp w w' := (pnew_any w).mono (by
  rintro e w' ⟨rfl, hp, k⟩
  exact ⟨_, rfl, ⟨⟨none, hp, fun k e => by cases e⟩, k0.size, k0.trans k⟩, k⟩)
theorem my_len {w0 w : World} {P : Nat} {ss : List (Int × Int)} (h : MyP w0 w P ss) : Calls Try.prog 17 #[.pointer (some ⟨P, 0, none⟩)] w fun e w' => e = .returned (.int .i64 (ss.length : Int)) ∧ w' = w := by
  obtain ⟨⟨G, hp, hG⟩, _⟩ := h
  exact plen_any P G ss w hp
theorem my_top {w0 w : World} {P : Nat} {ss : List (Int × Int)} (h : MyP w0 w P ss) : Calls Try.prog 13 #[.pointer (some ⟨P, 0, none⟩)] w fun e w' => e = .returned (.tuple #[.int .i64 (nxt ss).1, .int .i64 (nxt ss).2, .bool (decide (0 < ss.length))]) ∧ MyP w0 w' P ss ∧ Kty w w' := by
  have h' := h
  obtain ⟨⟨G, hp, hG⟩, _⟩ := h
  refine (ptop_any P G ss w hp).mono ?_
  rintro e w' ⟨rfl, k⟩
  exact ⟨rfl, h'.keep k, Kty.of_kp k⟩
theorem my_pop {w0 w : World} {P : Nat} {ss : List (Int × Int)} (h : MyP w0 w P ss) : Calls Try.prog 14 #[.pointer (some ⟨P, 0, none⟩)] w fun e w' => e = .returned (.tuple #[.int .i64 (nxt ss).1, .int .i64 (nxt ss).2, .bool (decide (0 < ss.length))]) ∧ MyP w0 w' P ss.tail ∧ Kty w w' := by
  have h' := h
  obtain ⟨⟨G, hp, hG⟩, _⟩ := h
  refine (ppop_any P G ss w hp).mono ?_
  rintro e w' ⟨rfl, p, k⟩
  exact ⟨rfl, h'.step hG p k, Kty.of_k2 k hp⟩
theorem my_push {w0 w : World} {P : Nat} {ss : List (Int × Int)} (h : MyP w0 w P ss) (id rank : Int) (hr : ss.length + 1 ≤ 1000000) : Calls Try.prog 12 #[.pointer (some ⟨P, 0, none⟩), .int .i64 id, .int .i64 rank] w fun e w' => e = .returned (.tuple #[]) ∧ MyP w0 w' P (insI (id, rank) ss) ∧ Kty w w' := by
  have h' := h
  obtain ⟨⟨G, hp, hG⟩, _⟩ := h
  refine (ppush_any P G ss (id, rank) w hp hr).mono ?_
  rintro e w' ⟨rfl, p, k⟩
  exact ⟨rfl, h'.step hG p k, Kty.of_k2 k hp⟩
theorem my_drop {w0 w : World} {P : Nat} {ss : List (Int × Int)} (h : MyP w0 w P ss) (id : Int) : Calls Try.prog 16 #[.pointer (some ⟨P, 0, none⟩), .int .i64 id] w fun e w' => e = .returned (.int .i64 ((ss.length : Int) - ((keepI id ss).length : Int))) ∧ MyP w0 w' P (keepI id ss) ∧ Kty w w' := by
  have h' := h
  obtain ⟨⟨G, hp, hG⟩, _⟩ := h
  refine (pdrop_any P G ss id w hp).mono ?_
  rintro e w' ⟨rfl, p, k⟩
  exact ⟨rfl, h'.step hG p k, Kty.of_k2 k hp⟩

set_option maxRecDepth 20000 in
set_option maxHeartbeats 4000000 in
theorem awake14_any (w : World) : Calls Try.prog 9 #[] w fun e w' => e = .returned (.bool true) ∧ Kp w w' := by
  have HN := hide (my_new w w (Kp.refl w))
  go_enter Try.func9, Try.ntmps9
  go_wp2_with fail
  refine (unhide HN).mono ?_
  clear HN
  rintro e w1 ⟨P, rfl, h1, -⟩
  have H1 := hide h1
  clear h1
  go_wp2_with fail
  refine (my_push (unhide H1) 1 5 (by decide)).mono ?_
  rintro e w2 ⟨rfl, h2, -⟩
  have H2 := hide h2
  clear h2 H1
  go_wp2_with fail
  refine (my_push (unhide H2) 3 9 (by decide)).mono ?_
  rintro e w3 ⟨rfl, h3, -⟩
  have H3 := hide h3
  clear h3 H2
  go_wp2_with fail
  refine (my_push (unhide H3) 2 9 (by decide)).mono ?_
  rintro e w4 ⟨rfl, h4, -⟩
  have e4 : insI (2, 9) (insI (3, 9) (insI (1, 5) [])) = [(2, 9), (3, 9), (1, 5)] := by decide
  rw [e4] at h4
  have H4 := hide h4
  clear h4 H3 e4
  go_wp2_with fail
  refine (my_pop (unhide H4)).mono ?_
  rintro e w5 ⟨rfl, h5, -⟩
  have H5 : Hid (MyP w w5 P [(3, 9), (1, 5)]) := h5
  have e5 : nxt [((2 : Int), (9 : Int)), (3, 9), (1, 5)] = (2, 9) := rfl
  have e6 : decide (0 < [((2 : Int), (9 : Int)), (3, 9), (1, 5)].length) = true := rfl
  rw [e5, e6]
  clear h5 H4 e5 e6
  go_wp2_with fail
  refine (my_len (unhide H5)).mono ?_
  rintro e w6 ⟨rfl, rfl⟩
  have e7 : ((([((3 : Int), (9 : Int)), (1, 5)].length : Nat) : Int)) = 2 := rfl
  rw [e7]
  clear e7
  go_wp2
  go_ret
  exact ⟨rfl, (unhide H5).kp⟩

end Go.Proofs.Ythcilobmoeihbaa
