
/- Two piles of the call's own; rows of bools beside them; who is struck. -/
import Derived.Test.YthcilobmoeihbaaPilM
namespace Go.Proofs.Ythcilobmoeihbaa
open Go.RowKit

/-- two piles that the call has made -/
structure MyQ (w0 w : World) (P Q : Nat) (ss ts : List (Int × Int)) : Prop where
  at_ : ∃ G H, Pile w P G ss ∧ Pile w Q H ts ∧ (∀ k, G = some k → w0.heap.size ≤ k ∧ H ≠ some k) ∧ ∀ k, H = some k → w0.heap.size ≤ k
  ne : P ≠ Q
  newP : w0.heap.size ≤ P
  newQ : w0.heap.size ≤ Q
  kp : Kp w0 w
theorem MyQ.swap {w0 w : World} {P Q : Nat} {ss ts : List (Int × Int)} (h : MyQ w0 w P Q ss ts) : MyQ w0 w Q P ts ss := by
  obtain ⟨⟨G, H, hp, hq, hG, hH⟩, h2, h3, h4, h5⟩ := h
  exact ⟨⟨H, G, hq, hp, fun k e => ⟨hH k e, fun e2 => (hG k e2).2 e⟩, fun k e => (hG k e).1⟩, h2.symm, h4, h3, h5⟩
theorem Pile.keep2 {w w' : World} {P Q : Nat} {G H : Option Nat} {ss ts : List (Int × Int)} (h : Pile w Q H ts) (hp : Pile w P G ss) (k : K2x P G w w') (hne : P ≠ Q) (hGH : ∀ k, G = some k → H ≠ some k) : Pile w' Q H ts := by
  obtain ⟨h1, h2, a, cap, ys, hb, ho, hH, hr⟩ := h
  obtain ⟨_, _, a2, cap2, ys2, hb2, ho2, hG, _⟩ := hp
  have hGQ : some Q ≠ G := by rw [← hG]; exact ho2.block_ne hb
  have hHP : some P ≠ H := by rw [← hH]; exact ho.block_ne hb2
  refine ⟨h1, h2, a, cap, ys, ?_, ?_, hH, hr⟩
  · unfold Boxed
    rw [k.2.2.2.2 Q hb.lt hne.symm hGQ]
    exact hb
  · obtain ⟨h0, h | ⟨g, cp, cur, e, hg, hh, r⟩⟩ := ho
    · exact ⟨h0, .inl h⟩
    · have eH : H = some g := by rw [← hH, e]; rfl
      refine ⟨h0, .inr ⟨g, cp, cur, e, hg, ?_, r⟩⟩
      rw [k.2.2.2.2 g (Array.getElem?_eq_some_iff.1 hh).1 (fun e2 => hHP (by rw [eH, e2])) (fun e2 => hGH g e2.symm eH)]
      exact hh
theorem MyQ.step {w0 w w' : World} {P Q : Nat} {G H : Option Nat} {ss ts us : List (Int × Int)} (h : MyQ w0 w P Q ss ts) (hp0 : Pile w P G ss) (hq : Pile w Q H ts) (hG : ∀ k, G = some k → w0.heap.size ≤ k ∧ H ≠ some k) (hH : ∀ k, H = some k → w0.heap.size ≤ k) (hp : ∃ G', Pile w' P G' us ∧ NewB w G G') (hk : K2x P G w w') : MyQ w0 w' P Q us ts := by
  obtain ⟨G', p1, n1⟩ := hp
  have hq' := hq.keep2 hp0 hk h.ne (fun k e => (hG k e).2)
  have hHlt : ∀ k, H = some k → k < w.heap.size := by
    intro k e
    obtain ⟨_, _, a, cap, ys, _, ho, e2, _⟩ := hq
    exact (World.ownsRow.lt ho k (e2.trans e)).2
  refine ⟨⟨G', H, p1, hq', fun k e => ?_, hH⟩, h.ne, h.newP, h.newQ, h.kp.of_k2 hk h.newP (fun k e => (hG k e).1)⟩
  rcases n1 with e1 | e1 | ⟨q, e1, hq⟩
  · exact hG k (e1.symm.trans e)
  · rw [e1] at e; cases e
  · rw [e1] at e; cases e
    exact ⟨Nat.le_trans h.kp.size hq, fun e2 => by have := hHlt _ e2; omega⟩
theorem MyQ.keep {w0 w w' : World} {P Q : Nat} {ss ts : List (Int × Int)} (h : MyQ w0 w P Q ss ts) (k : Kp w w') : MyQ w0 w' P Q ss ts := by
  obtain ⟨⟨G, H, hp, hq, hG, hH⟩, h2, h3, h4, h5⟩ := h
  exact ⟨⟨G, H, hp.keep k, hq.keep k, hG, hH⟩, h2, h3, h4, h5.trans k⟩
theorem MyQ.other {w0 w w' : World} {P Q T : Nat} {ss ts : List (Int × Int)} (h : MyQ w0 w P Q ss ts) (ho : Oth w T) (hT : w0.heap.size ≤ T) (k : w.grownBy w' (some T)) : MyQ w0 w' P Q ss ts := by
  obtain ⟨⟨G, H, hp, hq, hG, hH⟩, h2, h3, h4, h5⟩ := h
  exact ⟨⟨G, H, hp.other ho k, hq.other ho k, hG, hH⟩, h2, h3, h4, kp_other h5 k hT⟩
theorem MyQ.srt {w0 w : World} {P Q : Nat} {ss ts : List (Int × Int)} (h : MyQ w0 w P Q ss ts) : Srt ss := by
  obtain ⟨⟨G, H, hp, _⟩, _⟩ := h
  exact hp.srt

theorem two_new {w0 w : World} {P : Nat} (h : MyP w0 w P []) : Calls Try.prog 10 #[] w fun e w' => ∃ Q, e = .returned (.pointer (some ⟨Q, 0, none⟩)) ∧ MyQ w0 w' P Q [] [] ∧ Kp w w' := (pnew_any w).mono (by
  rintro e w' ⟨rfl, hp, k⟩
  obtain ⟨⟨G, h1, hG⟩, h2, h3⟩ := h
  exact ⟨_, rfl, ⟨⟨G, none, h1.keep k, hp, fun k e => ⟨hG k e, by simp⟩, fun k e => by cases e⟩, Nat.ne_of_lt h1.lt, h2, h3.size, h3.trans k⟩, k⟩)
theorem two_len {w0 w : World} {P Q q : Nat} {ss ts : List (Int × Int)} (h : MyQ w0 w P Q ss ts) (hq : ss.length = q) : Calls Try.prog 17 #[.pointer (some ⟨P, 0, none⟩)] w fun e w' => e = .returned (.int .i64 (q : Int)) ∧ w' = w := by
  subst hq
  obtain ⟨⟨G, H, hp, _⟩, _⟩ := h
  exact plen_any P G ss w hp
theorem two_pop {w0 w : World} {P Q : Nat} {ss ts : List (Int × Int)} (h : MyQ w0 w P Q ss ts) : Calls Try.prog 14 #[.pointer (some ⟨P, 0, none⟩)] w fun e w' => e = .returned (.tuple #[.int .i64 (nxt ss).1, .int .i64 (nxt ss).2, .bool (decide (0 < ss.length))]) ∧ MyQ w0 w' P Q ss.tail ts ∧ Kty w w' := by
  have h' := h
  obtain ⟨⟨G, H, hp, hq, hG, hH⟩, _⟩ := h
  refine (ppop_any P G ss w hp).mono ?_
  rintro e w' ⟨rfl, p, k⟩
  exact ⟨rfl, h'.step hp hq hG hH p k, Kty.of_k2 k hp⟩
theorem two_push {w0 w : World} {P Q : Nat} {ss ts : List (Int × Int)} (h : MyQ w0 w P Q ss ts) (id rank : Int) (hr : ss.length + 1 ≤ 1000000) : Calls Try.prog 12 #[.pointer (some ⟨P, 0, none⟩), .int .i64 id, .int .i64 rank] w fun e w' => e = .returned (.tuple #[]) ∧ MyQ w0 w' P Q (insI (id, rank) ss) ts ∧ Kty w w' := by
  have h' := h
  obtain ⟨⟨G, H, hp, hq, hG, hH⟩, _⟩ := h
  refine (ppush_any P G ss (id, rank) w hp hr).mono ?_
  rintro e w' ⟨rfl, p, k⟩
  exact ⟨rfl, h'.step hp hq hG hH p k, Kty.of_k2 k hp⟩
theorem two_drop {w0 w : World} {P Q : Nat} {ss ts : List (Int × Int)} (h : MyQ w0 w P Q ss ts) (id : Int) : Calls Try.prog 16 #[.pointer (some ⟨P, 0, none⟩), .int .i64 id] w fun e w' => e = .returned (.int .i64 ((ss.length : Int) - ((keepI id ss).length : Int))) ∧ MyQ w0 w' P Q (keepI id ss) ts ∧ Kty w w' := by
  have h' := h
  obtain ⟨⟨G, H, hp, hq, hG, hH⟩, _⟩ := h
  refine (pdrop_any P G ss id w hp).mono ?_
  rintro e w' ⟨rfl, p, k⟩
  exact ⟨rfl, h'.step hp hq hG hH p k, Kty.of_k2 k hp⟩

/-- block T holds these bools -/
def BlkO (w : World) (T : Nat) (bs : List Bool) : Prop := w.heap[T]? = some (Obj.cells (bs.map Value.bool).toArray 49)
theorem BlkO.oth {w : World} {T : Nat} {bs : List Bool} (h : BlkO w T bs) : Oth w T := ⟨_, _, _, h, by decide, by decide⟩
theorem BlkO.kty {w w' : World} {T : Nat} {bs : List Bool} (h : BlkO w T bs) (k : Kty w w') : BlkO w' T bs := (k T _ _ _ h (by decide) (by decide)).trans h
theorem BlkO.cell {w : World} {T : Nat} {bs : List Bool} (h : BlkO w T bs) {i : Nat} (hi : i < bs.length) : w.cell? ⟨T, i, none⟩ = some (.bool (bs.getD i false)) := by
  unfold BlkO at h
  simp [World.cell?, h, hi]
theorem BlkO.frozen {w : World} {T : Nat} {bs : List Bool} (h : BlkO w T bs) (i : Nat) : w.frozen? ⟨T, i, none⟩ = false := by
  unfold BlkO at h
  simp [World.frozen?, h]
theorem BlkO.set {w : World} {T : Nat} {bs : List Bool} (h : BlkO w T bs) (i : Nat) (x : Bool) : BlkO (w.setCell ⟨T, i, none⟩ (.bool x)) T (bs.set i x) := by
  unfold BlkO at h ⊢
  simp [World.setCell, Array.getElem?_modify, h, List.map_set]

/-- whether it is among the first k -/
def outB (g : Nat → Int) (k : Nat) (v : Int) : Bool := (List.range k).any fun i => g i == v
theorem outB_zero (g : Nat → Int) (v : Int) : outB g 0 v = false := rfl
theorem outB_succ (g : Nat → Int) (k : Nat) (v : Int) : outB g (k + 1) v = (outB g k v || g k == v) := by unfold outB; rw [List.range_succ, List.any_append]; simp
/-- those that are not struck -/
def stayL (g : Nat → Int) (k : Nat) (ss : List (Int × Int)) : List (Int × Int) := ss.filter fun x => !(outB g k x.1)
theorem stayL_zero (g : Nat → Int) (ss : List (Int × Int)) : stayL g 0 ss = ss := by unfold stayL; simp [outB_zero]
theorem stayL_succ (g : Nat → Int) (k : Nat) (ss : List (Int × Int)) : stayL g (k + 1) ss = keepI (g k) (stayL g k ss) := by
  unfold stayL keepI
  rw [List.filter_filter]
  have e : (fun x : Int × Int => !(outB g (k + 1) x.1)) = fun x => ((x.1 != g k) && !(outB g k x.1)) := by
    funext x
    rw [outB_succ]
    by_cases h : x.1 = g k
    · have h1 : (x.1 != g k) = false := by simp [h]
      have h2 : (g k == x.1) = true := by simp [h]
      rw [h1, h2, Bool.or_true, Bool.false_and]
      rfl
    · have h1 : (x.1 != g k) = true := by simpa using h
      have h2 : (g k == x.1) = false := beq_eq_false_iff_ne.2 (fun e => h e.symm)
      rw [h1, h2, Bool.or_false, Bool.true_and]
  rw [e]
theorem stayL_le (g : Nat → Int) (k : Nat) (ss : List (Int × Int)) : (stayL g k ss).length ≤ ss.length := List.length_filter_le _ _
theorem stayL_in {g : Nat → Int} {k : Nat} {ss : List (Int × Int)} {x : Int × Int} (hs : Srt ss) (h : outB g k x.1 = false) : stayL g k (insI x ss) = insI x (stayL g k ss) := by
  refine Srt.unique ((hs.ins x).filter _) ((hs.filter _).ins x) ?_
  unfold stayL
  refine ((insI_perm x ss).filter _).trans ?_
  rw [List.filter_cons_of_pos (by simp [h])]
  exact (insI_perm x _).symm
theorem stayL_out {g : Nat → Int} {k : Nat} {ss : List (Int × Int)} {x : Int × Int} (hs : Srt ss) (h : outB g k x.1 = true) : stayL g k (insI x ss) = stayL g k ss := by
  refine Srt.unique ((hs.ins x).filter _) (hs.filter _) ?_
  unfold stayL
  refine ((insI_perm x ss).filter _).trans ?_
  rw [List.filter_cons_of_neg (by simp [h])]
theorem getB_set {bs : List Bool} {i r : Nat} {x : Bool} (hi : i < bs.length) : (bs.set i x).getD r false = if r = i then x else bs.getD r false := by
  by_cases e : r = i
  · subst e; simp [hi]
  · rw [if_neg e]
    simp [List.getD, Ne.symm e]
theorem rep_false (n r : Nat) (h : r < n) : (List.replicate n false).getD r false = false := by rw [List.getD_eq_getElem?_getD]; simp [h]
/-- the table of who is struck -/
structure OT (g : Nat → Int) (k : Nat) (bs : List Bool) : Prop where
  len : bs.length = 256
  at_ : ∀ r, r < 256 → bs.getD r false = outB g k (r : Int)
theorem OT.start (g : Nat → Int) : OT g 0 (List.replicate 256 false) := ⟨List.length_replicate, fun r hr => (rep_false 256 r hr).trans (outB_zero g _).symm⟩
theorem OT.step {g : Nat → Int} {k q : Nat} {bs : List Bool} (h : OT g k bs) (hq : g k = (q : Int)) (hq2 : q < 256) : OT g (k + 1) (bs.set q true) := by
  refine ⟨by rw [List.length_set]; exact h.len, fun r hr => ?_⟩
  rw [getB_set (by rw [h.len]; exact hq2), outB_succ, hq]
  by_cases e : r = q
  · subst e; simp
  · rw [if_neg e, h.at_ r hr]
    have : ((q : Int) == (r : Int)) = false := beq_eq_false_iff_ne.2 (by omega)
    rw [this, Bool.or_false]

end Go.Proofs.Ythcilobmoeihbaa
