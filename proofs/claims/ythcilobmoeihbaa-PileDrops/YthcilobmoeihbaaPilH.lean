
/- The pile: New, Len, Top, Push, Pop, Drop, told by the list in order of who is in it. -/
import Derived.Test.YthcilobmoeihbaaPilF
import Derived.Test.YthcilobmoeihbaaPilG
namespace Go.Proofs.Ythcilobmoeihbaa
open Go.RowKit

/-- at P lies a pile with these, its row in block G -/
structure Pile (w : World) (P : Nat) (G : Option Nat) (ss : List (Int × Int)) : Prop where
  srt : Srt ss
  room : ss.length ≤ 1000000
  val : ∃ a cap ys, Boxed w P 56 (.slice a ys.length cap) ∧ OwnP w (.slice a ys.length cap) ys ∧ Value.ownBlock (.slice a ys.length cap) = G ∧ ys.Perm ss ∧ IsHeap (0, 0) ltI ys
/-- the row lies where it lay, or nowhere, or in a new block -/
def NewB (w : World) (G G' : Option Nat) : Prop := G' = G ∨ G' = none ∨ ∃ k, G' = some k ∧ w.heap.size ≤ k

theorem Pile.keep {w w' : World} {P : Nat} {G : Option Nat} {ss : List (Int × Int)} (h : Pile w P G ss) (k : Kp w w') : Pile w' P G ss := by
  obtain ⟨h1, h2, a, cap, ys, hb, ho, hr⟩ := h
  exact ⟨h1, h2, a, cap, ys, boxed_kp hb k, ho.keep k, hr⟩
theorem Pile.lt {w : World} {P : Nat} {G : Option Nat} {ss : List (Int × Int)} (h : Pile w P G ss) : P < w.heap.size := by
  obtain ⟨h1, h2, a, cap, ys, hb, ho, hr⟩ := h
  exact hb.lt

set_option maxHeartbeats 1000000 in
theorem pnew_any (w : World) : Calls Try.prog 10 #[] w fun e w' => e = .returned (.pointer (some ⟨w.heap.size, 0, none⟩)) ∧ Pile w' w.heap.size none [] ∧ Kp w w' := by
  have HP : Hid (Pile (w.alloc (.cells #[.slice none 0 0] 56)) w.heap.size none [] ∧ Kp w (w.alloc (.cells #[.slice none 0 0] 56))) :=
    ⟨⟨List.Pairwise.nil, by simp, none, 0, [], Boxed.new w _ _, OwnP.nil _, rfl, List.Perm.refl _, fun k h0 hk _ => absurd hk (by simp)⟩, Kp.alloc _ _⟩
  go_enter Try.func10, Try.ntmps10
  go_wp2
  go_ret
  exact ⟨rfl, unhide HP⟩

set_option maxHeartbeats 1000000 in
theorem plen_any (P : Nat) (G : Option Nat) (ss : List (Int × Int)) (w : World) (h : Pile w P G ss) : Calls Try.prog 17 #[.pointer (some ⟨P, 0, none⟩)] w fun e w' => e = .returned (.int .i64 (ss.length : Int)) ∧ w' = w := by
  obtain ⟨h1, h2, a, cap, ys, hb, ho, _, hp, _⟩ := h
  have hl := hp.length_eq
  have c0 := hb.cell
  rw [hl] at c0
  clear hb ho hp hl h1
  go_enter Try.func17, Try.ntmps17
  go_wp2
  go_ret
  exact ⟨rfl, rfl⟩

/-- who comes next, (0, 0) where nobody is there -/
def nxt : List (Int × Int) → Int × Int
  | [] => (0, 0)
  | s :: _ => s

set_option maxRecDepth 20000 in
set_option maxHeartbeats 4000000 in
theorem ptop_any (P : Nat) (G : Option Nat) (ss : List (Int × Int)) (w : World) (h : Pile w P G ss) : Calls Try.prog 13 #[.pointer (some ⟨P, 0, none⟩)] w fun e w' => e = .returned (.tuple #[.int .i64 (nxt ss).1, .int .i64 (nxt ss).2, .bool (decide (0 < ss.length))]) ∧ Kp w w' := by
  have HL := hide (plen_any P G ss w h)
  obtain ⟨h1, h2, a, cap, ys, hb, ho, _, hp, hh⟩ := h
  have hl := hp.length_eq
  have c0 := hb.cell
  have hPlt := hb.lt
  cases ss with
  | nil =>
    have hK := hide (Kp.refl w)
    clear hb ho hp hl h1 hh c0
    go_enter Try.func13, Try.ntmps13
    go_wp2_with fail
    refine (unhide HL).mono ?_
    rintro e w1 ⟨rfl, rfl⟩
    go_wp2
    go_ret3
    exact ⟨rfl, unhide hK⟩
  | cons s t =>
    have hy0 : 0 < ys.length := by rw [hl]; simp
    obtain ⟨g, c', e, hg, _⟩ := ho.form hy0
    injection e with e1 e2 e3
    subst e1 e3
    obtain ⟨i0, i1⟩ := ho.at (i := 0) hy0
    rw [heap_head hh hp h1] at i0 i1
    rw [hl] at c0
    simp only [Nat.zero_mul, Nat.zero_add] at i0 i1
    have hn0 : (0 : Int) < ((s :: t).length : Int) := by simp
    have hE : Hid (decide (0 < (s :: t).length) = true) := by unfold Hid; simp
    have hm0 : ((((s :: t).length : Nat) : Int) == 0) = false := beq_eq_false_iff_ne.2 (by omega)
    have hK := hide (Kp.alloc w (.cells #[.int .i64 s.1, .int .i64 s.2] 60))
    have hne : ¬ w.heap.size = P := by omega
    have en : nxt (s :: t) = s := rfl
    rw [en]
    generalize hn : (s :: t).length = n at *
    clear hb ho hp hl h1 hh hn en
    go_enter Try.func13, Try.ntmps13
    go_wp2_with fail
    refine (unhide HL).mono ?_
    rintro e w1 ⟨rfl, rfl⟩
    go_wp2_with fail
    go_quiet (fail)
    go_wp2
    go_ret3
    rw [unhide hE]
    exact ⟨rfl, (unhide hK).trans (Kp.drewN _ _)⟩

theorem rq_k2 {w w' : World} {P : Nat} {G : Option Nat} (h : Rq w.heap.size P G w w') : K2x P G w w' := h

theorem newB_refl (w : World) (G : Option Nat) : NewB w G G := .inl rfl
theorem Pile.qat {w : World} {P : Nat} {G : Option Nat} {ss : List (Int × Int)} (h : Pile w P G ss) : ∃ ys, QAt w.heap.size P G w ys ∧ ys.Perm ss ∧ IsHeap (0, 0) ltI ys := by
  obtain ⟨h1, h2, a, cap, ys, hb, ho, hG, hp, hh⟩ := h
  exact ⟨ys, ⟨by rw [hp.length_eq]; omega, Nat.le_refl _, a, cap, hb, ho, .inl hG⟩, hp, hh⟩
theorem QAt.pile {w w' : World} {N P : Nat} {G : Option Nat} {ys ss : List (Int × Int)} (h : QAt N P G w' ys) (hN : N = w.heap.size) (hp : ys.Perm ss) (hh : IsHeap (0, 0) ltI ys) (hs : Srt ss) (hr : ss.length ≤ 1000000) : ∃ G', Pile w' P G' ss ∧ NewB w G G' := by
  subst hN
  obtain ⟨_, _, a, cap, hb, ho, hu⟩ := h
  exact ⟨_, ⟨hs, hr, a, cap, ys, hb, ho, rfl, hp, hh⟩, hu⟩

set_option maxRecDepth 20000 in
set_option maxHeartbeats 4000000 in
theorem ppush_any (P : Nat) (G : Option Nat) (ss : List (Int × Int)) (x : Int × Int) (w : World) (h : Pile w P G ss) (hr : ss.length + 1 ≤ 1000000) : Calls Try.prog 12 #[.pointer (some ⟨P, 0, none⟩), .int .i64 x.1, .int .i64 x.2] w fun e w' => e = .returned (.tuple #[]) ∧ (∃ G', Pile w' P G' (insI x ss) ∧ NewB w G G') ∧ K2x P G w w' := by
  obtain ⟨ys, hq, hp, hh⟩ := h.qat
  have hl := hp.length_eq
  have HC := hide ((hpush_any (heapQ w.heap.size P G) ys x w hq (by omega) hh).mono (R' := fun e w' => e = .returned (.tuple #[]) ∧ (∃ G', Pile w' P G' (insI x ss) ∧ NewB w G G') ∧ K2x P G w w') (by
    rintro e w' ⟨rfl, zs, z1, z2, z3, z4⟩
    exact ⟨rfl, z1.pile rfl ((z2.trans (hp.cons x)).trans (insI_perm x ss).symm) z3 (h.srt.ins x) (by rw [insI_length]; omega), z4⟩))
  unfold boxE at HC
  have hPlt := h.lt
  clear hq hp hh hl h
  go_enter Try.func12, Try.ntmps12
  go_wp2_with fail
  refine (unhide HC).mono ?_
  rintro e w2 ⟨rfl, h2, k2⟩
  have HE := hide (And.intro h2 k2)
  clear h2 k2
  go_wp2
  refine bodyPost_end (v := .tuple #[]) (results_none Try.results12 _ _ _) rfl ⟨rfl, unhide HE⟩

set_option maxRecDepth 20000 in
set_option maxHeartbeats 4000000 in
theorem ppop_any (P : Nat) (G : Option Nat) (ss : List (Int × Int)) (w : World) (h : Pile w P G ss) : Calls Try.prog 14 #[.pointer (some ⟨P, 0, none⟩)] w fun e w' => e = .returned (.tuple #[.int .i64 (nxt ss).1, .int .i64 (nxt ss).2, .bool (decide (0 < ss.length))]) ∧ (∃ G', Pile w' P G' ss.tail ∧ NewB w G G') ∧ K2x P G w w' := by
  have HT := hide (ptop_any P G ss w h)
  cases ss with
  | nil =>
    have e0 : decide (0 < ([] : List (Int × Int)).length) = false := rfl
    have en : nxt [] = (0, 0) := rfl
    rw [e0, en] at HT ⊢
    have H := hide h
    clear h
    go_enter Try.func14, Try.ntmps14
    go_wp2_with fail
    refine (unhide HT).mono ?_
    rintro e w1 ⟨rfl, k1⟩
    have K1 := hide k1
    clear k1
    go_wp2
    go_ret3
    exact ⟨rfl, ⟨G, (unhide H).keep (unhide K1), newB_refl _ _⟩, K2x.of_kp (unhide K1)⟩
  | cons s t =>
    have e0 : decide (0 < (s :: t).length) = true := by simp
    have en : nxt (s :: t) = s := rfl
    have et : (s :: t).tail = t := rfl
    rw [e0, en] at HT ⊢
    rw [et]
    have H := hide h
    have hPlt := h.lt
    clear h
    go_enter Try.func14, Try.ntmps14
    go_wp2_with fail
    refine (unhide HT).mono ?_
    rintro e w1 ⟨rfl, k1⟩
    have H1 := (unhide H).keep k1
    obtain ⟨ys, hq, hp, hh⟩ := H1.qat
    have HS := hide H1.srt
    have HC := hide ((hpop_any (heapQ w1.heap.size P G) ys t.length w1 hq (by rw [hp.length_eq]; simp) hh).mono (R' := fun e w' => e = .returned (boxE s) ∧ Hid ((∃ G', Pile w' P G' t ∧ NewB w G G') ∧ K2x P G w w')) (by
      rintro e w' ⟨rfl, zs, z1, z2, z3, z4⟩
      have e1 := heap_head hh hp (unhide HS)
      rw [e1] at z2 ⊢
      have hm := H1.room
      have hpt : zs.Perm t := List.Perm.cons_inv (((List.perm_append_comm (l₁ := [s]) (l₂ := zs)).trans z2).trans hp)
      obtain ⟨G', p1, n1⟩ := z1.pile (w := w1) rfl hpt z3 (unhide HS).tail (by simp at hm; omega)
      have hk4 : K2x P G w1 w' := z4
      refine ⟨rfl, ⟨G', p1, ?_⟩, (K2x.of_kp k1).trans hk4⟩
      rcases n1 with e | e | ⟨k, e, hk⟩
      · exact .inl e
      · exact .inr (.inl e)
      · exact .inr (.inr ⟨k, e, Nat.le_trans k1.size hk⟩)))
    unfold boxE at HC
    have hPlt1 := Nat.lt_of_lt_of_le hPlt k1.size
    clear H1 hq hp hh k1
    go_wp2_with fail
    refine (unhide HC).mono ?_
    rintro e w2 ⟨rfl, HE⟩
    go_wp2
    go_ret3
    exact ⟨rfl, unhide HE⟩

theorem keepI_perm (id : Int) {a b : List (Int × Int)} (h : a.Perm b) : (keepI id a).Perm (keepI id b) := List.Perm.filter _ h
theorem Srt.keepI {ss : List (Int × Int)} (h : Srt ss) (id : Int) : Srt (keepI id ss) := h.filter _

set_option maxRecDepth 20000 in
set_option maxHeartbeats 4000000 in
theorem pdrop_any (P : Nat) (G : Option Nat) (ss : List (Int × Int)) (id : Int) (w : World) (h : Pile w P G ss) : Calls Try.prog 16 #[.pointer (some ⟨P, 0, none⟩), .int .i64 id] w fun e w' => e = .returned (.int .i64 ((ss.length : Int) - ((keepI id ss).length : Int))) ∧ (∃ G', Pile w' P G' (keepI id ss) ∧ NewB w G G') ∧ K2x P G w w' := by
  have hs := h.srt
  have hrm := h.room
  obtain ⟨_, _, a, cap, ys, hb, ho, hG, hp, hh⟩ := h
  have hl := hp.length_eq
  have kw := Kp.alloc w (.cells #[.int .i64 id] 3)
  have cid : (w.alloc (.cells #[.int .i64 id] 3)).cell? ⟨w.heap.size, 0, none⟩ = some (.int .i64 id) := (Boxed.new w 3 (.int .i64 id)).cell
  have hlen : w.heap.size < (w.alloc (.cells #[.int .i64 id] 3)).heap.size := by simp
  have hPlt := hb.lt
  have hneB : some w.heap.size ≠ Value.ownBlock (.slice a ys.length cap) := fun e => by
    have := (World.ownsRow.lt ho _ e.symm).2
    omega
  have c0 := hb.cell
  have hkl := keepI_le id ss
  have hkp := keepI_perm id hp
  rw [hl] at c0
  have e9 : IntKind.i64.wrap ((ss.length : Int) - ((keepI id ss).length : Int)) = (ss.length : Int) - ((keepI id ss).length : Int) := by rw [IntKind.wrap_i64]; omega
  go_enter Try.func16, Try.ntmps16
  go_upto_region 3 with fail
  generalize w.alloc (.cells #[.int .i64 id] 3) = w0 at *
  have hb0 := boxed_kp hb kw
  have HD := hide ((delete_all w.heap.size ss.length cap a id ys w0 (by rw [← hl]; exact ho.keep kw) hl (by omega) cid (by rw [← hl]; exact hneB)).mono (R' := fun e w' => e = .returned (.slice a (keepI id ss).length cap) ∧ w'.cell? ⟨P, 0, none⟩ = some (.slice a ss.length cap) ∧ w'.frozen? ⟨P, 0, none⟩ = false ∧ Hid (Boxed w' P 56 (.slice a ss.length cap) ∧ OwnP w' (.slice a (keepI id ss).length cap) (keepI id ys) ∧ Value.ownBlock (.slice a (keepI id ss).length cap) = G ∧ K2x P G w w')) (by
    rintro e w' ⟨rfl, o, e2, k2⟩
    have hb1 := hb0.kept (row := Value.ownBlock (.slice a ys.length cap)) (by rw [hl]; exact k2) ((ho.keep kw).block_ne hb0)
    rw [hkp.length_eq] at o e2 ⊢
    rw [hl] at hb1
    have e3 : Value.ownBlock (.slice a ss.length cap) = G := by rw [← hl]; exact hG
    refine ⟨rfl, hb1.cell, hb1.frozen, hb1, o, e2.trans e3, (K2x.of_kp kw).trans (K2x.of_grown (by rw [← e3]; exact k2))⟩))
  have d0 := hb0.cell
  rw [hl] at d0
  have hPlt0 := hb0.lt
  have HM := hide (And.intro hs (And.intro hp (And.intro hkp (show (keepI id ss).length ≤ 1000000 by omega))))
  have hkl1 := hide hkl
  clear hb hb0 ho hG hh hl kw cid hneB c0 hs hp hkp hlen hrm hkl
  generalize hm : (keepI id ss).length = m at *
  generalize hn : ss.length = n at *
  have HLm := hide hm
  have HLn := hide hn
  clear hm hn
  go_wp2_with fail
  refine (unhide HD).mono ?_
  clear HD d0
  rintro e w2 ⟨rfl, d2, f2, H2⟩
  have hP2 := (unhide H2).1.lt
  have hb3 := (unhide H2).1.set (.slice a m cap)
  have ho3 : OwnP (w2.setCell ⟨P, 0, none⟩ (.slice a m cap)) (.slice a m cap) (keepI id ys) := World.ownsRow.kept (unhide H2).2.1 (grownBy_setCell' w2 P _) (.inr ((unhide H2).2.1.block_ne (unhide H2).1).symm)
  have k3 : K2x P G w (w2.setCell ⟨P, 0, none⟩ (.slice a m cap)) := (unhide H2).2.2.2.trans (K2x.of_kx ((Kx.refl P w2).set 0 _))
  have hP3 : P < (w2.setCell ⟨P, 0, none⟩ (.slice a m cap)).heap.size := hb3.lt
  have hym : (keepI id ys).length = m := (unhide HM).2.2.1.length_eq.trans (unhide HLm)
  have hq : QAt (w2.setCell ⟨P, 0, none⟩ (.slice a m cap)).heap.size P G (w2.setCell ⟨P, 0, none⟩ (.slice a m cap)) (keepI id ys) := ⟨by have := (unhide HM).2.2.2; omega, Nat.le_refl _, a, cap, by rw [hym]; exact hb3, by rw [hym]; exact ho3, .inl (by rw [hym]; exact (unhide H2).2.2.1)⟩
  have HC := hide ((hinit_any (heapQ (w2.setCell ⟨P, 0, none⟩ (.slice a m cap)).heap.size P G) (keepI id ys) (w2.setCell ⟨P, 0, none⟩ (.slice a m cap)) hq).mono (R' := fun e w' => ∃ a' c', e = .returned (.tuple #[]) ∧ w'.cell? ⟨P, 0, none⟩ = some (.slice a' m c') ∧ Hid ((∃ G', Pile w' P G' (keepI id ss) ∧ NewB w G G') ∧ K2x P G w w')) (by
    rintro e w' ⟨rfl, zs, z1, z2, z3, z4⟩
    have hpz := z2.trans (unhide HM).2.2.1
    have hmm := (unhide HM).2.2.2
    have hlm := unhide HLm
    obtain ⟨a', c', hb', ho', _⟩ := z1.val
    have hzl : zs.length = m := hpz.length_eq.trans hlm
    have c1 := hb'.cell
    rw [hzl] at c1
    obtain ⟨G', p1, n1⟩ := z1.pile (w := w2.setCell ⟨P, 0, none⟩ (.slice a m cap)) rfl hpz z3 ((unhide HM).1.keepI id) (by omega)
    have hk4 : K2x P G (w2.setCell ⟨P, 0, none⟩ (.slice a m cap)) w' := z4
    refine ⟨a', c', rfl, c1, ⟨G', p1, ?_⟩, k3.trans hk4⟩
    rcases n1 with e | e | ⟨k, e, hk⟩
    · exact .inl e
    · exact .inr (.inl e)
    · exact .inr (.inr ⟨k, e, Nat.le_trans k3.size hk⟩)))
  clear hb3 ho3 k3 hq hym H2
  go_wp2_with fail
  refine (unhide HC).mono ?_
  clear HC
  rintro e w4 ⟨a', c', rfl, c4, HE⟩
  go_wp2
  go_ret
  rw [unhide HLm, unhide HLn]
  exact ⟨rfl, unhide HE⟩

end Go.Proofs.Ythcilobmoeihbaa
