
/- The contract of the document's New. -/
import Derived.Test.YtliddjpcbhdplaaTenI
import Derived.Test.YtliddjpcbhdplaaStep
import Derived.Deep.DeepCutAuto
namespace Go.Proofs.Ytliddjpcbhdplaa
open Go.RowKit

theorem Own.setBx {w : World} {e : TypeId} {base B : Nat} {v x y : Value} {xs : List Int} (h : Own w e base v xs) (hb : Bx w B x y) (he : e ≠ 38) (u u' : Value) : Own ((w.setCell ⟨B, 0, none⟩ u).setCell ⟨B, 1, none⟩ u') e base v xs := by
  obtain ⟨h0, h | ⟨g, cap, cur, rfl, hg, hh, r⟩⟩ := h
  · exact ⟨h0, .inl h⟩
  · have hne : g ≠ B := by
      intro e1
      subst e1
      unfold Bx at hb
      rw [hh] at hb
      injection hb with e2
      injection e2 with _ e3
      exact he e3
    exact ⟨h0, .inr ⟨g, cap, cur, rfl, hg, ((Below.heap_setCell _ ⟨B, 1, none⟩ u' g hne).trans (Below.heap_setCell w ⟨B, 0, none⟩ u g hne)).trans hh, r⟩⟩
theorem OwnG.setBx {w : World} {e : TypeId} {G n c B : Nat} {x y : Value} {xs : List Nat} (h : OwnG w e G n c xs) (hb : Bx w B x y) (he : e ≠ 38) (u u' : Value) : OwnG ((w.setCell ⟨B, 0, none⟩ u).setCell ⟨B, 1, none⟩ u') e G n c xs := by
  have hne : ¬ B = G := by
    intro e1
    subst e1
    obtain ⟨_, _, cur, hh, _⟩ := h
    unfold Bx at hb
    rw [hh] at hb
    injection hb with e2
    injection e2 with _ e3
    exact he e3
  exact (h.setOther hne 0 u).setOther hne 1 u'

theorem Bx.neG {w : World} {e : TypeId} {B G n c : Nat} {x y : Value} {xs : List Nat} (hb : Bx w B x y) (h : OwnG w e G n c xs) (he : e ≠ 38) : ¬ B = G := by
  intro e1
  subst e1
  obtain ⟨_, _, cur, hh, _⟩ := h
  unfold Bx at hb
  rw [hh] at hb
  injection hb with e2
  injection e2 with _ e3
  exact he e3

theorem fillN_set {n k : Nat} (x : Nat) (h : k < n) : (fillN n k x).set k x = fillN n (k + 1) x := by
  unfold fillN
  rw [List.set_append_right _ _ (by simp), List.length_replicate, Nat.sub_self, show n - k = (n - (k + 1)) + 1 by omega, List.replicate_succ (n := n - (k + 1)), List.set_cons_zero, List.replicate_succ' (n := k), List.append_assoc]
  rfl

/-- a pair of rows has been laid: the shape's copy, and a new row of noughts -/
structure Laid (w0 wx : World) (s : List Int) (n B : Nat) (a1 : Option Addr) (m1 c1 G : Nat) : Prop where
  bx : Bx wx B (.slice a1 m1 c1) (.slice (some ⟨G, 0, none⟩) n n)
  og : OwnG wx 89 G n n (List.replicate n 0)
  ow : Own wx 3 w0.heap.size (.slice a1 m1 c1) s
  kp : Kp w0 wx
  gG : w0.heap.size ≤ G
  gB : w0.heap.size ≤ B

section
variable {w0 w2 : World} {s : List Int} {n m1 c1 : Nat} {a1 : Option Addr}

theorem made_g (w : World) (h : n ≤ 4096) : OwnG (w.alloc (.cells (madeCells #[.float .f64 0] n) 89)) 89 w.heap.size n n (List.replicate n 0) :=
  (BlkF.made w 89 n).g (by simp) (by omega)

theorem laid1 (hn : n ≤ 4096) (O : Own w2 3 w0.heap.size (.slice a1 m1 c1) s) (K : Kp w0 w2) :
    Laid w0 ((w2.alloc (.cells (madeCells #[.float .f64 0] n) 89)).alloc (.cells #[.slice a1 m1 c1, .slice (some ⟨w2.heap.size, 0, none⟩) n n] 38)) s n (w2.heap.size + 1) a1 m1 c1 w2.heap.size := by
  refine ⟨?_, (made_g w2 hn).keep (Kp.alloc _ _), O.keep ((Kp.alloc _ _).trans (Kp.alloc _ _)), K.trans ((Kp.alloc _ _).trans (Kp.alloc _ _)), K.size, Nat.le_succ_of_le K.size⟩
  have := Bx.made (w2.alloc (.cells (madeCells #[.float .f64 0] n) 89)) (.slice a1 m1 c1) (.slice (some ⟨w2.heap.size, 0, none⟩) n n)
  rw [World.size_alloc] at this
  exact this
theorem laid2 (hn : n ≤ 4096) (O : Own w2 3 w0.heap.size (.slice a1 m1 c1) s) (K : Kp w0 w2) :
    Laid w0 ((w2.alloc (.cells #[.slice a1 m1 c1, .slice (some ⟨w2.heap.size + 1, 0, none⟩) n n] 38)).alloc (.cells (madeCells #[.float .f64 0] n) 89)) s n w2.heap.size a1 m1 c1 (w2.heap.size + 1) := by
  refine ⟨(Bx.made w2 _ _).keep (Kp.alloc _ _), ?_, O.keep ((Kp.alloc _ _).trans (Kp.alloc _ _)), K.trans ((Kp.alloc _ _).trans (Kp.alloc _ _)), Nat.le_succ_of_le K.size, K.size⟩
  have := made_g (w2.alloc (.cells #[.slice a1 m1 c1, .slice (some ⟨w2.heap.size + 1, 0, none⟩) n n] 38)) hn
  rw [World.size_alloc] at this
  exact this
theorem laid3 (hn : n ≤ 4096) (O : Own w2 3 w0.heap.size (.slice a1 m1 c1) s) (K : Kp w0 w2) (J : Kp (w0.alloc (.cells (madeCells #[.float .f64 0] n) 89)).drew w2) :
    Laid w0 (w2.alloc (.cells #[.slice a1 m1 c1, .slice (some ⟨w0.heap.size, 0, none⟩) n n] 38)) s n w2.heap.size a1 m1 c1 w0.heap.size :=
  ⟨Bx.made w2 _ _, (made_g w0 hn).keep ((Kp.drew _).trans (J.trans (Kp.alloc _ _))), O.keep (Kp.alloc _ _), K.trans (Kp.alloc _ _), Nat.le_refl _, K.size⟩
theorem laid4 (hn : n ≤ 4096) (O : Own w2 3 w0.heap.size (.slice a1 m1 c1) s) (K : Kp w0 w2) (J : Kp (w0.alloc (.cells #[.slice none 0 0, .slice none 0 0] 38)).drew w2) :
    Laid w0 (((w2.setCell ⟨w0.heap.size, 0, none⟩ (.slice a1 m1 c1)).setCell ⟨w0.heap.size, 1, none⟩ (.slice (some ⟨w2.heap.size, 0, none⟩) n n)).alloc (.cells (madeCells #[.float .f64 0] n) 89)) s n w0.heap.size a1 m1 c1 w2.heap.size := by
  have hb := (Bx.made w0 (.slice none 0 0) (.slice none 0 0)).keep ((Kp.drew _).trans J)
  refine ⟨(hb.set _ _).keep (Kp.alloc _ _), ?_, (O.setBx hb (by decide) _ _).keep (Kp.alloc _ _), ((K.set (Nat.le_refl _) (i := 0) _).set (Nat.le_refl _) (i := 1) _).trans (Kp.alloc _ _), K.size, Nat.le_refl _⟩
  have := made_g ((w2.setCell ⟨w0.heap.size, 0, none⟩ (.slice a1 m1 c1)).setCell ⟨w0.heap.size, 1, none⟩ (.slice (some ⟨w2.heap.size, 0, none⟩) n n)) hn
  rw [World.size_setCell, World.size_setCell] at this
  exact this
theorem laid5 (hn : n ≤ 4096) (O : Own w2 3 w0.heap.size (.slice a1 m1 c1) s) (K : Kp w0 w2) (J : Kp ((w0.alloc (.cells (madeCells #[.float .f64 0] n) 89)).alloc (.cells #[.slice none 0 0, .slice none 0 0] 38)).drew w2) :
    Laid w0 ((w2.setCell ⟨w0.heap.size + 1, 0, none⟩ (.slice a1 m1 c1)).setCell ⟨w0.heap.size + 1, 1, none⟩ (.slice (some ⟨w0.heap.size, 0, none⟩) n n)) s n (w0.heap.size + 1) a1 m1 c1 w0.heap.size := by
  have hb := (Bx.made (w0.alloc (.cells (madeCells #[.float .f64 0] n) 89)) (.slice none 0 0) (.slice none 0 0)).keep ((Kp.drew _).trans J)
  rw [World.size_alloc] at hb
  exact ⟨hb.set _ _, ((made_g w0 hn).keep ((Kp.alloc _ _).trans ((Kp.drew _).trans J))).setBx hb (by decide) _ _, O.setBx hb (by decide) _ _, (K.set (Nat.le_succ _) (i := 0) _).set (Nat.le_succ _) (i := 1) _, Nat.le_refl _, Nat.le_succ _⟩
theorem laid6 (hn : n ≤ 4096) (O : Own w2 3 w0.heap.size (.slice a1 m1 c1) s) (K : Kp w0 w2) (J : Kp ((w0.alloc (.cells #[.slice none 0 0, .slice none 0 0] 38)).alloc (.cells (madeCells #[.float .f64 0] n) 89)).drew w2) :
    Laid w0 ((w2.setCell ⟨w0.heap.size, 0, none⟩ (.slice a1 m1 c1)).setCell ⟨w0.heap.size, 1, none⟩ (.slice (some ⟨w0.heap.size + 1, 0, none⟩) n n)) s n w0.heap.size a1 m1 c1 (w0.heap.size + 1) := by
  have hb := (Bx.made w0 (.slice none 0 0) (.slice none 0 0)).keep ((Kp.alloc _ (.cells (madeCells #[.float .f64 0] n) 89)).trans ((Kp.drew _).trans J))
  have hg := (made_g (w0.alloc (.cells #[.slice none 0 0, .slice none 0 0] 38)) hn).keep ((Kp.drew _).trans J)
  rw [World.size_alloc] at hg
  exact ⟨hb.set _ _, hg.setBx hb (by decide) _ _, O.setBx hb (by decide) _ _, (K.set (Nat.le_refl _) (i := 0) _).set (Nat.le_refl _) (i := 1) _, Nat.le_succ _, Nat.le_refl _⟩
end

end Go.Proofs.Ytliddjpcbhdplaa
