
/- The contract of Do: hooks and a tensor that may be. -/
import Derived.Test.YtliddjpcbhdplaaHokE
namespace Go.Proofs.Ytliddjpcbhdplaa
open Go.RowKit

theorem Bx.sls {w : World} {O b off n c n' c' : Nat} {a a' : Option Addr} {v : Value} (hb : Bx w O (.slice a n c) (.slice a' n' c')) (h : w.cell? ⟨b, off, none⟩ = some v) (hv : ∀ a n c, v ≠ .slice a n c) : b ≠ O := by
  rintro rfl
  unfold Bx at hb
  simp only [World.cell?, hb] at h
  match off, h with
  | 0, h => simp at h; exact hv _ _ _ h.symm
  | 1, h => simp at h; exact hv _ _ _ h.symm
  | off + 2, h => simp at h
theorem Ints.setBx9 {w : World} {O n c n' c' : Nat} {a a' : Option Addr} {v : Value} {xs : List Int} (h : Ints w v xs) (hb : Bx w O (.slice a n c) (.slice a' n' c')) (u u' : Value) : Ints ((w.setCell ⟨O, 0, none⟩ u).setCell ⟨O, 1, none⟩ u') v xs := by
  obtain ⟨h1, h2, h0, p, cap, rfl, h3⟩ := h
  refine ⟨h1, h2, h0, p, cap, rfl, fun hp => ?_⟩
  obtain ⟨b, off, rfl, hbl, hc⟩ := h3 hp
  have hne : ¬ b = O := hb.sls (hc 0 hp) (by intro a n c e; cases e)
  exact ⟨b, off, rfl, by simpa using hbl, fun i hi => ((cell_other hne _ _).trans (cell_other hne _ _)).trans (hc i hi)⟩
theorem Flts.setBx9 {w : World} {O n c n' c' : Nat} {a a' : Option Addr} {v : Value} {xs : List Nat} (h : Flts w v xs) (hb : Bx w O (.slice a n c) (.slice a' n' c')) (u u' : Value) : Flts ((w.setCell ⟨O, 0, none⟩ u).setCell ⟨O, 1, none⟩ u') v xs := by
  obtain ⟨h1, h2, h0, p, cap, rfl, h3⟩ := h
  refine ⟨h1, h2, h0, p, cap, rfl, fun hp => ?_⟩
  obtain ⟨b, off, rfl, hbl, hc⟩ := h3 hp
  have hne : ¬ b = O := hb.sls (hc 0 hp) (by intro a n c e; cases e)
  exact ⟨b, off, rfl, by simpa using hbl, fun i hi => ((cell_other hne _ _).trans (cell_other hne _ _)).trans (hc i hi)⟩
theorem Bx.setO9 {w : World} {R O : Nat} {x y : Value} (h : Bx w R x y) (hne : R ≠ O) (u u' : Value) : Bx ((w.setCell ⟨O, 0, none⟩ u).setCell ⟨O, 1, none⟩ u') R x y := by
  unfold Bx at h ⊢
  exact ((Below.heap_setCell _ ⟨O, 1, none⟩ u' R hne).trans (Below.heap_setCell w ⟨O, 0, none⟩ u R hne)).trans h

end Go.Proofs.Ytliddjpcbhdplaa
