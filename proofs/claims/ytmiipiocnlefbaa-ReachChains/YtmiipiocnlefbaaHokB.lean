
/- The contract of the document's HookMay. -/
import Derived.Test.YtmiipiocnlefbaaHokA
namespace Go.Proofs.Ytmiipiocnlefbaa
open Go.RowKit

/-- laid into a box while hooks are asked -/
theorem wr_parts {k : Int} {x : Nat} (b : Bool) (h : wrB ⟨k, x⟩ = b) : (k < 1 ∧ b = true) ∨ (4 < k ∧ b = true) ∨ (k = 1 ∧ b = false) ∨ (k = 2 ∧ b = !geB x) ∨ ((k = 3 ∨ k = 4) ∧ b = (DD.order x 0 != some .eq)) := by
  by_cases h1 : k = 1
  · subst h1
    rw [wrB_1 rfl] at h
    exact .inr (.inr (.inl ⟨rfl, h.symm⟩))
  by_cases h2 : k = 2
  · subst h2
    rw [wrB_2 rfl] at h
    exact .inr (.inr (.inr (.inl ⟨rfl, h.symm⟩)))
  by_cases h3 : k = 3 ∨ k = 4
  · rw [wrB_34 h3] at h
    exact .inr (.inr (.inr (.inr ⟨h3, h.symm⟩)))
  rw [wrB_other (h := ⟨k, x⟩) (by show ¬ (k = 1 ∨ k = 2 ∨ k = 3 ∨ k = 4); omega)] at h
  by_cases h4 : k < 1
  · exact .inl ⟨h4, h.symm⟩
  · exact .inr (.inl ⟨by omega, h.symm⟩)

end Go.Proofs.Ytmiipiocnlefbaa
