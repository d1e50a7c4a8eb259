
/- Contracts of the folds by halves. -/
import Derived.Test.YtliddjpcbhdplaaRealB
import Derived.Test.YtliddjpcbhdplaaFNum
import Derived.Deep.RegionWith
namespace Go.Proofs.Ytliddjpcbhdplaa
open Go.RowKit

theorem Flts.take {w : World} {b off n cap : Nat} {xs : List Nat} (h : Flts w (.slice (some ⟨b, off, none⟩) n cap) xs) {m : Nat} (hm : m ≤ n) (cap' : Nat) : Flts w (.slice (some ⟨b, off, none⟩) m cap') (xs.take m) := by
  obtain ⟨h1, h2, h0, a, c, e, h3⟩ := h
  cases e
  have hl : (xs.take m).length = m := by rw [List.length_take]; omega
  refine ⟨fun x hx => h1 x (List.mem_of_mem_take hx), by omega, (by intro n c h; cases h), some ⟨b, off, none⟩, cap', by rw [hl], fun hp => ?_⟩
  obtain ⟨b', off', e, hb, hc⟩ := h3 (by omega)
  cases e
  refine ⟨b, off, rfl, hb, fun i hi => ?_⟩
  have hi' : i < m := by omega
  have := hc i (by omega)
  simpa [List.getD_eq_getElem?_getD, List.getElem?_take, hi'] using this

theorem Flts.drop {w : World} {b off n cap : Nat} {xs : List Nat} (h : Flts w (.slice (some ⟨b, off, none⟩) n cap) xs) {m : Nat} (hm : m ≤ n) (cap' : Nat) : Flts w (.slice (some ⟨b, off + m, none⟩) (n - m) cap') (xs.drop m) := by
  obtain ⟨h1, h2, h0, a, c, e, h3⟩ := h
  cases e
  have hl : (xs.drop m).length = xs.length - m := by rw [List.length_drop]
  refine ⟨fun x hx => h1 x (List.mem_of_mem_drop hx), by omega, (by intro n c h; cases h), some ⟨b, off + m, none⟩, cap', by rw [hl], fun hp => ?_⟩
  obtain ⟨b', off', e, hb, hc⟩ := h3 (by omega)
  cases e
  refine ⟨b, off + m, rfl, hb, fun i hi => ?_⟩
  have := hc (m + i) (by omega)
  rw [← Nat.add_assoc] at this
  rw [this]
  simp [List.getD_eq_getElem?_getD]

theorem Flts.heap {w w' : World} {v : Value} {xs : List Nat} (h : Flts w v xs) (e : w'.heap = w.heap) : Flts w' v xs := by
  obtain ⟨h1, h2, h0, a, cap, rfl, h3⟩ := h
  refine ⟨h1, h2, h0, a, cap, rfl, fun hp => ?_⟩
  obtain ⟨b, off, rfl, hb, hc⟩ := h3 hp
  exact ⟨b, off, rfl, by rw [e]; exact hb, fun i hi => by have := hc i hi; unfold World.cell? at *; rw [e]; exact this⟩

end Go.Proofs.Ytliddjpcbhdplaa
