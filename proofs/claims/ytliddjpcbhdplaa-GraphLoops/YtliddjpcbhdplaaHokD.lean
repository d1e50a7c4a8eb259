
/- Contracts of the four steps of hooks. -/
import Derived.Test.YtliddjpcbhdplaaHokC
namespace Go.Proofs.Ytliddjpcbhdplaa
open Go.RowKit

theorem map_hk {h : Hk} {d ds : List Nat} {Q : Nat → Nat → Prop} (hl : ds.length = d.length) (hq : ∀ j, j < d.length → Q (d.getD j 0) (ds.getD j 0)) (hQ : ∀ x r, Q x r → cn r = hkC h x) : ds.map cn = d.map (hkC h) := by
  apply List.ext_getElem
  · simp [hl]
  · intro i h1 h2
    have hi : i < d.length := by simpa using h2
    have := hQ _ _ (hq i hi)
    simpa [hi, hl] using this
/-- a pair laid into the box of the result, and an error -/
theorem lay_pair {w w1 w2 : World} {R : Nat} {x y : Value} (k1 : Kp w w1) (k2 : Kp w1 w2) (hb : Bx w1 R x y) (hR : w.heap.size ≤ R) {s : List Int} {ds : List Nat} {a1 : Option Addr} {n1 c1 G c : Nat}
    (o : Own w2 3 w1.heap.size (.slice a1 n1 c1) s) (hG : w1.heap.size ≤ G) (og : OwnG w2 89 G ds.length c ds) (hm : mayT s ds = true) (hs : ∀ x ∈ s, I64 x) (hw : ∀ x ∈ ds, W64 x) :
    HandR (.returned (.tuple #[.agg #[.slice a1 n1 c1, .slice (some ⟨G, 0, none⟩) ds.length c], .int .i64 0])) ((w2.setCell ⟨R, 0, none⟩ (.slice a1 n1 c1)).setCell ⟨R, 1, none⟩ (.slice (some ⟨G, 0, none⟩) ds.length c)) s ds 0 ∧
      Kp w ((w2.setCell ⟨R, 0, none⟩ (.slice a1 n1 c1)).setCell ⟨R, 1, none⟩ (.slice (some ⟨G, 0, none⟩) ds.length c)) := by
  have f := Fin.mk' o hG og k1 k2 hb hR
  exact ⟨HandR.fin f hm hs hw, f.kp⟩
theorem mayT_same {s : List Int} {d ds : List Nat} (h : mayT s d = true) (hl : ds.length = d.length) : mayT s ds = true := by
  have hm := mayT_may h
  rw [mayT_yes hm] at h ⊢
  rw [hl]
  exact h

end Go.Proofs.Ytliddjpcbhdplaa
