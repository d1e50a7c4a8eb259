
/- Contracts of the rows: one number after another. -/
import Derived.Test.YtliddjpcbhdplaaRealA
namespace Go.Proofs.Ytliddjpcbhdplaa
open Go.RowKit

theorem Flts.cell {w w' : World} {a : Option Addr} {n cap : Nat} {xs : List Nat} (h : Flts w (.slice a n cap) xs) (k : Kp w w') {i : Nat} (hi : i < n) : ∃ b off, a = some ⟨b, off, none⟩ ∧ w'.cell? ⟨b, off + i, none⟩ = some (.float .f64 (xs.getD i 0)) := by
  obtain ⟨_, _, _, a', cap', e, hv⟩ := h.keep k
  cases e
  obtain ⟨b, off, rfl, _, hc⟩ := hv (by omega)
  exact ⟨b, off, rfl, hc i hi⟩

/-- a number goes on from what is there -/
def rowFrom (s : Nat) (l : List Nat) : Nat := l.foldl adC (cn s)
theorem rowFrom_take {s : Nat} {l : List Nat} {k : Nat} (h : k < l.length) : rowFrom s (l.take (k + 1)) = adC (rowFrom s (l.take k)) (l.getD k 0) := by
  unfold rowFrom
  rw [List.take_add_one, show l[k]? = some (l.getD k 0) by simp [h], List.foldl_append]
  rfl
theorem adC_cn_l {r s : Nat} (x : Nat) (h : cn r = s) : adC r x = adC s x := by
  subst h
  rw [← adC_cn (cn r) x, cn_cn, adC_cn]

theorem w64_0 : W64 0 := by unfold W64; omega

end Go.Proofs.Ytliddjpcbhdplaa
