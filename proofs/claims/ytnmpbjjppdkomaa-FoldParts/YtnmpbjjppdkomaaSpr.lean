
/- Contracts of the functions that broadcast one shape to another: the program's. -/
import Derived.Test.YtnmpbjjppdkomaaPlce
import Derived.Deep.RegionWith
namespace Go.Proofs.Ytnmpbjjppdkomaa
open Go.RowKit

theorem fe_wf {w : World} {v : Value} {xs : List Int} (h : Ints w v xs) (k : Nat) : I64 (fe xs k) := by
  by_cases hk : k < xs.length
  · rw [fe_in hk]; exact h.getD (by omega)
  · rw [fe_out (by omega)]; unfold I64; omega

theorem joinR_succ (a b : List Int) {n k : Nat} (hn : k < n) : (List.replicate (n - k) 0 ++ joinR a b k).set (n - 1 - k) (max (fe a k) (fe b k)) = List.replicate (n - (k + 1)) 0 ++ joinR a b (k + 1) := by
  have e1 : n - k = (n - 1 - k) + 1 := by omega
  have e2 : n - (k + 1) = n - 1 - k := by omega
  rw [e1, e2, fill_down]
  rfl

theorem join_wf {a b : List Int} (ha : ∀ k, I64 (fe a k)) (hb : ∀ k, I64 (fe b k)) : ∀ k, ∀ x ∈ joinR a b k, I64 x
  | 0, x, hx => by simp [joinR] at hx
  | k + 1, x, hx => by
    simp only [joinR, List.mem_cons] at hx
    rcases hx with rfl | hx
    · have h1 := ha k
      have h2 := hb k
      unfold I64 at *
      omega
    · exact join_wf ha hb k x hx

end Go.Proofs.Ytnmpbjjppdkomaa
