
/- Contracts of the functions that tell which place stands at a number: the program's and the document's. -/
import Derived.Test.YtcegkaemcjlfgabPlac
namespace Go.Proofs.Ytcegkaemcjlfgab
open Go.RowKit

theorem szN_may {xs : List Int} (h : mayB xs = true) : szN xs = prodL xs := if_pos h
theorem szE_may {xs : List Int} (h : mayB xs = true) : szE xs = 0 := if_pos h
theorem szE_not {xs : List Int} (h : mayB xs = false) : (szE xs != 0) = true := by
  have := szE_zero xs
  rw [h] at this
  simpa using this

theorem place_step {s l : List Int} {i j : Int} {k : Nat} (hk : k < s.length) (hl : l.length = k) (h : plc s i = l ++ plc (s.drop k) j) :
    plc s i = (l ++ [j / prodL (s.drop (k + 1))]) ++ plc (s.drop (k + 1)) (j % prodL (s.drop (k + 1))) ∧ (l ++ List.replicate (s.length - k) 0).set k (j / prodL (s.drop (k + 1))) = (l ++ [j / prodL (s.drop (k + 1))]) ++ List.replicate (s.length - (k + 1)) 0 := by
  constructor
  · rw [h, drop_cons hk]
    simp [plc]
  · have e : s.length - k = (s.length - (k + 1)) + 1 := by omega
    rw [e, List.replicate_succ]
    exact fill_up hl

theorem rplace_step {s : List Int} {i : Int} (hp : Pos s) (h0 : 0 ≤ i) {k : Nat} (hk : k < s.length) :
    (List.replicate (k + 1) 0 ++ plc (s.drop (k + 1)) (i % prodL (s.drop (k + 1)))).set k ((i / prodL (s.drop (k + 1))) % s.getD k 0) = List.replicate k 0 ++ plc (s.drop k) (i % prodL (s.drop k)) := by
  rw [fill_down, (plc_down hp h0 hk).1]

end Go.Proofs.Ytcegkaemcjlfgab
