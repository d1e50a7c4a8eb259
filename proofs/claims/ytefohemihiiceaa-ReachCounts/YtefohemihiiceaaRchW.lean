
/- A graph that came in and is small: as the walks want it. -/
import Derived.Test.YtefohemihiiceaaRchZ
import Derived.Test.YtefohemihiiceaaRchX
import Derived.Test.YtefohemihiiceaaOpnW
namespace Go.Proofs.Ytefohemihiiceaa
open Go.RowKit Go.Shelf

theorem totM_bound {f : Nat → List Int} {n K : Nat} (h : ∀ i, i < n → (f i).length ≤ K) : ∀ m, m ≤ n → totM f n m ≤ (n - m) * K := by
  refine down_ind ?_ fun m hm ih => ?_
  · unfold totM
    rw [Nat.sub_self]
    exact Nat.zero_le _
  · rw [totM_step f hm]
    have h1 := h m hm
    have e : n - m = (n - (m + 1)) + 1 := by omega
    rw [e, Nat.add_mul, Nat.one_mul]
    omega
theorem nodes_of {w : World} {a : Option Addr} {len cap : Nat} (h : InNodes w a len cap) (hl : len ≤ 4000) (hs : ShortN w a len) : ∃ ns : List Nd, ns.length = len ∧ Nodes w (.slice a len cap) ns ∧ totM (innF ns) ns.length 0 ≤ 100000000 ∧ ∀ i, (innF ns i).length ≤ 8192 := by
  obtain ⟨ns, hn, hN⟩ := h.nodes (by omega) (fun b off e i j hi hj a' l' c' hc => Nat.le_trans (hs b off e i j hi hj a' l' c' hc) (by omega))
  have hN' : Nodes w (.slice a ns.length cap) ns := by rw [hn]; exact hN
  have hb : ∀ i, (innF ns i).length ≤ 8192 := fun i => by
    by_cases hi : i < ns.length
    · obtain ⟨b, off, rfl, _, hnd⟩ := hN'.one (Kp.refl w) hi
      obtain ⟨a1, c1, hc1, _⟩ := hnd.inn
      exact hs b off rfl i 1 (by omega) (by omega) a1 _ c1 (by rw [← Nat.add_assoc]; exact hc1)
    · unfold innF
      have e : ns.getD i ndnil = ndnil := by simp [List.getD, List.getElem?_eq_none (Nat.le_of_not_lt hi)]
      rw [e]
      decide
  refine ⟨ns, hn, hN, ?_, hb⟩
  have := totM_bound (n := ns.length) (fun i _ => hb i) 0 (Nat.zero_le _)
  have h2 : (ns.length - 0) * 8192 ≤ 4000 * 8192 := Nat.mul_le_mul (by omega) (Nat.le_refl _)
  omega

/-- a node is not reached by a graph of which an input is wrong -/
theorem retF_any {w w' : World} {ns : List Nd} {root : Int} {en : Ending} (h : RetF w ns root en w') : (¬ FromP ns root ∧ en = .returned (.slice none 0 0)) ∨ (FromP ns root ∧ ∃ B, en = .returned (.slice (some ⟨B, 0, none⟩) ns.length ns.length) ∧ BlkB w' B (fromL (innF ns) ns.length root.toNat)) := by
  by_cases hp : FromP ns root
  · exact .inr ⟨hp, retF_known h hp⟩
  · exact .inl ⟨hp, retF_null h hp⟩

end Go.Proofs.Ytefohemihiiceaa
