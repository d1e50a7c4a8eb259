
/- Graphs that came in and are Small: as the walks want them; worlds that grew. -/
import Derived.Test.YtliddjpcbhdplaaGrS
import Derived.Test.YtliddjpcbhdplaaOpnW
namespace Go.Proofs.Ytliddjpcbhdplaa
open Go.RowKit Go.Shelf

theorem InGraphs.keepW {w w' : World} {a : Option Addr} {len cap : Nat} (h : InGraphs w a len cap) (k : Kp w w') : InGraphs w' a len cap := by
  rcases h with h | ⟨x, h1, h2, h3, h4⟩
  · exact .inl h
  · refine .inr ⟨x, h1, h2, h3, fun hp => ?_⟩
    obtain ⟨b, off, e, hb, hc⟩ := h4 hp
    refine ⟨b, off, e, Nat.lt_of_lt_of_le hb k.size, fun i hi => ?_⟩
    obtain ⟨a', l', c', h5, h6⟩ := hc i hi
    exact ⟨a', l', c', k.cellT h5, h6.keepW k⟩
theorem ZGraphs.keepW {w w' : World} {a : Option Addr} {len cap : Nat} (hz : ZGraphs w a len) (h : InGraphs w a len cap) (k : Kp w w') : ZGraphs w' a len := by
  refine ⟨hz.1, fun b off e i hi a' l' c' hc => ?_⟩
  rcases h with ⟨_, h0, _⟩ | ⟨x, h1, h2, h3, h4⟩
  · omega
  · obtain ⟨b', off', e', hb, hcc⟩ := h4 (by omega)
    subst h1
    cases e
    cases e'
    rw [Below.cell k (p := ⟨b, off + i, none⟩) hb] at hc
    obtain ⟨a2, l2, c2, h5, h6⟩ := hcc i hi
    rw [hc] at h5
    simp at h5
    obtain ⟨rfl, rfl, rfl⟩ := h5
    exact (hz.2 b off rfl i hi a' l' c' hc).keepW h6 k
theorem graphs_of {w : World} {a : Option Addr} {len cap : Nat} (h : InGraphs w a len cap) (hl : len ≤ 40) (hs : AllS w a len) : ∃ gs : List (List Nd), gs.length = len ∧ Graphs w (.slice a len cap) gs :=
  h.graphs (by omega) fun b off e i hi a' l' c' hc => by
    obtain ⟨h1, h2⟩ := hs i hi b off e a' l' c' hc
    exact ⟨by omega, fun b2 off2 e2 k j hk hj a3 l3 c3 hc3 => Nat.le_trans (h2 b2 off2 e2 k j hk hj a3 l3 c3 hc3) (by omega)⟩

end Go.Proofs.Ytliddjpcbhdplaa
