
/- Nodes that came in, and their sizes, in worlds that grew. -/
import Derived.Test.YtefohemihiiceaaOpnZ
import Derived.Test.YtefohemihiiceaaGrC
namespace Go.Proofs.Ytefohemihiiceaa
open Go.RowKit Go.Shelf

theorem InNode.keepW {w w' : World} {vs : Nat → Value} (h : InNode w vs) (k : Kp w w') : InNode w' vs := by
  obtain ⟨op, no, a1, l1, c1, z1, a2, l2, c2, z2, a4, l4, c4, z4, a5, l5, c5, z5, a6, l6, c6, io, ino, e0, e1, e2, e3, e4, e5, e6, r1, r2, r4, r5, r6⟩ := h
  have kK : ∀ {a l c z}, InRowK .i64 w a l c z → InRowK .i64 w' a l c z := fun {a l c z} h => by
    rcases h with h | ⟨x, h1, h2, h3, h4, h5, h6⟩
    · exact .inl h
    · exact .inr ⟨x, h1, h2, h3, h4, fun i hi => k.cellT (h5 i hi), h6⟩
  have kF : ∀ {a l c z}, InRowF w a l c z → InRowF w' a l c z := fun {a l c z} h => by
    rcases h with h | ⟨x, h1, h2, h3, h4, h5, h6⟩
    · exact .inl h
    · exact .inr ⟨x, h1, h2, h3, h4, fun i hi => k.cellT (h5 i hi), h6⟩
  exact ⟨op, no, a1, l1, c1, z1, a2, l2, c2, z2, a4, l4, c4, z4, a5, l5, c5, z5, a6, l6, c6, io, ino, e0, e1, e2, e3, e4, e5, e6, kK r1, kK r2, kK r4, kF r5, r6.keep k⟩
theorem InNodes.keepW {w w' : World} {a : Option Addr} {len cap : Nat} (h : InNodes w a len cap) (k : Kp w w') : InNodes w' a len cap := by
  rcases h with h | ⟨x, h1, h2, h3, h4⟩
  · exact .inl h
  · refine .inr ⟨x, h1, h2, h3, fun hp => ?_⟩
    obtain ⟨b, off, e, hb, hc⟩ := h4 hp
    refine ⟨b, off, e, Nat.lt_of_lt_of_le hb k.size, fun i hi => ?_⟩
    obtain ⟨vs, hv, hn⟩ := hc i hi
    exact ⟨vs, fun j hj => k.cellT (hv j hj), hn.keepW k⟩
theorem ZNodes.keepW {w w' : World} {a : Option Addr} {len cap : Nat} (hz : ZNodes w a len) (h : InNodes w a len cap) (k : Kp w w') : ZNodes w' a len := by
  refine ⟨hz.1, fun b off e i j hi hj a' l' c' hc => ?_⟩
  rcases h with ⟨_, h0, _⟩ | ⟨x, h1, h2, h3, h4⟩
  · omega
  · obtain ⟨b', off', e', hb, _⟩ := h4 (by omega)
    subst h1
    cases e
    cases e'
    rw [Below.cell k (p := ⟨b, off + (i * 7 + j), none⟩) hb] at hc
    exact hz.2 b off rfl i j hi hj a' l' c' hc

end Go.Proofs.Ytefohemihiiceaa
