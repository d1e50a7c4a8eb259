
/- A slice of tensors as an argument: how it came in. -/
import Derived.Test.YtnmpbjjppdkomaaFldE
namespace Go.Proofs.Ytnmpbjjppdkomaa
open Go.RowKit Go.ChangeShapes

theorem open_tens {H : Type} {enc : TypeId × Value → H} {P : Program} {w : World} {base : Nat} {spare : Nat → Bool} {t e t0 t1 e0 e1 : TypeId} {fuel : Nat} {a : Option Addr} {len cap : Nat} {x : DataW H × List MemPlace} {f0 f1 : Field}
    (ht : P.underlying t = some (.slice e)) (he : P.underlying e = some (.struct #[f0, f1])) (o : (f0.offset, f1.offset) = (0, 1)) (hf : (f0.type, f1.type) = (t0, t1))
    (h0 : P.underlying t0 = some (.slice e0)) (h1 : P.underlying t1 = some (.slice e1)) (u0 : P.underlying e0 = some (.int .i64)) (u1 : P.underlying e1 = some (.float .f64))
    (c0 : P.cellsOf e0 = 1) (c1 : P.cellsOf e1 = 1) (d : (P.cellsOf e, P.cellsOf t0, P.cellsOf t1) = (2, 1, 1)) (hsp : ∀ b, spare b = true)
    (h : DataW.trod enc P w base spare true fuel t (Value.slice a len cap).cells.toList = some x) : InTens w a len cap := by
  simp only [Prod.mk.injEq] at o hf d
  obtain ⟨rfl, rfl⟩ := hf
  rcases Go.Deep.open_slice_pairs ht he d.1 o.1 o.2 d.2.1 d.2.2 h with ⟨hcs, _⟩ | ⟨ad, l, c, m, n, V0, V1, D0, D1, P0, P1, hcs, hb, hl, hm, hmm, _, hx⟩
  · simp [Value.cells] at hcs
    obtain ⟨rfl, rfl, rfl⟩ := hcs
    exact .inl ⟨rfl, rfl, rfl⟩
  · simp [Value.cells] at hcs
    obtain ⟨rfl, rfl, rfl⟩ := hcs
    rw [hsp, if_pos rfl] at hmm
    subst hmm
    refine .inr ⟨ad, rfl, hl, hm, fun hp => ?_⟩
    · have g0 := (hx 0 (by omega)).1
      obtain ⟨b, off, sp⟩ := ad
      have hs : sp = none := by
        unfold World.cell? at g0
        split at g0
        · split at g0
          · cases g0
          · rename_i hh; simpa [Addr.add] using hh
        · cases g0
      subst hs
      have hblt : b < w.heap.size := by
        unfold World.cell? at g0
        split at g0
        · rename_i c t f hh
          have := (Array.getElem?_eq_some_iff.1 hh).1
          simpa [Addr.add] using this
        · cases g0
      refine ⟨b, off, rfl, hblt, fun i hi => ?_⟩
      obtain ⟨k0, k1, r0, r1⟩ := hx i (by omega)
      rw [Go.WideShapes.add_plain] at k0 k1
      obtain ⟨a, len', cap', zs, q1, i1⟩ : ∃ a len cap zs, V0 i = .slice a len cap ∧ InRowK .i64 w a len cap zs := by
        rcases open_ints h0 u0 c0 r0 with ⟨hcs, _⟩ | ⟨x, l, c, zs, hcs, _, hl, hm, hz, _, hcell, hwz⟩
        · simp at hcs
          exact ⟨none, 0, 0, [], hcs, .inl ⟨rfl, rfl, rfl, rfl⟩⟩
        · simp at hcs
          rw [hsp, if_pos rfl] at hz
          exact ⟨some x, l, c, zs, hcs, .inr ⟨_, rfl, hl, hm, hz, hcell, hwz⟩⟩
      obtain ⟨a', len'', cap'', zs', q2, i2⟩ : ∃ a len cap zs, V1 i = .slice a len cap ∧ InRowF w a len cap zs := by
        rcases open_flts h1 u1 c1 hsp r1 with hcs | ⟨x, l, c, zs, hcs, hl, hm, hz, hcell, hwz⟩
        · simp at hcs
          exact ⟨none, 0, 0, [], hcs, .inl ⟨rfl, rfl, rfl, rfl⟩⟩
        · simp at hcs
          exact ⟨some x, l, c, zs, hcs, .inr ⟨_, rfl, hl, hm, hz, hcell, hwz⟩⟩
      rw [q1] at k0
      rw [q2] at k1
      exact ⟨len', len'', a, cap', zs, a', cap'', zs', k0, by rw [Nat.add_assoc]; exact k1, i1, i2⟩

end Go.Proofs.Ytnmpbjjppdkomaa
