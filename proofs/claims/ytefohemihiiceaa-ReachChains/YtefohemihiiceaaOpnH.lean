
/- A slice of hooks as an argument: how it came in. -/
import Derived.Test.YtefohemihiiceaaGd
import Derived.Deep.SlicePairs
namespace Go.Proofs.Ytefohemihiiceaa
open Go.RowKit Go.ChangeShapes

theorem open_hooks {H : Type} {enc : TypeId × Value → H} {P : Program} {w : World} {base : Nat} {spare : Nat → Bool} {t e t0 t1 : TypeId} {fuel : Nat} {a : Option Addr} {len cap : Nat} {x : DataW H × List MemPlace} {f0 f1 : Field}
    (ht : P.underlying t = some (.slice e)) (he : P.underlying e = some (.struct #[f0, f1])) (o : (f0.offset, f1.offset) = (0, 1)) (hf : (f0.type, f1.type) = (t0, t1))
    (u0 : P.underlying t0 = some (.int .i64)) (u1 : P.underlying t1 = some (.float .f64))
    (d : (P.cellsOf e, P.cellsOf t0, P.cellsOf t1) = (2, 1, 1)) (hsp : ∀ b, spare b = true)
    (h : DataW.trod enc P w base spare true fuel t (Value.slice a len cap).cells.toList = some x) : InHooks w a len cap := by
  simp only [Prod.mk.injEq] at o hf d
  obtain ⟨rfl, rfl⟩ := hf
  rcases Go.Deep.open_slice_pairs ht he d.1 o.1 o.2 d.2.1 d.2.2 h with ⟨hcs, _⟩ | ⟨ad, l, c, m, n, V0, V1, D0, D1, P0, P1, hcs, hb, hl, hm, hmm, _, hx⟩
  · simp [Value.cells] at hcs
    obtain ⟨rfl, rfl, rfl⟩ := hcs
    exact .inl ⟨rfl, rfl, rfl⟩
  · simp [Value.cells] at hcs
    obtain ⟨rfl, rfl, rfl⟩ := hcs
    rw [hsp, if_pos rfl] at hmm
    subst hmm
    refine .inr ⟨ad, rfl, hl, hm, fun hp => ?_⟩
    have g0 := (hx 0 (by omega)).1
    obtain ⟨b, off, sp⟩ := ad
    have hs : sp = none := by
      unfold World.cell? at g0
      split at g0
      · split at g0
        · cases g0
        · rename_i hh; simpa [Addr.add] using hh
      · cases g0
    subst hs
    have hblt : b < w.heap.size := by
      unfold World.cell? at g0
      split at g0
      · rename_i c t f hh
        have := (Array.getElem?_eq_some_iff.1 hh).1
        simpa [Addr.add] using this
      · cases g0
    refine ⟨b, off, rfl, hblt, fun i hi => ?_⟩
    obtain ⟨k0, k1, r0, r1⟩ := hx i (by omega)
    rw [Go.WideShapes.add_plain] at k0 k1
    obtain ⟨z, e0, _, hz⟩ := DataW.trod_int u0 r0
    obtain ⟨y, e1, hy⟩ : ∃ y, V1 i = .float .f64 y ∧ W64 y := by
      cases n with
      | zero => simp [DataW.trod] at r1
      | succ n =>
        cases hV : V1 i <;> simp [DataW.trod, u1, hV] at r1
        case float k b => exact ⟨b, by rw [r1.1.1], wf_w64 r1.1.2⟩
    simp only [List.cons.injEq, and_true] at e0
    rw [e0] at k0
    rw [e1] at k1
    exact ⟨⟨z, y⟩, k0, by rw [Nat.add_assoc]; exact k1, wf_i64 hz, hy⟩

end Go.Proofs.Ytefohemihiiceaa
