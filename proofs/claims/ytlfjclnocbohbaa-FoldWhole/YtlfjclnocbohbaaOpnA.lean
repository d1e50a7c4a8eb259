
/- Arrays of small whole numbers that came in, as the frame of a law hands them over; no program in it. -/
import Derived.Test.YtlfjclnocbohbaaOpn
import Derived.WideKeyArr2
namespace Go.Proofs.Ytlfjclnocbohbaa
open Go.RowKit

theorem okWide_arrK {P : Program} {W : World} {r : Reach} {b0 : Nat} {t e : TypeId} {n : Nat} {v : Value} (ht : P.underlying t = some (.array n e)) (h : Value.okWide P W r b0 t v) : ∃ cs : Array Value, v = .agg cs ∧ cs.size = P.cellsOf t := by
  simp only [Value.okWide, ht] at h
  obtain ⟨cs, h1, h2, _⟩ := h
  exact ⟨cs, h1, h2⟩

theorem mapM_at {α β : Type} {f : α → Option β} : ∀ {L : List α} {ys : List β}, L.mapM f = some ys → ∀ a ∈ L, ∃ y, f a = some y
  | [], _, _, a, ha => by simp at ha
  | b :: L, ys, h, a, ha => by
    rw [List.mapM_cons] at h
    simp only [bind, Option.bind_eq_some_iff, pure, Option.some.injEq] at h
    obtain ⟨y, hy, zs, hzs, rfl⟩ := h
    rcases List.mem_cons.1 ha with rfl | ha
    · exact ⟨y, hy⟩
    · exact mapM_at hzs a ha

theorem open_arrK {H : Type} {enc : TypeId × Value → H} {P : Program} {w : World} {base : Nat} {sp : Nat → Bool} {held : Bool} {t e : TypeId} {n : Nat} {q : IntKind} {fuel : Nat} {cs : List Value} {x : DataW H × List MemPlace}
    (ht : P.underlying t = some (.array n e)) (he : P.underlying e = some (.int q)) (hc : P.cellsOf e = 1) (hs : cs.length = P.cellsOf t) (h : DataW.trod enc P w base sp held fuel t cs = some x) : ∀ i, i < n → ∃ a, (cs.drop i).take 1 = [.int q a] ∧ (Lit.int q a).wf = true := by
  cases fuel with
  | zero => simp [DataW.trod] at h
  | succ m =>
    rw [DataW.trod_step] at h
    unfold DataW.trodStep at h
    simp only [ht] at h
    rw [if_pos hs] at h
    simp only [Option.map_eq_some_iff, hc, Nat.mul_one] at h
    obtain ⟨ys, hy, _⟩ := h
    intro i hi
    obtain ⟨y, hy⟩ := mapM_at hy i (List.mem_range.2 hi)
    obtain ⟨a, ea, _, wa⟩ := DataW.trod_int he hy
    exact ⟨a, ea, wa⟩

theorem open_arr2 {H : Type} {enc : TypeId × Value → H} {P : Program} {w : World} {base : Nat} {sp : Nat → Bool} {held : Bool} {t e : TypeId} {q : IntKind} {fuel : Nat} {cs : Array Value} {x : DataW H × List MemPlace}
    (ht : P.underlying t = some (.array 2 e)) (he : P.underlying e = some (.int q)) (hc : P.cellsOf e = 1) (h2 : P.cellsOf t = 2) (hs : cs.size = P.cellsOf t) (h : DataW.trod enc P w base sp held fuel t cs.toList = some x) : ∃ a b, cs = #[.int q a, .int q b] ∧ (Lit.int q a).wf = true ∧ (Lit.int q b).wf = true := by
  have hk := open_arrK ht he hc (by simpa using hs) h
  rw [h2] at hs
  obtain ⟨l⟩ := cs
  match l, hs with
  | [u, v], _ =>
    obtain ⟨a, ea, wa⟩ := hk 0 (by decide)
    obtain ⟨b, eb, wb⟩ := hk 1 (by decide)
    simp at ea eb
    subst ea eb
    exact ⟨a, b, rfl, wa, wb⟩
theorem open_arr4 {H : Type} {enc : TypeId × Value → H} {P : Program} {w : World} {base : Nat} {sp : Nat → Bool} {held : Bool} {t e : TypeId} {q : IntKind} {fuel : Nat} {cs : Array Value} {x : DataW H × List MemPlace}
    (ht : P.underlying t = some (.array 4 e)) (he : P.underlying e = some (.int q)) (hc : P.cellsOf e = 1) (h2 : P.cellsOf t = 4) (hs : cs.size = P.cellsOf t) (h : DataW.trod enc P w base sp held fuel t cs.toList = some x) : ∃ a b c d, cs = #[.int q a, .int q b, .int q c, .int q d] ∧ (Lit.int q a).wf = true ∧ (Lit.int q b).wf = true ∧ (Lit.int q c).wf = true ∧ (Lit.int q d).wf = true := by
  have hk := open_arrK ht he hc (by simpa using hs) h
  rw [h2] at hs
  obtain ⟨l⟩ := cs
  match l, hs with
  | [u, v, y, z], _ =>
    obtain ⟨a, ea, wa⟩ := hk 0 (by decide)
    obtain ⟨b, eb, wb⟩ := hk 1 (by decide)
    obtain ⟨c, ec, wc⟩ := hk 2 (by decide)
    obtain ⟨d, ed, wd⟩ := hk 3 (by decide)
    simp at ea eb ec ed
    subst ea eb ec ed
    exact ⟨a, b, c, d, rfl, wa, wb, wc, wd⟩

end Go.Proofs.Ytlfjclnocbohbaa
