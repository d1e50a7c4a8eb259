
/- Rows of four small whole numbers, and an array of four 64-bit numbers, that came in. -/
import Derived.Test.YtlfjclnocbohbaaOpnA
namespace Go.Proofs.Ytlfjclnocbohbaa
open Go.RowKit Go.ChangeShapes

/-- rows of four small whole numbers that came in -/
def InQuad (w : World) (a : Option Addr) (len : Nat) (z : Nat → Nat → Int) : Prop :=
  len ≤ 9223372036854775807 ∧ (0 < len → ∃ b off, a = some ⟨b, off, none⟩ ∧ b < w.heap.size ∧ ∀ i, i < len → ∀ k, k < 4 → w.cell? ⟨b, off + i * 4 + k, none⟩ = some (.int .i16 (z i k)) ∧ -32768 ≤ z i k ∧ z i k ≤ 32767)

theorem InQuad.at {w w' : World} {a : Option Addr} {len : Nat} {z : Nat → Nat → Int} (h : InQuad w a len z) (k : Kp w w') (h0 : 0 < len) : ∃ b off, a = some ⟨b, off, none⟩ ∧ ∀ i, i < len → ∀ k, k < 4 → w'.cell? ⟨b, off + i * 4 + k, none⟩ = some (.int .i16 (z i k)) ∧ -32768 ≤ z i k ∧ z i k ≤ 32767 := by
  obtain ⟨b, off, rfl, hb, hc⟩ := h.2 h0
  exact ⟨b, off, rfl, fun i hi q hq => ⟨(Below.cell k (p := ⟨b, off + i * 4 + q, none⟩) hb).trans (hc i hi q hq).1, (hc i hi q hq).2⟩⟩
theorem InQuad.keep {w w' : World} {a : Option Addr} {len : Nat} {z : Nat → Nat → Int} (h : InQuad w a len z) (k : Kp w w') : InQuad w' a len z := by
  refine ⟨h.1, fun h0 => ?_⟩
  obtain ⟨b, off, rfl, hb, hc⟩ := h.2 h0
  exact ⟨b, off, rfl, Nat.lt_of_lt_of_le hb k.size, fun i hi q hq => ⟨(Below.cell k (p := ⟨b, off + i * 4 + q, none⟩) hb).trans (hc i hi q hq).1, (hc i hi q hq).2⟩⟩

theorem add_none (b off n : Nat) : (⟨b, off, none⟩ : Addr).add n = ⟨b, off + n, none⟩ := by
  unfold Addr.add
  by_cases h : n = 0 <;> simp [h]

theorem open_quads {H : Type} {enc : TypeId × Value → H} {P : Program} {w : World} {base : Nat} {spare : Nat → Bool} {held : Bool} {t e f : TypeId} {fuel : Nat} {a : Option Addr} {len cap : Nat} {x : DataW H × List MemPlace}
    (ht : P.underlying t = some (.slice e)) (he : P.underlying e = some (.array 4 f)) (hf : P.underlying f = some (.int .i16)) (hc : P.cellsOf f = 1) (h4 : P.cellsOf e = 4)
    (h : DataW.trod enc P w base spare held fuel t (Value.slice a len cap).cells.toList = some x) : ∃ z, InQuad w a len z := by
  rcases Go.Deep.open_slice ht h with ⟨hcs, _⟩ | ⟨ad, l, c, m, n, D, Pl, hcs, hb, hl, hm, hmm, _, hx⟩
  · simp [Value.cells] at hcs
    obtain ⟨rfl, rfl, rfl⟩ := hcs
    exact ⟨fun _ _ => 0, by omega, by omega⟩
  · simp [Value.cells] at hcs
    obtain ⟨rfl, rfl, rfl⟩ := hcs
    have hlm : len ≤ m := by rw [hmm]; split <;> omega
    have hx' : ∀ i, i < len → ∀ k, k < 4 → ∃ v, w.cell? (ad.add (i * 4 + k)) = some (.int .i16 v) ∧ -32768 ≤ v ∧ v ≤ 32767 := by
      intro i hi k hk
      obtain ⟨cs', h1, h2⟩ := hx i (by omega)
      rw [h4] at h1
      obtain ⟨_, hlen, hcell⟩ := World.cells?_some h1
      obtain ⟨v, hv, hw⟩ := open_arrK he hf hc (by rw [h4]; exact hlen) h2 k hk
      refine ⟨v, ?_, bounds_i16 hw⟩
      rw [← Go.Deep.add_add, hcell k hk]
      have := congrArg (fun l => l[0]?) hv
      simpa using this
    refine ⟨fun i k => match w.cell? (ad.add (i * 4 + k)) with | some (.int _ v) => v | _ => 0, by unfold maxLen at hm; omega, fun h0 => ?_⟩
    obtain ⟨v0, g0, _⟩ := hx' 0 h0 0 (by omega)
    obtain ⟨b, off, sp⟩ := ad
    have hs : sp = none := by
      unfold World.cell? at g0
      split at g0
      · split at g0
        · cases g0
        · rename_i hh; simpa [Addr.add] using hh
      · cases g0
    subst hs
    have hblt : b < w.heap.size := by
      unfold World.cell? at g0
      split at g0
      · rename_i c t f hh
        have := (Array.getElem?_eq_some_iff.1 hh).1
        simpa [Addr.add] using this
      · cases g0
    refine ⟨b, off, rfl, hblt, fun i hi k hk => ?_⟩
    obtain ⟨v, hv, hw⟩ := hx' i hi k hk
    rw [add_none] at hv
    simp only [add_none, hv]
    rw [← Nat.add_assoc] at hv
    exact ⟨hv, hw⟩

theorem open_arrF4 {H : Type} {enc : TypeId × Value → H} {P : Program} {w : World} {base : Nat} {sp : Nat → Bool} {held : Bool} {t e : TypeId} {fuel : Nat} {cs : Array Value} {x : DataW H × List MemPlace}
    (ht : P.underlying t = some (.array 4 e)) (he : P.underlying e = some (.float .f64)) (hc : P.cellsOf e = 1) (h2 : P.cellsOf t = 4) (hs : cs.size = P.cellsOf t) (h : DataW.trod enc P w base sp held fuel t cs.toList = some x) : ∃ a b c d, cs = #[.float .f64 a, .float .f64 b, .float .f64 c, .float .f64 d] ∧ W64 a ∧ W64 b ∧ W64 c ∧ W64 d := by
  have hk : ∀ i, i < 4 → ∃ a, (cs.toList.drop i).take 1 = [.float .f64 a] ∧ W64 a := by
    cases fuel with
    | zero => simp [DataW.trod] at h
    | succ m =>
      rw [DataW.trod_step] at h
      unfold DataW.trodStep at h
      simp only [ht] at h
      rw [if_pos (by simpa using hs)] at h
      simp only [Option.map_eq_some_iff, hc, Nat.mul_one] at h
      obtain ⟨ys, hy, _⟩ := h
      intro i hi
      obtain ⟨y, hy⟩ := mapM_at hy i (List.mem_range.2 hi)
      generalize (cs.toList.drop i).take 1 = vs at hy
      cases m with
      | zero => simp [DataW.trod] at hy
      | succ m =>
        match vs with
        | [] => simp [DataW.trod, he] at hy
        | [v] =>
          cases v <;> simp [DataW.trod, he] at hy
          case float k b => exact ⟨b, by rw [hy.1.1], wf_w64 hy.1.2⟩
        | _ :: _ :: _ => simp [DataW.trod, he] at hy
  rw [h2] at hs
  obtain ⟨l⟩ := cs
  match l, hs with
  | [u, v, y, z], _ =>
    obtain ⟨a, ea, wa⟩ := hk 0 (by decide)
    obtain ⟨b, eb, wb⟩ := hk 1 (by decide)
    obtain ⟨c, ec, wc⟩ := hk 2 (by decide)
    obtain ⟨d, ed, wd⟩ := hk 3 (by decide)
    simp at ea eb ec ed
    subst ea eb ec ed
    exact ⟨a, b, c, d, rfl, wa, wb, wc, wd⟩

end Go.Proofs.Ytlfjclnocbohbaa
