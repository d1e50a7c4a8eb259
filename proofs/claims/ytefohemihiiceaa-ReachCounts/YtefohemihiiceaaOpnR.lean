
/- A slice of rows of integers as an argument ([][]int, [][]uint8): how it came in. -/
import Derived.Test.YtefohemihiiceaaGrA
import Derived.Test.YtefohemihiiceaaGa
namespace Go.Proofs.Ytefohemihiiceaa
open Go.RowKit Go.ChangeShapes

def InRows (k : IntKind) (w : World) (a : Option Addr) (len cap : Nat) : Prop :=
  (a = none ∧ len = 0 ∧ cap = 0) ∨
  ∃ x, a = some x ∧ len ≤ cap ∧ cap ≤ maxLen ∧ (0 < len → ∃ b off, x = ⟨b, off, none⟩ ∧ b < w.heap.size ∧ ∀ i, i < len → ∃ a' l' c' zs, w.cell? ⟨b, off + i, none⟩ = some (.slice a' l' c') ∧ InRowK k w a' l' c' zs)

theorem open_rows {H : Type} {enc : TypeId × Value → H} {P : Program} {w : World} {base : Nat} {spare : Nat → Bool} {t e e0 : TypeId} {k : IntKind} {fuel : Nat} {a : Option Addr} {len cap : Nat} {x : DataW H × List MemPlace}
    (ht : P.underlying t = some (.slice e)) (he : P.underlying e = some (.slice e0)) (u0 : P.underlying e0 = some (.int k)) (ce : P.cellsOf e = 1) (c0 : P.cellsOf e0 = 1) (hsp : ∀ b, spare b = true)
    (h : DataW.trod enc P w base spare true fuel t (Value.slice a len cap).cells.toList = some x) : InRows k w a len cap := by
  rcases Go.Deep.open_slice1 ht ce h with ⟨hcs, _⟩ | ⟨ad, l, c, m, n, V, D, Pl, hcs, hb, hl, hm, hmm, _, hx⟩
  · simp [Value.cells] at hcs
    obtain ⟨rfl, rfl, rfl⟩ := hcs
    exact .inl ⟨rfl, rfl, rfl⟩
  · simp [Value.cells] at hcs
    obtain ⟨rfl, rfl, rfl⟩ := hcs
    rw [hsp, if_pos rfl] at hmm
    subst hmm
    refine .inr ⟨ad, rfl, hl, hm, fun hp => ?_⟩
    obtain ⟨b, off, rfl, hblt, hcell⟩ := cells_at (f := V) (fun i (hi : i < len) => (hx i (by omega)).1) hp
    refine ⟨b, off, rfl, hblt, fun i hi => ?_⟩
    have r0 := (hx i (by omega)).2
    rcases open_ints he u0 c0 r0 with ⟨hcs, _⟩ | ⟨x, l, c, zs, hcs, _, hl, hm, hz, _, hcl, hwz⟩
    · simp at hcs
      exact ⟨none, 0, 0, [], by rw [hcell i hi, hcs], .inl ⟨rfl, rfl, rfl, rfl⟩⟩
    · simp at hcs
      rw [hsp, if_pos rfl] at hz
      exact ⟨some x, l, c, zs, by rw [hcell i hi, hcs], .inr ⟨_, rfl, hl, hm, hz, hcl, hwz⟩⟩

/-- where the rows are few and short: as the walks want them -/
theorem InRows.rows2 {w : World} {a : Option Addr} {len cap : Nat} (h : InRows .i64 w a len cap) (hl : len ≤ 1000) (hs : ∀ b off, a = some ⟨b, off, none⟩ → ∀ i, i < len → ∀ a' l' c', w.cell? ⟨b, off + i, none⟩ = some (.slice a' l' c') → l' ≤ 1000) : ∃ ls : List (List Int), ls.length = len ∧ Rows2 w (.slice a len cap) ls := by
  rcases h with ⟨rfl, rfl, rfl⟩ | ⟨x, rfl, h1, h2, h3⟩
  · exact ⟨[], rfl, Rows2.nil w none 0⟩
  · by_cases hp : 0 < len
    · obtain ⟨b, off, rfl, hb, hc⟩ := h3 hp
      have key : ∀ n, n ≤ len → ∃ ls : List (List Int), ls.length = n ∧ ∀ i, i < n → ∃ a' c', w.cell? ⟨b, off + i, none⟩ = some (.slice a' (ls.getD i []).length c') ∧ Ints w (.slice a' (ls.getD i []).length c') (ls.getD i []) := by
        intro n
        induction n with
        | zero => exact fun _ => ⟨[], rfl, fun i hi => absurd hi (Nat.not_lt_zero _)⟩
        | succ n ih =>
          intro hn
          obtain ⟨ls, hls, hi⟩ := ih (by omega)
          obtain ⟨a', l', c', zs, hcell, hin⟩ := hc n (by omega)
          have hl' := hs b off rfl n (by omega) a' l' c' hcell
          have hz := hin.len
          refine ⟨ls ++ [zs.take l'], by simp [hls], fun i hi2 => ?_⟩
          by_cases e : i = n
          · subst e
            have e2 : (ls ++ [zs.take l']).getD i [] = zs.take l' := by simp [List.getD, ← hls]
            rw [e2, hz]
            exact ⟨a', c', hcell, hin.ints (by omega)⟩
          · have e2 : (ls ++ [zs.take l']).getD i [] = ls.getD i [] := by
              have : i < ls.length := by omega
              simp [List.getD, List.getElem?_append_left this]
            rw [e2]
            exact hi i (by omega)
      obtain ⟨ls, hls, hi⟩ := key len (Nat.le_refl _)
      refine ⟨ls, hls, by rw [hls]; omega, some ⟨b, off, none⟩, cap, by rw [hls], fun _ => ⟨b, off, rfl, hb, fun i hi2 => hi i (by omega)⟩⟩
    · obtain rfl : len = 0 := by omega
      exact ⟨[], rfl, Rows2.nil w _ _⟩

end Go.Proofs.Ytefohemihiiceaa
