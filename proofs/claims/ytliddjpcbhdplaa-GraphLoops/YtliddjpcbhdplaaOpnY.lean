
/- Graphs as an argument: how long their rows can be. -/
import Derived.Test.YtliddjpcbhdplaaOpnZ
namespace Go.Proofs.Ytliddjpcbhdplaa
open Go.RowKit Go.ChangeShapes

/-- the graphs of a slice are sized -/
def ZGraphs (w : World) (a : Option Addr) (len : Nat) : Prop := Zlen len ∧ ∀ b off, a = some ⟨b, off, none⟩ → ∀ i, i < len → ∀ a' l' c', w.cell? ⟨b, off + i, none⟩ = some (.slice a' l' c') → ZNodes w a' l'
theorem graphs_sized {H : Type} {enc : TypeId × Value → H} {w : World} {base fuel : Nat} {spare : Nat → Bool} {a : Option Addr} {len cap : Nat} {x : DataW H × List MemPlace} (hsp : ∀ b, spare b = true)
    (h : DataW.trod enc Try.prog w base spare true fuel 22 [.slice a len cap] = some x) (hw : ∀ m ∈ x.1.weights Try.prog 22, m ≤ reachBytes) : ZGraphs w a len := by
  have hb : Try.prog.bytesOf 34 = 24 := by kernel_rfl
  have hc : Try.prog.cellsOf 34 = 1 := by kernel_rfl
  refine ⟨slice_sized Try.underlying22 (by omega) h hw, ?_⟩
  rintro b off rfl i hi a' l' c' hcell
  rcases Go.Deep.open_slice Try.underlying22 h with ⟨hcs, _⟩ | ⟨ad, l, c, m, n', D, Pl, hcs, hbs, hl, hm, hmm, hx, hel⟩
  · simp at hcs
  · simp at hcs
    obtain ⟨rfl, rfl, rfl⟩ := hcs
    rw [hsp, if_pos rfl] at hmm
    subst hmm
    rw [hc] at hel
    obtain ⟨cs', h1, h2⟩ := hel i (by omega)
    obtain ⟨_, hlen, hcl⟩ := World.cells?_some h1
    have hwi : ∀ q ∈ (D i).weights Try.prog 34, q ≤ reachBytes := fun q hq => hw q (by
      rw [hx]
      simp only [DataW.weights, Try.underlying22]
      refine List.mem_cons_of_mem _ (List.mem_append_left _ ?_)
      have key : ∀ (ds : List (DataW H)) (d : DataW H), d ∈ ds → q ∈ d.weights Try.prog 34 → q ∈ DataW.weightsAll Try.prog 34 ds := by
        intro ds
        induction ds with
        | nil => intro d hd; cases hd
        | cons d0 ds ih =>
          intro d hd hq
          simp only [DataW.weightsAll, List.mem_append]
          rcases List.mem_cons.1 hd with rfl | hd
          · exact .inl hq
          · exact .inr (ih d hd hq)
      exact key _ (D i) (List.mem_map.2 ⟨i, List.mem_range.2 hi, rfl⟩) hq)
    match cs', hlen with
    | [v0], _ =>
      obtain ⟨a1, l1, c1, rfl, _, hz⟩ := graph1_open hsp h2 hwi
      have e := hcl 0 (by decide)
      rw [Go.Deep.add_add, Go.WideShapes.add_plain] at e
      simp only [Nat.mul_one, Nat.add_zero] at e
      rw [hcell] at e
      simp at e
      obtain ⟨rfl, rfl, rfl⟩ := e
      exact hz

/-- graphs that came in, and are sized: each by itself -/
theorem graphs_one {w : World} {a : Option Addr} {len cap : Nat} (h : InGraphs w a len cap) (hz : ZGraphs w a len) {i : Nat} (hi : i < len) : ∃ b off a' l' c', a = some ⟨b, off, none⟩ ∧ w.cell? ⟨b, off + i, none⟩ = some (.slice a' l' c') ∧ InNodes w a' l' c' ∧ ZNodes w a' l' := by
  rcases h with ⟨_, h0, _⟩ | ⟨x, rfl, h1, h2, h3⟩
  · omega
  · obtain ⟨b, off, rfl, hb, hc⟩ := h3 (by omega)
    obtain ⟨a', l', c', h4, h5⟩ := hc i hi
    exact ⟨b, off, a', l', c', rfl, h4, h5, hz.2 b off rfl i hi a' l' c' h4⟩

end Go.Proofs.Ytliddjpcbhdplaa
