
/- Arguments that came in: slices of integers of a kind, slices of 64-bit numbers, as the walks want them. -/
import Derived.Test.YtliddjpcbhdplaaFNum
import Derived.OpenShut
import Derived.ChangeSame
import Derived.Deep.Slices
namespace Go.Proofs.Ytliddjpcbhdplaa
open Go.RowKit Go.ChangeShapes

def InRowK (k : IntKind) (w : World) (a : Option Addr) (len cap : Nat) (zs : List Int) : Prop :=
  (a = none ∧ len = 0 ∧ cap = 0 ∧ zs = []) ∨
  ∃ x, a = some x ∧ len ≤ cap ∧ cap ≤ maxLen ∧ zs.length = cap ∧ (∀ i, i < zs.length → w.cell? (x.add i) = some (.int k (zs.getD i 0))) ∧ ∀ n ∈ zs, (Lit.int k n).wf = true

theorem InRowK.max {k : IntKind} {w : World} {a : Option Addr} {len cap : Nat} {zs : List Int} (h : InRowK k w a len cap zs) : len ≤ 9223372036854775807 := by
  rcases h with ⟨_, rfl, _, _⟩ | ⟨x, _, h1, h2, _⟩
  · omega
  · unfold maxLen at h2; omega

/-- an address and its cells, one behind the other -/
theorem cells_at {w : World} {x : Addr} {n : Nat} {f : Nat → Value} (h : ∀ i, i < n → w.cell? (x.add i) = some (f i)) (hn : 0 < n) : ∃ b off, x = ⟨b, off, none⟩ ∧ b < w.heap.size ∧ ∀ i, i < n → w.cell? ⟨b, off + i, none⟩ = some (f i) := by
  have h0 := h 0 hn
  obtain ⟨b, off, sp⟩ := x
  have hs : sp = none := by
    unfold World.cell? at h0
    split at h0
    · split at h0
      · cases h0
      · rename_i hh; simpa [Addr.add] using hh
    · cases h0
  subst hs
  refine ⟨b, off, rfl, ?_, fun i hi => ?_⟩
  · unfold World.cell? at h0
    split at h0
    · rename_i c t f hh
      have := (Array.getElem?_eq_some_iff.1 hh).1
      simpa [Addr.add] using this
    · cases h0
  · have := h i hi
    by_cases h0 : i = 0
    · subst h0; simpa [Addr.add] using this
    · simpa [Addr.add, h0] using this

theorem wf_i64 {n : Int} (h : (Lit.int .i64 n).wf = true) : I64 n := by
  exact bounds_i64 h

theorem InRowK.len {k : IntKind} {w : World} {a : Option Addr} {len cap : Nat} {zs : List Int} (h : InRowK k w a len cap zs) : (zs.take len).length = len := by
  rcases h with ⟨_, rfl, _, rfl⟩ | ⟨x, _, h1, _, h3, _⟩
  · rfl
  · simp; omega

theorem InRowK.ints {w : World} {a : Option Addr} {len cap : Nat} {zs : List Int} (h : InRowK .i64 w a len cap zs) (hs : len ≤ 1000000) : Ints w (.slice a len cap) (zs.take len) := by
  rcases h with ⟨rfl, rfl, rfl, rfl⟩ | ⟨x, rfl, h1, _, h3, h4, h5⟩
  · exact Ints.nil w
  · have hl : (zs.take len).length = len := by simp; omega
    refine ⟨fun y hy => wf_i64 (h5 y (List.mem_of_mem_take hy)), by omega, (by intro n c h; cases h), some x, cap, by rw [hl], fun hp => ?_⟩
    obtain ⟨b, off, rfl, hb, hc⟩ := cells_at h4 (by omega)
    refine ⟨b, off, rfl, hb, fun i hi => ?_⟩
    have hil : i < len := by omega
    have := hc i (by omega)
    simpa [List.getD_eq_getElem?_getD, List.getElem?_take, hil] using this

/-- a slice of 64-bit numbers that came in -/
def InRowF (w : World) (a : Option Addr) (len cap : Nat) (zs : List Nat) : Prop :=
  (a = none ∧ len = 0 ∧ cap = 0 ∧ zs = []) ∨
  ∃ x, a = some x ∧ len ≤ cap ∧ cap ≤ maxLen ∧ zs.length = cap ∧ (∀ i, i < zs.length → w.cell? (x.add i) = some (.float .f64 (zs.getD i 0))) ∧ ∀ n ∈ zs, (Lit.float .f64 n).wf = true

theorem wf_w64 {n : Nat} (h : (Lit.float .f64 n).wf = true) : W64 n := by
  simp only [Lit.wf, decide_eq_true_eq] at h
  exact h

theorem InRowF.max {w : World} {a : Option Addr} {len cap : Nat} {zs : List Nat} (h : InRowF w a len cap zs) : len ≤ 9223372036854775807 := by
  rcases h with ⟨_, rfl, _, _⟩ | ⟨x, _, h1, h2, _⟩
  · omega
  · unfold maxLen at h2; omega
theorem InRowF.len {w : World} {a : Option Addr} {len cap : Nat} {zs : List Nat} (h : InRowF w a len cap zs) : (zs.take len).length = len := by
  rcases h with ⟨_, rfl, _, rfl⟩ | ⟨x, _, h1, _, h3, _⟩
  · rfl
  · simp; omega
theorem InRowF.roomy {w : World} {a : Option Addr} {len cap : Nat} {zs : List Nat} (h : InRowF w a len cap zs) : Roomy (.slice a len cap) := by
  intro a' n c e
  cases e
  rcases h with ⟨_, rfl, rfl, _⟩ | ⟨x, _, h1, h2, _⟩
  · omega
  · unfold maxLen at h2; omega
theorem InRowF.flts {w : World} {a : Option Addr} {len cap : Nat} {zs : List Nat} (h : InRowF w a len cap zs) (hs : len ≤ 1000000) : Flts w (.slice a len cap) (zs.take len) := by
  rcases h with ⟨rfl, rfl, rfl, rfl⟩ | ⟨x, rfl, h1, _, h3, h4, h5⟩
  · exact Flts.nil w
  · have hl : (zs.take len).length = len := by simp; omega
    refine ⟨fun y hy => wf_w64 (h5 y (List.mem_of_mem_take hy)), by omega, (by intro n c h; cases h), some x, cap, by rw [hl], fun hp => ?_⟩
    obtain ⟨b, off, rfl, hb, hc⟩ := cells_at h4 (by omega)
    refine ⟨b, off, rfl, hb, fun i hi => ?_⟩
    have hil : i < len := by omega
    have := hc i (by omega)
    simpa [List.getD_eq_getElem?_getD, List.getElem?_take, hil] using this

theorem list_of (m : Nat) (B : Nat → Nat) : ∃ zs : List Nat, zs.length = m ∧ ∀ i, i < m → zs.getD i 0 = B i :=
  ⟨(List.range m).map B, by simp, fun i hi => by simp [hi]⟩

theorem open_flts {H : Type} {enc : TypeId × Value → H} {P : Program} {w : World} {base : Nat} {spare : Nat → Bool} {held : Bool} {t e : TypeId} {fuel : Nat} {cs : List Value} {x : DataW H × List MemPlace}
    (ht : P.underlying t = some (.slice e)) (he : P.underlying e = some (.float .f64)) (hc : P.cellsOf e = 1) (hsp : ∀ b, spare b = true)
    (h : DataW.trod enc P w base spare held fuel t cs = some x) :
    (cs = [.slice none 0 0]) ∨
    ∃ (a : Addr) (len cap : Nat) (zs : List Nat), cs = [.slice (some a) len cap] ∧ len ≤ cap ∧ cap ≤ maxLen ∧ zs.length = cap ∧
      (∀ i, i < zs.length → w.cell? (a.add i) = some (.float .f64 (zs.getD i 0))) ∧ (∀ n ∈ zs, (Lit.float .f64 n).wf = true) := by
  rcases Go.Deep.open_slice1 ht hc h with ⟨h0, _⟩ | ⟨a, len, cap, m, n, V, D, Pl, rfl, hb, hl, hm, hmm, _, hx⟩
  · exact .inl h0
  · right
    rw [hsp, if_pos rfl] at hmm
    subst hmm
    have hv : ∀ i, i < m → ∃ b, V i = .float .f64 b ∧ (Lit.float .f64 b).wf = true := by
      intro i hi
      have h2 := (hx i hi).2
      cases n with
      | zero => simp [DataW.trod] at h2
      | succ n =>
        cases hV : V i <;> simp [DataW.trod, he, hV] at h2
        case float k b => exact ⟨b, by rw [h2.1.1], h2.1.2⟩
    obtain ⟨zs, hz, hzi⟩ := list_of m (fun i => if hi : i < m then Classical.choose (hv i hi) else 0)
    have hzi' : ∀ i, i < m → V i = .float .f64 (zs.getD i 0) ∧ (Lit.float .f64 (zs.getD i 0)).wf = true := by
      intro i hi
      rw [hzi i hi, dif_pos hi]
      exact Classical.choose_spec (hv i hi)
    refine ⟨a, len, m, zs, rfl, hl, hm, hz, fun i hi => ?_, fun y hy => ?_⟩
    · rw [(hx i (by omega)).1, (hzi' i (by omega)).1]
    · obtain ⟨i, hi, rfl⟩ := List.getElem_of_mem hy
      have := (hzi' i (by omega)).2
      simpa [hi] using this

/-- a pair of slices, integers and 64-bit numbers, that came in by value -/
theorem open_pair_rows {H : Type} {enc : TypeId × Value → H} {P : Program} {w : World} {base : Nat} {spare : Nat → Bool} {t t0 t1 e0 e1 : TypeId} {fuel : Nat} {cs : List Value} {x : DataW H × List MemPlace} {f0 f1 : Field}
    (ht : P.underlying t = some (.struct #[f0, f1])) (hf : (f0.offset, f1.offset, f0.type, f1.type) = (0, 1, t0, t1))
    (h0 : P.underlying t0 = some (.slice e0)) (h1 : P.underlying t1 = some (.slice e1)) (u0 : P.underlying e0 = some (.int .i64)) (u1 : P.underlying e1 = some (.float .f64))
    (c0 : P.cellsOf e0 = 1) (c1 : P.cellsOf e1 = 1) (d : (P.cellsOf t, P.cellsOf t0, P.cellsOf t1) = (2, 1, 1)) (hsp : ∀ b, spare b = true)
    (h : DataW.trod enc P w base spare true fuel t cs = some x) :
    ∃ a len cap zs a' len' cap' zs', cs = [.slice a len cap, .slice a' len' cap'] ∧ InRowK .i64 w a len cap zs ∧ InRowF w a' len' cap' zs' := by
  obtain ⟨y0, y1, n, rfl, hl, k0, k1⟩ := Go.ChangeShapes.trod_struct2 ht h
  simp only [Prod.mk.injEq] at hf d
  obtain ⟨o0, o1, rfl, rfl⟩ := hf
  obtain ⟨d0, d1, d2⟩ := d
  rw [d0] at hl
  match cs, hl with
  | [v0, v1], _ =>
    rw [o0, d1] at k0
    rw [o1, d2] at k1
    simp only [List.drop_zero, List.take_succ_cons, List.take_zero, List.drop_succ_cons] at k0 k1
    obtain ⟨a, len, cap, zs, q1, i1⟩ : ∃ a len cap zs, v0 = .slice a len cap ∧ InRowK .i64 w a len cap zs := by
      rcases open_ints h0 u0 c0 k0 with ⟨hcs, _⟩ | ⟨x, l, c, zs, hcs, _, hl, hm, hz, _, hcell, hwz⟩
      · simp at hcs
        exact ⟨none, 0, 0, [], hcs, .inl ⟨rfl, rfl, rfl, rfl⟩⟩
      · simp at hcs
        rw [hsp, if_pos rfl] at hz
        exact ⟨some x, l, c, zs, hcs, .inr ⟨_, rfl, hl, hm, hz, hcell, hwz⟩⟩
    obtain ⟨a', len', cap', zs', q2, i2⟩ : ∃ a len cap zs, v1 = .slice a len cap ∧ InRowF w a len cap zs := by
      rcases open_flts h1 u1 c1 hsp k1 with hcs | ⟨x, l, c, zs, hcs, hl, hm, hz, hcell, hwz⟩
      · simp at hcs
        exact ⟨none, 0, 0, [], hcs, .inl ⟨rfl, rfl, rfl, rfl⟩⟩
      · simp at hcs
        exact ⟨some x, l, c, zs, hcs, .inr ⟨_, rfl, hl, hm, hz, hcell, hwz⟩⟩
    exact ⟨a, len, cap, zs, a', len', cap', zs', by rw [q1, q2], i1, i2⟩

end Go.Proofs.Ytliddjpcbhdplaa
