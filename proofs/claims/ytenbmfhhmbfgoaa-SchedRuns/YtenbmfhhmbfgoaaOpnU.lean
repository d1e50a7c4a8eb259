
/- Slices of arrays of whole numbers, of whole numbers, that came in. -/
import Derived.Test.YtenbmfhhmbfgoaaBase
import Derived.Test.YtenbmfhhmbfgoaaProg
import Derived.OpenShut
import Derived.ChangeSame
import Derived.Deep.Slices
import Derived.WideKeyArr2
namespace Go.Proofs.Ytenbmfhhmbfgoaa
open Go.RowKit Go.ChangeShapes

/-- rows of m whole numbers that came in -/
def InArr (k : IntKind) (m : Nat) (w : World) (a : Option Addr) (len : Nat) (z : Nat → Nat → Int) : Prop :=
  len ≤ 9223372036854775807 ∧ (0 < len → ∃ b off, a = some ⟨b, off, none⟩ ∧ b < w.heap.size ∧ ∀ i, i < len → ∀ j, j < m → w.cell? ⟨b, off + i * m + j, none⟩ = some (.int k (z i j)) ∧ (Lit.int k (z i j)).wf = true)
/-- whole numbers that came in -/
def InCol (k : IntKind) (w : World) (a : Option Addr) (len : Nat) (z : Nat → Int) : Prop :=
  len ≤ 9223372036854775807 ∧ (0 < len → ∃ b off, a = some ⟨b, off, none⟩ ∧ b < w.heap.size ∧ ∀ i, i < len → w.cell? ⟨b, off + i, none⟩ = some (.int k (z i)) ∧ (Lit.int k (z i)).wf = true)
theorem InArr.keep {k : IntKind} {m : Nat} {w w' : World} {a : Option Addr} {len : Nat} {z : Nat → Nat → Int} (h : InArr k m w a len z) (kp : Kp w w') : InArr k m w' a len z := by
  refine ⟨h.1, fun h0 => ?_⟩
  obtain ⟨b, off, rfl, hb, hc⟩ := h.2 h0
  exact ⟨b, off, rfl, Nat.lt_of_lt_of_le hb kp.size, fun i hi q hq => ⟨(Below.cell kp (p := ⟨b, off + i * m + q, none⟩) hb).trans (hc i hi q hq).1, (hc i hi q hq).2⟩⟩
theorem InCol.keep {k : IntKind} {w w' : World} {a : Option Addr} {len : Nat} {z : Nat → Int} (h : InCol k w a len z) (kp : Kp w w') : InCol k w' a len z := by
  refine ⟨h.1, fun h0 => ?_⟩
  obtain ⟨b, off, rfl, hb, hc⟩ := h.2 h0
  exact ⟨b, off, rfl, Nat.lt_of_lt_of_le hb kp.size, fun i hi => ⟨(Below.cell kp (p := ⟨b, off + i, none⟩) hb).trans (hc i hi).1, (hc i hi).2⟩⟩

theorem vadd (b off n : Nat) : (⟨b, off, none⟩ : Addr).add n = ⟨b, off + n, none⟩ := by
  unfold Addr.add
  by_cases h : n = 0 <;> simp [h]
theorem plain_of {w : World} {ad : Addr} {v : Value} (g : w.cell? (ad.add 0) = some v) : ad.spot = none ∧ ad.block < w.heap.size := by
  have e : ad.add 0 = ad := by unfold Addr.add; simp
  rw [e] at g
  refine ⟨?_, World.block_lt_of_cell? w _ g⟩
  unfold World.cell? at g
  split at g
  · split at g
    · cases g
    · rename_i hh; simpa using hh
  · cases g

theorem each_arr {k : IntKind} {m : Nat} {w : World} {ad : Addr} {len : Nat} (hm : 0 < m) (hl : len ≤ 9223372036854775807) (hx : ∀ i, i < len → ∀ j, j < m → ∃ v, w.cell? (ad.add (i * m + j)) = some (.int k v) ∧ (Lit.int k v).wf = true) : ∃ z, InArr k m w (some ad) len z := by
  refine ⟨fun i j => match w.cell? (ad.add (i * m + j)) with | some (.int _ v) => v | _ => 0, hl, fun h0 => ?_⟩
  obtain ⟨v0, g0, _⟩ := hx 0 h0 0 hm
  rw [Nat.zero_mul] at g0
  obtain ⟨hsp, hblt⟩ := plain_of g0
  obtain ⟨b, off, sp⟩ := ad
  simp only at hsp hblt
  subst hsp
  refine ⟨b, off, rfl, hblt, fun i hi j hj => ?_⟩
  obtain ⟨v, hv, hw⟩ := hx i hi j hj
  rw [vadd] at hv
  simp only [vadd, hv]
  rw [← Nat.add_assoc] at hv
  exact ⟨hv, hw⟩

theorem open_arrE {H : Type} {enc : TypeId × Value → H} {P : Program} {w : World} {base : Nat} {sp : Nat → Bool} {held : Bool} {t e : TypeId} {n : Nat} {q : IntKind} {fuel : Nat} {cs : List Value} {x : DataW H × List MemPlace}
    (ht : P.underlying t = some (.array n e)) (he : P.underlying e = some (.int q)) (hc : P.cellsOf e = 1) (hs : cs.length = P.cellsOf t) (h : DataW.trod enc P w base sp held fuel t cs = some x) : ∀ i, i < n → ∃ a, (cs.drop i).take 1 = [.int q a] ∧ (Lit.int q a).wf = true := by
  have mapM_at : ∀ {L : List Nat} {β : Type} {f : Nat → Option β} {ys : List β}, L.mapM f = some ys → ∀ a ∈ L, ∃ y, f a = some y := by
    intro L
    induction L with
    | nil => intro β f ys _ a ha; simp at ha
    | cons b L ih =>
      intro β f ys h a ha
      rw [List.mapM_cons] at h
      simp only [bind, Option.bind_eq_some_iff, pure, Option.some.injEq] at h
      obtain ⟨y, hy, zs, hzs, rfl⟩ := h
      rcases List.mem_cons.1 ha with rfl | ha
      · exact ⟨y, hy⟩
      · exact ih hzs a ha
  cases fuel with
  | zero => simp [DataW.trod] at h
  | succ m =>
    rw [DataW.trod_step] at h
    unfold DataW.trodStep at h
    simp only [ht] at h
    rw [if_pos hs] at h
    simp only [Option.map_eq_some_iff, hc, Nat.mul_one] at h
    obtain ⟨ys, hy, _⟩ := h
    intro i hi
    obtain ⟨y, hy⟩ := mapM_at hy i (List.mem_range.2 hi)
    obtain ⟨a, ea, _, wa⟩ := DataW.trod_int he hy
    exact ⟨a, ea, wa⟩

theorem open_arrs {H : Type} {enc : TypeId × Value → H} {P : Program} {w : World} {base : Nat} {spare : Nat → Bool} {held : Bool} {t e f : TypeId} {fuel m : Nat} {k : IntKind} {a : Option Addr} {len cap : Nat} {x : DataW H × List MemPlace}
    (ht : P.underlying t = some (.slice e)) (he : P.underlying e = some (.array m f)) (hf : P.underlying f = some (.int k)) (hc : P.cellsOf f = 1) (h4 : P.cellsOf e = m) (hm0 : 0 < m)
    (h : DataW.trod enc P w base spare held fuel t (Value.slice a len cap).cells.toList = some x) : ∃ z, InArr k m w a len z := by
  rcases Go.Deep.open_slice ht h with ⟨hcs, _⟩ | ⟨ad, l, c, q, n, D, Pl, hcs, hb, hl, hm, hmm, _, hx⟩
  · simp [Value.cells] at hcs
    obtain ⟨rfl, rfl, rfl⟩ := hcs
    exact ⟨fun _ _ => 0, by omega, by omega⟩
  · simp [Value.cells] at hcs
    obtain ⟨rfl, rfl, rfl⟩ := hcs
    have hlm : len ≤ q := by rw [hmm]; split <;> omega
    refine each_arr hm0 (by unfold maxLen at hm; omega) fun i hi j hj => ?_
    obtain ⟨cs', h1, h2⟩ := hx i (by omega)
    rw [h4] at h1
    obtain ⟨_, hlen, hcell⟩ := World.cells?_some h1
    obtain ⟨v, hv, hw⟩ := open_arrE he hf hc (by rw [h4]; exact hlen) h2 j hj
    refine ⟨v, ?_, hw⟩
    rw [← Go.Deep.add_add, hcell j hj]
    have := congrArg (fun l => l[0]?) hv
    simpa using this

theorem open_col {H : Type} {enc : TypeId × Value → H} {P : Program} {w : World} {base : Nat} {spare : Nat → Bool} {held : Bool} {t e : TypeId} {fuel : Nat} {k : IntKind} {a : Option Addr} {len cap : Nat} {x : DataW H × List MemPlace}
    (ht : P.underlying t = some (.slice e)) (he : P.underlying e = some (.int k)) (hc : P.cellsOf e = 1)
    (h : DataW.trod enc P w base spare held fuel t (Value.slice a len cap).cells.toList = some x) : ∃ z, InCol k w a len z := by
  rcases Go.Deep.open_slice ht h with ⟨hcs, _⟩ | ⟨ad, l, c, q, n, D, Pl, hcs, hb, hl, hm, hmm, _, hx⟩
  · simp [Value.cells] at hcs
    obtain ⟨rfl, rfl, rfl⟩ := hcs
    exact ⟨fun _ => 0, by omega, by omega⟩
  · simp [Value.cells] at hcs
    obtain ⟨rfl, rfl, rfl⟩ := hcs
    have hlm : len ≤ q := by rw [hmm]; split <;> omega
    have h1 : ∀ i, i < len → ∀ j, j < 1 → ∃ v, w.cell? (ad.add (i * 1 + j)) = some (.int k v) ∧ (Lit.int k v).wf = true := by
      intro i hi j hj
      obtain rfl : j = 0 := by omega
      obtain ⟨cs', h1, h2⟩ := hx i (by omega)
      rw [hc] at h1
      obtain ⟨_, hlen, hcell⟩ := World.cells?_some h1
      obtain ⟨v, ev, _, hw⟩ := DataW.trod_int he h2
      refine ⟨v, ?_, hw⟩
      rw [← Go.Deep.add_add, hcell 0 (by omega), ev]
      rfl
    obtain ⟨z, hz⟩ := each_arr (by omega) (by unfold maxLen at hm; omega) h1
    refine ⟨fun i => z i 0, hz.1, fun h0 => ?_⟩
    obtain ⟨b, off, e, hblt, hcc⟩ := hz.2 h0
    refine ⟨b, off, e, hblt, fun i hi => ?_⟩
    have := hcc i hi 0 (by omega)
    rw [Nat.mul_one, Nat.add_zero] at this
    exact this


end Go.Proofs.Ytenbmfhhmbfgoaa
