
/- Tasks that came in: rows of rows of deeds, and how long they can be. -/
import Derived.Test.YtenbmfhhmbfgoaaSchN
import Derived.Test.YtenbmfhhmbfgoaaOpnU
import Derived.SizedLaws
namespace Go.Proofs.Ytenbmfhhmbfgoaa
open Go.RowKit Go.ChangeShapes

theorem wf_by {a : Int} (h : (Lit.int .u8 a).wf = true) : 0 ≤ a ∧ a < 256 := by
  have := bounds_u8 h
  omega
theorem list_of {α : Type} (d : α) {P : Nat → α → Prop} : ∀ n, (∀ i, i < n → ∃ y, P i y) → ∃ ys : List α, ys.length = n ∧ ∀ i, i < n → P i (ys.getD i d)
  | 0, _ => ⟨[], rfl, fun i hi => absurd hi (Nat.not_lt_zero _)⟩
  | n + 1, h => by
    obtain ⟨ys, hl, hy⟩ := list_of d n (fun i hi => h i (by omega))
    obtain ⟨y, hn⟩ := h n (Nat.lt_succ_self _)
    refine ⟨ys ++ [y], by simp [hl], fun i hi => ?_⟩
    by_cases e : i = n
    · subst e
      have : (ys ++ [y]).getD i d = y := by simp [List.getD, ← hl]
      rw [this]
      exact hn
    · have : (ys ++ [y]).getD i d = ys.getD i d := by
        have : i < ys.length := by omega
        simp [List.getD, List.getElem?_append_left this]
      rw [this]
      exact hy i (by omega)

/-- a slice that came in, sized: each element by itself -/
theorem row_open {H : Type} {enc : TypeId × Value → H} {w : World} {base n : Nat} {spare : Nat → Bool} {t e : TypeId} {v : Value} {x : DataW H × List MemPlace} (ht : Try.prog.underlying t = some (.slice e)) (hb : 1 ≤ Try.prog.bytesOf e) (hc : 1 ≤ Try.prog.cellsOf e)
    (h : DataW.trod enc Try.prog w base spare true n t [v] = some x) (hw : ∀ m ∈ x.1.weights Try.prog t, m ≤ reachBytes) :
    ∃ a l c, v = .slice a l c ∧ l ≤ 140737488351232 ∧ (0 < l → ∃ b off, a = some ⟨b, off, none⟩ ∧ b < w.heap.size ∧ ∀ i, i < l → ∃ (cs : List Value) (d : DataW H) (pl : List MemPlace) (k : Nat), cs.length = Try.prog.cellsOf e ∧ (∀ j, j < Try.prog.cellsOf e → w.cell? ⟨b, off + i * Try.prog.cellsOf e + j, none⟩ = cs[j]?) ∧ DataW.trod enc Try.prog w base spare true k e cs = some (d, pl) ∧ ∀ m ∈ d.weights Try.prog e, m ≤ reachBytes) := by
  rcases Go.Deep.open_slice ht h with ⟨hcs, _⟩ | ⟨ad, l, c, m, k, D, Pl, hcs, hbs, hl, hm, hmm, hx, hel⟩
  · simp at hcs
    exact ⟨none, 0, 0, hcs, by omega, by omega⟩
  · simp at hcs
    have hlm : l ≤ m := by rw [hmm]; split <;> omega
    refine ⟨some ad, l, c, hcs, ?_, fun h0 => ?_⟩
    · have h1 := hw _ (by rw [hx]; simp only [DataW.weights, ht]; exact List.mem_cons_self ..)
      simp only [List.length_map, List.length_range] at h1
      have h2 : l * 1 ≤ (l + (m - l)) * Try.prog.bytesOf e := Nat.mul_le_mul (by omega) hb
      have h3 : reachBytes = 140737488351232 := rfl
      omega
    · have each : ∀ i, i < l → ∃ cs : List Value, cs.length = Try.prog.cellsOf e ∧ (∀ j, j < Try.prog.cellsOf e → w.cell? (ad.add (i * Try.prog.cellsOf e + j)) = cs[j]?) ∧ DataW.trod enc Try.prog w base spare true k e cs = some (D i, Pl i) := by
        intro i hi
        obtain ⟨cs', h1, h2⟩ := hel i (by omega)
        obtain ⟨_, hlen, hcl⟩ := World.cells?_some h1
        refine ⟨cs', hlen, fun j hj => ?_, h2⟩
        rw [← Go.Deep.add_add, hcl j hj]

      have hpl : ad.spot = none ∧ ad.block < w.heap.size := by
        obtain ⟨cs, q1, q2, _⟩ := each 0 h0
        have q := q2 0 (by omega)
        rw [Nat.zero_mul, Nat.zero_add] at q
        obtain ⟨y, hy⟩ : ∃ y, cs[0]? = some y := ⟨cs[0], by simp⟩
        exact plain_of (q.trans hy)
      obtain ⟨b, off, sp⟩ := ad
      simp only at hpl
      obtain ⟨rfl, hblt⟩ := hpl
      refine ⟨b, off, rfl, hblt, fun i hi => ?_⟩
      obtain ⟨cs, q1, q2, q3⟩ := each i hi
      refine ⟨cs, D i, Pl i, k, q1, fun j hj => ?_, q3, fun q hq => hw q ?_⟩
      · have := q2 j hj
        rw [vadd] at this
        rw [Nat.add_assoc]
        exact this
      · rw [hx]
        simp only [DataW.weights, ht]
        refine List.mem_cons_of_mem _ (List.mem_append_left _ ?_)
        have key : ∀ (ds : List (DataW H)) (d : DataW H), d ∈ ds → q ∈ d.weights Try.prog e → q ∈ DataW.weightsAll Try.prog e ds := by
          intro ds
          induction ds with
          | nil => intro d hd; cases hd
          | cons d0 ds ih =>
            intro d hd hq
            simp only [DataW.weightsAll, List.mem_append]
            rcases List.mem_cons.1 hd with rfl | hd
            · exact .inl hq
            · exact .inr (ih d hd hq)
        exact key _ (D i) (List.mem_map.2 ⟨i, List.mem_range.2 hi, rfl⟩) hq

theorem cellsD : (Try.prog.cellsOf 5, Try.prog.cellsOf 23, Try.prog.cellsOf 58, Try.prog.cellsOf 35) = (1, 1, 2, 1) := by kernel_rfl
theorem bytesD : (Try.prog.bytesOf 5, Try.prog.bytesOf 58, Try.prog.bytesOf 35) = (1, 32, 24) := by kernel_rfl

theorem open_bysn {H : Type} {enc : TypeId × Value → H} {w : World} {base n : Nat} {spare : Nat → Bool} {v : Value} {x : DataW H × List MemPlace} (h : DataW.trod enc Try.prog w base spare true n 23 [v] = some x) (hw : ∀ m ∈ x.1.weights Try.prog 23, m ≤ reachBytes) : ∃ ps, BysN w v ps ∧ ps.length ≤ 140737488351232 := by
  have hc := cellsD
  have hb := bytesD
  simp only [Prod.mk.injEq] at hc hb
  obtain ⟨a, l, c, rfl, hl, hx⟩ := row_open Try.underlying23 (by omega) (by omega) h hw
  rw [hc.1] at hx
  by_cases h0 : 0 < l
  · obtain ⟨b, off, rfl, hblt, hel⟩ := hx h0
    obtain ⟨ps, hpl, hps⟩ := list_of (0 : Int) (P := fun i y => w.cell? ⟨b, off + i, none⟩ = some (.int .u8 y) ∧ 0 ≤ y ∧ y < 256) l (fun i hi => by
      obtain ⟨cs, d, pl, k, q1, q2, q3, _⟩ := hel i hi
      obtain ⟨z, ez, _, hz⟩ := DataW.trod_int Try.underlying5 q3
      have q := q2 0 (by omega)
      rw [ez, Nat.mul_one, Nat.add_zero] at q
      exact ⟨z, q, wf_by hz⟩)
    refine ⟨ps, ⟨fun y hy => ?_, by omega, some ⟨b, off, none⟩, c, by rw [hpl], fun _ => ⟨b, off, rfl, hblt, fun i hi => (hps i (by omega)).1⟩⟩, by omega⟩
    obtain ⟨i, hi, rfl⟩ := List.getElem_of_mem hy
    have := (hps i (by omega)).2
    simpa [List.getD, hi] using this
  · obtain rfl : l = 0 := by omega
    exact ⟨[], ⟨by simp, by simp, a, c, rfl, by simp⟩, by simp⟩

theorem open_deed {H : Type} {enc : TypeId × Value → H} {w : World} {base n : Nat} {spare : Nat → Bool} {v0 v1 : Value} {x : DataW H × List MemPlace} (h : DataW.trod enc Try.prog w base spare true n 58 [v0, v1] = some x) (hw : ∀ m ∈ x.1.weights Try.prog 58, m ≤ reachBytes) :
    ∃ ps r, BysN w v0 ps ∧ ps.length ≤ 140737488351232 ∧ v1 = .int .u8 r ∧ 0 ≤ r ∧ r < 256 := by
  have hc := cellsD
  simp only [Prod.mk.injEq] at hc
  obtain ⟨xs, k, hk, hxy, _, hxl, hf⟩ := DataW.trod_struct Try.underlying58 h
  match xs, hxl with
  | [y0, y1], _ =>
    have g0 := hf 0 _ rfl
    have g1 := hf 1 _ rfl
    simp [hc.1, hc.2.1] at g0 g1
    have hww : ∀ m ∈ DataW.weightsEach Try.prog [23, 5] [y0.1, y1.1], m ≤ reachBytes := fun m hm => hw m (by
      rw [hxy]
      simp only [DataW.weights, Try.underlying58]
      exact hm)
    obtain ⟨ps, hps, hl⟩ := open_bysn g0 (fun m hm => hww m (DataW.weights_mem_each (j := 0) (t := 23) (d := y0.1) rfl rfl m hm))
    obtain ⟨z, ez, _, hz⟩ := DataW.trod_int Try.underlying5 g1
    simp only [List.cons.injEq, and_true] at ez
    exact ⟨ps, z, hps, hl, ez, wf_by hz⟩

theorem open_deeds15 {H : Type} {enc : TypeId × Value → H} {w : World} {base n : Nat} {spare : Nat → Bool} {v : Value} {x : DataW H × List MemPlace} (h : DataW.trod enc Try.prog w base spare true n 35 [v] = some x) (hw : ∀ m ∈ x.1.weights Try.prog 35, m ≤ reachBytes) :
    ∃ l, DeedsAt w v l ∧ l.length ≤ 140737488351232 ∧ ∀ k, (l.getD k d0).2.1.length ≤ 140737488351232 := by
  have hc := cellsD
  have hb := bytesD
  simp only [Prod.mk.injEq] at hc hb
  obtain ⟨a, l, c, rfl, hl, hx⟩ := row_open Try.underlying35 (by omega) (by omega) h hw
  rw [hc.2.2.1] at hx
  by_cases h0 : 0 < l
  · obtain ⟨b, off, rfl, hblt, hel⟩ := hx h0
    obtain ⟨ls, hll, hls⟩ := list_of d0 (P := fun j y => w.cell? ⟨b, off + j * 2, none⟩ = some y.1 ∧ w.cell? ⟨b, off + j * 2 + 1, none⟩ = some (.int .u8 y.2.2) ∧ BysN w y.1 y.2.1 ∧ 0 ≤ y.2.2 ∧ y.2.2 < 256 ∧ y.2.1.length ≤ 140737488351232) l (fun j hj => by
      obtain ⟨cs, d, pl, k, q1, q2, q3, q4⟩ := hel j hj
      match cs, q1 with
      | [v0, v1], _ =>
        obtain ⟨ps, r, g1, g2, rfl, g4, g5⟩ := open_deed q3 q4
        exact ⟨(v0, ps, r), q2 0 (by omega), q2 1 (by omega), g1, g4, g5, g2⟩)
    refine ⟨ls, ⟨by omega, some ⟨b, off, none⟩, c, by rw [hll], fun _ => ⟨b, off, rfl, hblt, fun j hj => ?_⟩⟩, by omega, fun k => ?_⟩
    · obtain ⟨g1, g2, g3, g4, g5, _⟩ := hls j (by omega)
      exact ⟨g1, g2, g3, g4, g5⟩
    · by_cases hk : k < l
      · exact (hls k hk).2.2.2.2.2
      · rw [List.getD_eq_getElem?_getD, List.getElem?_eq_none (by omega)]
        simp [d0]
  · obtain rfl : l = 0 := by omega
    exact ⟨[], ⟨by simp, a, c, rfl, by simp⟩, by simp, by simp [d0]⟩

/-- tasks that came in -/
def TasksAt (w : World) (v : Value) (ds : List (Value × List (Value × List Int × Int))) : Prop :=
  ds.length ≤ 140737488351232 ∧ ∃ a cap, v = .slice a ds.length cap ∧ (0 < ds.length → ∃ b off, a = some ⟨b, off, none⟩ ∧ b < w.heap.size ∧ ∀ i, i < ds.length → w.cell? ⟨b, off + i, none⟩ = some (ds.getD i dz).1 ∧ DeedsAt w (ds.getD i dz).1 (ds.getD i dz).2 ∧ (ds.getD i dz).2.length ≤ 140737488351232 ∧ ∀ k, ((ds.getD i dz).2.getD k d0).2.1.length ≤ 140737488351232)
theorem TasksAt.keep {w w' : World} {v : Value} {ds : List (Value × List (Value × List Int × Int))} (h : TasksAt w v ds) (k : Kp w w') : TasksAt w' v ds := by
  obtain ⟨h1, a, cap, rfl, h3⟩ := h
  refine ⟨h1, a, cap, rfl, fun hp => ?_⟩
  obtain ⟨b, off, rfl, hb, hc⟩ := h3 hp
  refine ⟨b, off, rfl, by have := k.size; omega, fun j hj => ?_⟩
  obtain ⟨c1, c2, c3, c4⟩ := hc j hj
  exact ⟨(Below.cell k (p := ⟨b, off + j, none⟩) hb).trans c1, c2.keep k, c3, c4⟩
theorem open_tasks {H : Type} {enc : TypeId × Value → H} {w : World} {base n : Nat} {spare : Nat → Bool} {a : Option Addr} {len cap : Nat} {x : DataW H × List MemPlace} (h : DataW.trod enc Try.prog w base spare true n 22 [.slice a len cap] = some x) (hw : ∀ m ∈ x.1.weights Try.prog 22, m ≤ reachBytes) :
    ∃ ds, TasksAt w (.slice a len cap) ds := by
  have hc := cellsD
  have hb := bytesD
  simp only [Prod.mk.injEq] at hc hb
  obtain ⟨a', l, c, e, hl, hx⟩ := row_open Try.underlying22 (by omega) (by omega) h hw
  cases e
  rw [hc.2.2.2] at hx
  by_cases h0 : 0 < len
  · obtain ⟨b, off, rfl, hblt, hel⟩ := hx h0
    obtain ⟨ls, hll, hls⟩ := list_of dz (P := fun i y => w.cell? ⟨b, off + i, none⟩ = some y.1 ∧ DeedsAt w y.1 y.2 ∧ y.2.length ≤ 140737488351232 ∧ ∀ k, (y.2.getD k d0).2.1.length ≤ 140737488351232) len (fun j hj => by
      obtain ⟨cs, d, pl, k, q1, q2, q3, q4⟩ := hel j hj
      match cs, q1 with
      | [v0], _ =>
        obtain ⟨l, g1, g2, g3⟩ := open_deeds15 q3 q4
        have q := q2 0 (by omega)
        rw [Nat.mul_one, Nat.add_zero] at q
        exact ⟨(v0, l), q, g1, g2, g3⟩)
    exact ⟨ls, by omega, some ⟨b, off, none⟩, cap, by rw [hll], fun _ => ⟨b, off, rfl, hblt, fun j hj => hls j (by omega)⟩⟩
  · obtain rfl : len = 0 := by omega
    exact ⟨[], by simp, a, cap, rfl, by simp⟩

end Go.Proofs.Ytenbmfhhmbfgoaa
