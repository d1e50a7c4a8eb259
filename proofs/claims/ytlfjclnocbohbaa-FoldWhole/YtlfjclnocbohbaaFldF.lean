
/- Slots: how they lie in memory; the contract of New. -/
import Derived.Test.YtlfjclnocbohbaaFldE
import Derived.Deep.RegionWith
namespace Go.Proofs.Ytlfjclnocbohbaa
open Go.RowKit

/-- block C holds slices alone -/
def AllSl (w : World) (C : Nat) : Prop := ∃ (cs : Array Value) (e : TypeId), w.heap[C]? = some (.cells cs e) ∧ ∀ (i : Nat) (v : Value), cs[i]? = some v → ∃ a n c, v = .slice a n c
theorem AllSl.lt {w : World} {C : Nat} (h : AllSl w C) : C < w.heap.size := by
  obtain ⟨cs, e, h, _⟩ := h
  exact (Array.getElem?_eq_some_iff.1 h).1
theorem AllSl.cell {w : World} {C i : Nat} {v : Value} (h : AllSl w C) (hc : w.cell? ⟨C, i, none⟩ = some v) : ∃ a n c, v = .slice a n c := by
  obtain ⟨cs, e, h, hs⟩ := h
  simp only [World.cell?, h] at hc
  exact hs i v (by simpa using hc)
theorem AllSl.keep {w w' : World} {C : Nat} (h : AllSl w C) (k : Kp w w') : AllSl w' C := by
  have hl := h.lt
  obtain ⟨cs, e, h, hs⟩ := h
  exact ⟨cs, e, (k.block C hl).trans h, hs⟩
theorem Ints.keepS {w w' : World} {C : Nat} {v : Value} {xs : List Int} (h : Ints w v xs) (hc : AllSl w C) (k : Kx C w w') : Ints w' v xs := by
  obtain ⟨h1, h2, h0, a, cap, rfl, h3⟩ := h
  refine ⟨h1, h2, h0, a, cap, rfl, fun hp => ?_⟩
  obtain ⟨b, off, rfl, hb, hcl⟩ := h3 hp
  have hne : b ≠ C := by
    rintro rfl
    obtain ⟨_, _, _, e⟩ := hc.cell (hcl 0 hp)
    cases e
  exact ⟨b, off, rfl, by have := k.size; omega, fun i hi => (k.cell (p := ⟨b, off + i, none⟩) hb hne).trans (hcl i hi)⟩
theorem Flts.keepS {w w' : World} {C : Nat} {v : Value} {xs : List Nat} (h : Flts w v xs) (hc : AllSl w C) (k : Kx C w w') : Flts w' v xs := by
  obtain ⟨h1, h2, h0, a, cap, rfl, h3⟩ := h
  refine ⟨h1, h2, h0, a, cap, rfl, fun hp => ?_⟩
  obtain ⟨b, off, rfl, hb, hcl⟩ := h3 hp
  have hne : b ≠ C := by
    rintro rfl
    obtain ⟨_, _, _, e⟩ := hc.cell (hcl 0 hp)
    cases e
  exact ⟨b, off, rfl, by have := k.size; omega, fun i hi => (k.cell (p := ⟨b, off + i, none⟩) hb hne).trans (hcl i hi)⟩
theorem TenAt.keepS {w w' : World} {b o C : Nat} {t : Tn} (h : TenAt w b o t) (hb : b < w.heap.size) (hne : b ≠ C) (hc : AllSl w C) (k : Kx C w w') : TenAt w' b o t := by
  obtain ⟨p, c, p', c', h1, h2, h3, h4⟩ := h
  exact ⟨p, c, p', c', (k.cell (p := ⟨b, o, none⟩) hb hne).trans h1, (k.cell (p := ⟨b, o + 1, none⟩) hb hne).trans h2, h3.keepS hc k, h4.keepS hc k⟩

/-- the slots behind a pointer: their shape, and what each has (none: nothing) -/
structure Slots (w : World) (B C m : Nat) (s : List Int) (ts : List Tn) : Prop where
  len : ts.length = m
  max : m ≤ 1024
  may : mayB s = true
  bx : ∃ a c, w.heap[B]? = some (.cells #[.slice a s.length c, .slice (some ⟨C, 0, none⟩) m m] 83) ∧ Ints w (.slice a s.length c) s
  blk : ∃ cs : Array Value, w.heap[C]? = some (.cells cs 31) ∧ cs.size = m * 2 ∧ ∀ (i : Nat) (v : Value), cs[i]? = some v → ∃ a n c, v = .slice a n c
  each : ∀ i, i < m → TenAt w C (i * 2) (ts.getD i tnil)

theorem Slots.all {w : World} {B C m : Nat} {s : List Int} {ts : List Tn} (h : Slots w B C m s ts) : AllSl w C := by
  obtain ⟨cs, h1, _, h2⟩ := h.blk
  exact ⟨cs, _, h1, h2⟩
theorem Slots.ltC {w : World} {B C m : Nat} {s : List Int} {ts : List Tn} (h : Slots w B C m s ts) : C < w.heap.size := h.all.lt
theorem Slots.ltB {w : World} {B C m : Nat} {s : List Int} {ts : List Tn} (h : Slots w B C m s ts) : B < w.heap.size := by
  obtain ⟨a, c, h1, _⟩ := h.bx
  exact (Array.getElem?_eq_some_iff.1 h1).1
theorem Slots.ne {w : World} {B C m : Nat} {s : List Int} {ts : List Tn} (h : Slots w B C m s ts) : ¬ B = C := by
  obtain ⟨a, c, h1, _⟩ := h.bx
  obtain ⟨cs, h2, _⟩ := h.blk
  rintro rfl
  rw [h1] at h2
  injection h2 with e2
  injection e2 with _ e3
  revert e3
  decide
theorem Slots.keep {w w' : World} {B C m : Nat} {s : List Int} {ts : List Tn} (h : Slots w B C m s ts) (k : Kp w w') : Slots w' B C m s ts := by
  have hb := h.ltB
  have hc := h.ltC
  obtain ⟨h1, h2, h3, ⟨a, c, h4, h5⟩, ⟨cs, h6, h7, h8⟩, h9⟩ := h
  exact ⟨h1, h2, h3, ⟨a, c, (k.block B hb).trans h4, h5.keep k⟩, ⟨cs, (k.block C hc).trans h6, h7, h8⟩, fun i hi => (h9 i hi).keep hc k⟩
theorem Slots.keepS {w w' : World} {B C D m : Nat} {s : List Int} {ts : List Tn} (h : Slots w B C m s ts) (hd : AllSl w D) (n1 : ¬ B = D) (n2 : ¬ C = D) (k : Kx D w w') : Slots w' B C m s ts := by
  have hb := h.ltB
  have hc := h.ltC
  obtain ⟨h1, h2, h3, ⟨a, c, h4, h5⟩, ⟨cs, h6, h7, h8⟩, h9⟩ := h
  exact ⟨h1, h2, h3, ⟨a, c, (k.block B hb (fun e => n1 (by cases e; rfl))).trans h4, h5.keepS hd k⟩, ⟨cs, (k.block C hc (fun e => n2 (by cases e; rfl))).trans h6, h7, h8⟩, fun i hi => (h9 i hi).keepS hc n2 hd k⟩
theorem Slots.tens {w : World} {B C m : Nat} {s : List Int} {ts : List Tn} (h : Slots w B C m s ts) : Tens w (.slice (some ⟨C, 0, none⟩) m m) ts := by
  have hc := h.ltC
  obtain ⟨h1, h2, h3, _, _, h9⟩ := h
  refine ⟨by omega, some ⟨C, 0, none⟩, m, by rw [h1], fun _ => ⟨C, 0, rfl, hc, fun i hi => ?_⟩⟩
  rw [Nat.zero_add]
  exact h9 i (by omega)
/-- what a walk wants to know of the pointer's cells -/
theorem Slots.o {w : World} {B C m : Nat} {s : List Int} {ts : List Tn} (h : Slots w B C m s ts) : ∃ a c, w.cell? ⟨B, 0, none⟩ = some (.slice a s.length c) ∧ w.cell? ⟨B, 1, none⟩ = some (.slice (some ⟨C, 0, none⟩) m m) ∧ Ints w (.slice a s.length c) s := by
  obtain ⟨a, c, h1, h2⟩ := h.bx
  exact ⟨a, c, by simp [World.cell?, h1], by simp [World.cell?, h1], h2⟩

/-- a tensor laid into a slot -/
theorem Slots.set {w : World} {B C m : Nat} {s : List Int} {ts : List Tn} (h : Slots w B C m s ts) {k : Nat} (hk : k < m) {t : Tn} {p p' : Option Addr} {c c' : Nat} (h1 : Ints w (.slice p t.s.length c) t.s) (h2 : Flts w (.slice p' t.d.length c') t.d) :
    Slots ((w.setCell ⟨C, k * 2, none⟩ (.slice p t.s.length c)).setCell ⟨C, k * 2 + 1, none⟩ (.slice p' t.d.length c')) B C m s (ts.set k t) ∧ Kx C w ((w.setCell ⟨C, k * 2, none⟩ (.slice p t.s.length c)).setCell ⟨C, k * 2 + 1, none⟩ (.slice p' t.d.length c')) := by
  have kx : Kx C w ((w.setCell ⟨C, k * 2, none⟩ (.slice p t.s.length c)).setCell ⟨C, k * 2 + 1, none⟩ (.slice p' t.d.length c')) := ((Kx.refl C w).set _ _).set _ _
  have hall := h.all
  have hb := h.ltB
  have hc := h.ltC
  have hne := h.ne
  refine ⟨?_, kx⟩
  obtain ⟨g1, g2, g3, ⟨a, c0, g4, g5⟩, ⟨cs, g6, g7, g8⟩, g9⟩ := h
  have hblk : ((w.setCell ⟨C, k * 2, none⟩ (.slice p t.s.length c)).setCell ⟨C, k * 2 + 1, none⟩ (.slice p' t.d.length c')).heap[C]? = some (.cells ((cs.setIfInBounds (k * 2) (.slice p t.s.length c)).setIfInBounds (k * 2 + 1) (.slice p' t.d.length c')) 31) := by
    simp [World.setCell, Array.getElem?_modify, g6]
  generalize ((w.setCell ⟨C, k * 2, none⟩ (.slice p t.s.length c)).setCell ⟨C, k * 2 + 1, none⟩ (.slice p' t.d.length c')) = w' at *
  have hcell : ∀ i, ((cs.setIfInBounds (k * 2) (.slice p t.s.length c)).setIfInBounds (k * 2 + 1) (.slice p' t.d.length c'))[i]? = if i = k * 2 + 1 then some (.slice p' t.d.length c') else if i = k * 2 then some (.slice p t.s.length c) else cs[i]? := by
    intro i
    rw [Array.getElem?_setIfInBounds, Array.getElem?_setIfInBounds]
    by_cases e1 : i = k * 2 + 1
    · subst e1
      rw [if_pos rfl, if_pos rfl, if_pos (by simp; omega)]
    · rw [if_neg (fun e => e1 e.symm), if_neg e1]
      by_cases e2 : i = k * 2
      · subst e2
        rw [if_pos rfl, if_pos rfl, if_pos (by omega)]
      · rw [if_neg (fun e => e2 e.symm), if_neg e2]
  refine ⟨by rw [List.length_set]; exact g1, g2, g3, ⟨a, c0, (kx.block B hb (fun e => hne (by cases e; rfl))).trans g4, g5.keepS hall kx⟩, ⟨_, hblk, by simp [g7], fun i v hv => ?_⟩, fun i hi => ?_⟩
  · rw [hcell i] at hv
    by_cases e1 : i = k * 2 + 1
    · rw [if_pos e1] at hv; cases hv; exact ⟨_, _, _, rfl⟩
    · rw [if_neg e1] at hv
      by_cases e2 : i = k * 2
      · rw [if_pos e2] at hv; cases hv; exact ⟨_, _, _, rfl⟩
      · rw [if_neg e2] at hv; exact g8 i v hv
  · have hc1 : ∀ j, w'.cell? ⟨C, j, none⟩ = if j = k * 2 + 1 then some (.slice p' t.d.length c') else if j = k * 2 then some (.slice p t.s.length c) else w.cell? ⟨C, j, none⟩ := by
      intro j
      have e1 : w'.cell? ⟨C, j, none⟩ = ((cs.setIfInBounds (k * 2) (.slice p t.s.length c)).setIfInBounds (k * 2 + 1) (.slice p' t.d.length c'))[j]? := by simp [World.cell?, hblk]
      have e2 : w.cell? ⟨C, j, none⟩ = cs[j]? := by simp [World.cell?, g6]
      rw [e1, e2]
      exact hcell j
    by_cases e : i = k
    · subst e
      have : (ts.set i t).getD i tnil = t := by simp [g1, hi]
      rw [this]
      exact ⟨p, c, p', c', by rw [hc1, if_neg (by omega), if_pos rfl], by rw [hc1, if_pos rfl], h1.keepS hall kx, h2.keepS hall kx⟩
    · have : (ts.set k t).getD i tnil = ts.getD i tnil := by simp [List.getD_eq_getElem?_getD, List.getElem?_set_ne (fun e' => e e'.symm)]
      rw [this]
      obtain ⟨q, d, q', d', x1, x2, x3, x4⟩ := g9 i hi
      exact ⟨q, d, q', d', by rw [hc1, if_neg (by omega), if_neg (by omega)]; exact x1, by rw [hc1, if_neg (by omega), if_neg (by omega)]; exact x2, x3.keepS hall kx, x4.keepS hall kx⟩

theorem infoTen : (Try.prog.info? 31).map (fun i => (i.zero, i.size, i.bytes)) = some (some (.agg #[.slice none 0 0, .slice none 0 0]), 2, 48) := by kernel_rfl
theorem mk_tens (n : Nat) (hn : n ≤ 1000000) (w : World) :
    (Instr.makeSlice 26 (.int .i64 n) (.int .i64 n)).run Try.prog w = .ok (.slice (some ⟨w.heap.size, 0, none⟩) n n) (w.alloc (.cells (madeCells #[.slice none 0 0, .slice none 0 0] (n * 2)) 31)) := by
  obtain ⟨i0, hi, hz0, hz1, hz2⟩ := info_parts infoTen
  have h := run_make (P := Try.prog) w 26 31 i0 (.agg #[.slice none 0 0, .slice none 0 0]) Try.underlying26 hi hz0 .i64 .i64 n n (by omega) (by omega) (by rw [hz2]; omega) (by omega)
  rw [hz1] at h
  simpa [Value.cells] using h

end Go.Proofs.Ytlfjclnocbohbaa
