
/- What From says; rows of bools that are handed out. -/
import Derived.Test.YtefohemihiiceaaRchJ
namespace Go.Proofs.Ytefohemihiiceaa
open Go.RowKit Go.Shelf

/-- what From says -/
def FromP (ns : List Nd) (root : Int) : Prop := SoundN ns ∧ 0 ≤ root ∧ root < (ns.length : Int)
def FromR (ns : List Nd) (root : Int) (bs : List Bool) : Prop := (¬ FromP ns root ∧ bs = []) ∨ (FromP ns root ∧ bs = fromL (innF ns) ns.length root.toNat)
/-- a row of bools that was handed out -/
def FreshB (w w' : World) (a : Option Addr) (bs : List Bool) : Prop := (bs = [] ∧ a = none) ∨ (0 < bs.length ∧ ∃ B, a = some ⟨B, 0, none⟩ ∧ w.heap.size ≤ B ∧ BlkB w' B bs)
def RetF (w : World) (ns : List Nd) (root : Int) (e : Ending) (w' : World) : Prop := ∃ (bs : List Bool) (a : Option Addr), e = .returned (.slice a bs.length bs.length) ∧ FromR ns root bs ∧ FreshB w w' a bs
theorem retF_none {w w' : World} {ns : List Nd} {root : Int} {v : Value} (h : ¬ FromP ns root) (hv : v = .slice none 0 0) : RetF w ns root (.returned v) w' := ⟨[], none, by rw [hv]; rfl, .inl ⟨h, rfl⟩, .inl ⟨rfl, rfl⟩⟩
theorem retF_some {w w' : World} {ns : List Nd} {r n B : Nat} {v : Value} {bs : List Bool} (h : FromP ns (r : Int)) (hv : v = .slice (some ⟨B, 0, none⟩) n n) (hn : n = ns.length) (hb : bs = fromL (innF ns) ns.length r) (hB : w.heap.size ≤ B) (hk : BlkB w' B bs) : RetF w ns (r : Int) (.returned v) w' := by
  have hl : bs.length = n := by rw [hb, fromL_length, hn]
  refine ⟨bs, some ⟨B, 0, none⟩, by rw [hv, hl], .inr ⟨h, ?_⟩, .inr ⟨?_, B, rfl, hB, hk⟩⟩
  · rw [hb]; simp
  · rw [hl, hn]; have := h.2.1; have := h.2.2; omega

theorem lt_of_cell {w : World} {p : Addr} {v : Value} (h : w.cell? p = some v) : p.block < w.heap.size := by
  unfold World.cell? at h
  split at h
  · rename_i c t f hh
    exact (Array.getElem?_eq_some_iff.1 hh).1
  · cases h
theorem cell_ne {w : World} {B B' i j : Nat} {v : Value} (u : Value) (hne : B' ≠ B) (h : w.cell? ⟨B', j, none⟩ = some v) : (w.setCell ⟨B, i, none⟩ u).cell? ⟨B', j, none⟩ = some v :=
  (World.cell?_of_block (w := w) (Below.heap_setCell w ⟨B, i, none⟩ u B' hne)).trans h

theorem made_set (w : World) (n r : Nat) : BlkB (w.alloc (.cells ((madeCells #[.bool false] n).setIfInBounds r (.bool true)) 4)) w.heap.size (rootL n r) := by
  have h := BlkB.made w n
  unfold BlkB at h ⊢
  simp only [World.alloc, Array.getElem?_push_size] at h ⊢
  injection h with h
  injection h with h
  rw [h]
  apply congrArg some
  apply congrArg (fun x => Obj.cells x _)
  apply Array.ext'
  simp [rootL, List.map_set]

end Go.Proofs.Ytefohemihiiceaa
