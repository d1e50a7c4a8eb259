
/- Rows of bools. -/
import Derived.Test.YtefohemihiiceaaHokA
namespace Go.Proofs.Ytefohemihiiceaa
open Go.RowKit

/-- block B holds the bools bs -/
def BlkB (w : World) (B : Nat) (bs : List Bool) : Prop := w.heap[B]? = some (.cells (bs.map Value.bool).toArray 4)
theorem BlkB.lt {w : World} {B : Nat} {bs : List Bool} (h : BlkB w B bs) : B < w.heap.size := by
  unfold BlkB at h
  exact (Array.getElem?_eq_some_iff.1 h).1
theorem BlkB.cell {w : World} {B : Nat} {bs : List Bool} (h : BlkB w B bs) {i : Nat} (hi : i < bs.length) : w.cell? ⟨B, i, none⟩ = some (.bool (bs.getD i false)) := by
  unfold BlkB at h
  simp [World.cell?, h, hi]
theorem BlkB.frozen {w : World} {B : Nat} {bs : List Bool} (h : BlkB w B bs) (i : Nat) : w.frozen? ⟨B, i, none⟩ = false := by
  unfold BlkB at h
  simp [World.frozen?, h]
theorem BlkB.set {w : World} {B : Nat} {bs : List Bool} (h : BlkB w B bs) (i : Nat) (x : Bool) : BlkB (w.setCell ⟨B, i, none⟩ (.bool x)) B (bs.set i x) := by
  unfold BlkB at h ⊢
  simp [World.setCell, Array.getElem?_modify, h, List.map_set]
theorem BlkB.keep {w w' : World} {B : Nat} {bs : List Bool} (h : BlkB w B bs) (k : Kp w w') : BlkB w' B bs := by
  unfold BlkB
  rw [k.block B h.lt]
  exact h
theorem BlkB.made (w : World) (n : Nat) : BlkB (w.alloc (.cells (madeCells #[.bool false] n) 4)) w.heap.size (List.replicate n false) := by
  unfold BlkB
  simp only [World.alloc, Array.getElem?_push_size]
  congr 2
  apply Array.ext
  · simp [madeCells]
  · intro i h1 h2
    simp [madeCells, Nat.mod_one]
theorem infoB : (Try.prog.info? 4).map (fun i => (i.zero, i.size, i.bytes)) = some (some (.bool false), 1, 1) := by kernel_rfl
theorem mk_bools (n : Nat) (hn : n * 8 ≤ 140737488351232) (w : World) :
    (Instr.makeSlice 28 (.int .i64 n) (.int .i64 n)).run Try.prog w = .ok (.slice (some ⟨w.heap.size, 0, none⟩) n n) (w.alloc (.cells (madeCells #[.bool false] n) 4)) := by
  obtain ⟨i0, hi, hz0, hz1, hz2⟩ := info_parts infoB
  have h := run_make (P := Try.prog) w 28 4 i0 (.bool false) Try.underlying28 hi hz0 .i64 .i64 n n (by omega) (by omega) (by rw [hz2]; omega) (by omega)
  rw [hz1] at h
  simpa [Value.cells] using h

end Go.Proofs.Ytefohemihiiceaa
