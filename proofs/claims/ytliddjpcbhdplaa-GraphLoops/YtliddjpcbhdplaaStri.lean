
/- Contracts of the functions that tell strides: the program's and the document's. -/
import Derived.Test.YtliddjpcbhdplaaProg
import Derived.Test.YtliddjpcbhdplaaShapeA
import Derived.Test.YtliddjpcbhdplaaRefA
namespace Go.Proofs.Ytliddjpcbhdplaa
open Go.RowKit

theorem Try.infoInt : (Try.prog.info? 3).map (fun i => (i.zero, i.size, i.bytes)) = some (some (.int .i64 0), 1, 8) := by kernel_rfl

theorem mk_ints (n : Nat) (hn : n * 8 ≤ 140737488351232) (w : World) :
    (Instr.makeSlice 35 (.int .i64 n) (.int .i64 n)).run Try.prog w = .ok (.slice (some ⟨w.heap.size, 0, none⟩) n n) (w.alloc (.cells (madeCells #[.int .i64 0] n) 3)) := by
  obtain ⟨i0, hi, hz0, hz1, hz2⟩ := info_parts Try.infoInt
  have h := run_make (P := Try.prog) w 35 3 i0 (.int .i64 0) Try.underlying35 hi hz0 .i64 .i64 n n (by omega) (by omega) (by rw [hz2]; omega) (by omega)
  rw [hz1] at h
  simpa [Value.cells] using h

theorem sufs_wf {xs : List Int} (h : mayB xs = true) : ∀ x ∈ sufs xs, 1 ≤ x ∧ x ≤ 4096 := by
  intro x hx
  obtain ⟨k, hk, rfl⟩ := List.mem_iff_getElem.1 hx
  rw [sufs_length] at hk
  have e := sufs_getD xs k hk
  rw [getD_at (by rw [sufs_length]; exact hk)] at e
  rw [e]
  have hg := (may_good h).2
  have h1 := prodL_pos (hg.drop (k + 1))
  have h2 := prodL_drop_le hg (k + 1)
  have h3 := may_prod h
  omega

theorem strN_yes {xs : List Int} (h : mayB xs = true) : strN xs = sufs xs := if_pos h
theorem strN_no {xs : List Int} (h : mayB xs = false) : strN xs = [] := if_neg (by rw [h]; simp)

theorem strides_step {xs : List Int} {k : Nat} (hk : k < xs.length) : (List.replicate (k + 1) 0 ++ sufs (xs.drop (k + 1))).set k (prodL (xs.drop (k + 1))) = List.replicate k 0 ++ sufs (xs.drop k) := by
  rw [fill_down, drop_cons hk]
  rfl

end Go.Proofs.Ytliddjpcbhdplaa
