
/- Contracts of repeats: a number as often as asked. -/
import Derived.Test.YtliddjpcbhdplaaTenF
import Derived.Laws.BitsAllLaws
import Derived.Laws.CopyOwn
import Derived.Deep.RegionLaw
namespace Go.Proofs.Ytliddjpcbhdplaa
open Go.RowKit

theorem Kx.trans' {B : Nat} {a b b' c : World} (h : Kx B a b) (k : Kx B b' c) (e : b' = b.drew := by rfl) : Kx B a c := by
  subst e
  exact ⟨k.os.trans h.os, k.tape.trans h.tape, k.output.trans h.output, Nat.le_trans h.size k.size, fun i hi hne => (k.block i (Nat.lt_of_lt_of_le hi h.size) hne).trans (h.block i hi hne)⟩

theorem Try.infoFlt : (Try.prog.info? 89).map (fun i => (i.zero, i.size, i.bytes)) = some (some (.float .f64 0), 1, 8) := by kernel_rfl
theorem Try.sizeFlt : (Try.prog.info? 89).map (·.size) = some 1 := by kernel_rfl

theorem mk_flts (n : Nat) (hn : n * 8 ≤ 140737488351232) (w : World) :
    (Instr.makeSlice 36 (.int .i64 n) (.int .i64 n)).run Try.prog w = .ok (.slice (some ⟨w.heap.size, 0, none⟩) n n) (w.alloc (.cells (madeCells #[.float .f64 0] n) 89)) := by
  obtain ⟨i0, hi, hz0, hz1, hz2⟩ := info_parts Try.infoFlt
  have h := run_make (P := Try.prog) w 36 89 i0 (.float .f64 0) Try.underlying36 hi hz0 .i64 .i64 n n (by omega) (by omega) (by rw [hz2]; omega) (by omega)
  rw [hz1] at h
  simpa [Value.cells] using h

/-- k of n numbers are x, the others still nought -/
def fillN (n k x : Nat) : List Nat := List.replicate k x ++ List.replicate (n - k) 0
theorem fillN_zero (n x : Nat) : fillN n 0 x = List.replicate n 0 := by simp [fillN]
theorem fillN_all (n x : Nat) : fillN n n x = List.replicate n x := by simp [fillN]
theorem fillN_length {n k : Nat} (x : Nat) (h : k ≤ n) : (fillN n k x).length = n := by simp [fillN]; omega
theorem fillN_getD {n k x j : Nat} (h : j < k) : (fillN n k x).getD j 0 = x := by
  unfold fillN
  rw [List.getD_eq_getElem?_getD, List.getElem?_append_left (by simpa using h), List.getElem?_replicate, if_pos h]
  rfl
theorem fillN_splice {n k m : Nat} (x : Nat) (h : k + m ≤ n) : splice ((fillN n k x).map (Value.float .f64)) k ((List.replicate m x).map (Value.float .f64)) = (fillN n (k + m) x).map (Value.float .f64) := by
  have e : splice ((fillN n k x).map (Value.float .f64)) k ((List.replicate m x).map (Value.float .f64)) = ((fillN n k x).take k ++ (List.replicate m x ++ (fillN n k x).drop (k + m))).map (Value.float .f64) := by
    simp [splice]
  rw [e]
  congr 1
  unfold fillN
  rw [List.take_append_of_le_length (by simp), List.take_of_length_le (by simp), List.drop_append, List.drop_of_length_le (by simp), List.nil_append, List.length_replicate, List.drop_replicate, ← List.append_assoc, List.replicate_append_replicate]
  congr 2
  omega

/-- 'copy' of m numbers x to the place k of the row that is being filled -/
theorem copy_fill (w : World) (G n k m x dl dc sl sc : Nat) (ad : Addr) (h : BlkF w 89 G (fillN n k x)) (hm : m = Nat.min sl dl) (hle : k + m ≤ n) (hkn : k ≤ n)
    (hsrc : ∀ j, j < m → w.cell? (ad.add j) = some (.float .f64 x)) :
    ∃ W, Sem.run Try.prog (Builtin.copy_ #[36, 36] 3 #[.slice (some ⟨G, k, none⟩) dl dc, .slice (some ad) sl sc]) w = .ok (.int .i64 m) W ∧ BlkF W 89 G (fillN n (k + m) x) ∧ Kx G w W := by
  have hrun := run_copy_row (P := Try.prog) w 36 36 3 89 G k dl dc ad sl sc ((fillN n k x).map (Value.float .f64)).toArray 89 ((List.replicate m x).map (Value.float .f64)) Try.underlying36 Try.sizeFlt h (by simpa using hm)
    (by
      intro j v hj
      have hj' : j < m := by have := (List.getElem?_eq_some_iff.1 hj).1; simpa using this
      have : v = .float .f64 x := by simp [hj'] at hj; exact hj.symm
      rw [this]
      exact hsrc j hj') (by simp [fillN]; omega) (flts_oneCell _)
  refine ⟨_, by simpa [goInt] using hrun, ?_, ?_⟩
  · have := setRow_heap w G _ ((List.take k ((fillN n k x).map (Value.float .f64)).toArray.toList ++ (List.replicate m x).map (Value.float .f64) ++ List.drop (k + ((List.replicate m x).map (Value.float .f64)).length) ((fillN n k x).map (Value.float .f64)).toArray.toList).toArray) 89 _ h
    unfold BlkF
    rw [← fillN_splice x hle]
    simpa [splice] using this
  · exact ⟨rfl, rfl, rfl, by simp [World.setRow], fun i _ hne => setRow_other w G i _ (fun e => hne (by rw [e]))⟩

end Go.Proofs.Ytliddjpcbhdplaa
