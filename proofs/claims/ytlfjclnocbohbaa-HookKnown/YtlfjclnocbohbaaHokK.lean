
/- What the law HookKnown calls: a row's tensor, minus nought, hooks that are made. -/
import Derived.Test.YtlfjclnocbohbaaLawHA
namespace Go.Proofs.Ytlfjclnocbohbaa
open Go.RowKit

theorem infoHok9 : (Try.prog.info? 52).map (fun i => (i.zero, i.size, i.bytes)) = some (some (.agg #[.int .i64 0, .float .f64 0]), 2, 16) := by kernel_rfl

set_option maxHeartbeats 400000 in
theorem of9_any (p : Option Addr) (q r : Nat) (w : World) (hq : q ≤ 1000) :
    Calls Try.prog 18 #[.slice p q r] w fun e w' => ∃ L, e = .returned (.agg #[.slice (some ⟨L, 0, none⟩) 1 1, .slice p q r]) ∧ Ints w' (.slice (some ⟨L, 0, none⟩) 1 1) [(q : Int)] ∧ Kp w w' := by
  go_enter Try.func18, Try.ntmps18
  go_upto_region 1 with fail
  obtain ⟨W, hW, x2, k0⟩ := box_in w (.slice none 0 0) (.slice none 0 0)
  rw [← hW]
  clear hW
  generalize hR : w.heap.size = R at x2 ⊢
  have hRS : w.heap.size ≤ R := by omega
  have hl := lit_ints W 3 [(q : Int)] #[.int .i64 (q : Int)] W.heap.size 1 rfl rfl rfl (by intro x hx; rw [List.mem_singleton.1 hx]; unfold I64; omega) (by decide)
  have ka := Kp.alloc W (.cells #[.int .i64 (q : Int)] 3)
  have xa := x2.keep ka
  have x3 := xa.set (.slice (some ⟨W.heap.size, 0, none⟩) 1 1) (.slice p q r)
  have HI := hide (hl.setBx9 xa (.slice (some ⟨W.heap.size, 0, none⟩) 1 1) (.slice p q r))
  have KF := hide (((k0.trans ka).set hRS (i := 0) (.slice (some ⟨W.heap.size, 0, none⟩) 1 1)).set hRS (i := 1) (.slice p q r))
  obtain ⟨z0, z1, -, -, -⟩ := x3.o
  obtain ⟨d0, d1, d2, d3, -⟩ := x2.o
  obtain ⟨e0, e1, e2, e3, -⟩ := xa.o
  clear x2 x3 xa hl ka k0 hR
  go_wp2
  generalize (((W.alloc (.cells #[.int .i64 (q : Int)] 3)).setCell ⟨R, 0, none⟩ (.slice (some ⟨W.heap.size, 0, none⟩) 1 1)).setCell ⟨R, 1, none⟩ (.slice p q r)) = w9 at *
  refine bodyPost_ret (v := .agg #[.slice (some ⟨W.heap.size, 0, none⟩) 1 1, .slice p q r]) (by simp [results, Try.results18, go_sem, z0, z1]) rfl ⟨_, rfl, unhide HI, unhide KF⟩

set_option maxHeartbeats 400000 in
theorem copysign9 (w : World) : Calls Try.prog 19 #[.float .f64 0, .float .f64 13830554455654793216] w fun e w' => e = .returned (.float .f64 9223372036854775808) ∧ Kp w w' := by
  have h0 := bits_run 0
  have h1 := bits_run 13830554455654793216
  have h2 := frombits_run 9223372036854775808
  have q1 : bits .andNot .u64 0 9223372036854775808 = 0 := by decide +kernel
  have q2 : bits .and .u64 13830554455654793216 9223372036854775808 = 9223372036854775808 := by decide +kernel
  have q3 : bits .or .u64 0 9223372036854775808 = 9223372036854775808 := by decide +kernel
  go_enter Try.func19, Try.ntmps19
  go_wp2
  go_ret
  exact ⟨rfl, Kp.refl _⟩

/-- block B holds these cells -/
def Rw (w : World) (B : Nat) (c : Array Value) (t : TypeId) : Prop := w.heap[B]? = some (.cells c t)
theorem Rw.madeAt (w : World) (c : Array Value) (t : TypeId) (B : Nat) (hB : B = w.heap.size) : Rw (w.alloc (.cells c t)) B c t := by
  subst hB
  unfold Rw
  simp only [World.alloc, Array.getElem?_push_size]
theorem Rw.keep {w w' : World} {B : Nat} {c : Array Value} {t : TypeId} (h : Rw w B c t) (k : Kp w w') : Rw w' B c t := by
  unfold Rw
  rw [k.block B (Array.getElem?_eq_some_iff.1 h).1]
  exact h
theorem Rw.cell {w : World} {B : Nat} {c : Array Value} {t : TypeId} (h : Rw w B c t) {k : Nat} {v : Value} (hv : c[k]? = some v) : w.cell? ⟨B, k, none⟩ = some v := by
  unfold Rw at h
  simp [World.cell?, h, hv]
/-- the cells of a box, for what is to be shown -/
theorem useBx {P : Prop} {w : World} {B : Nat} (h : Bx w B (.slice none 0 0) (.slice none 0 0)) (k : BxO w B (.slice none 0 0) (.slice none 0 0) → P) : P := k h.o
/-- hooks that are made -/
theorem mk_hook1 (w : World) : (Instr.makeSlice 39 (.int .i64 1) (.int .i64 1)).run Try.prog w = .ok (.slice (some ⟨w.heap.size, 0, none⟩) 1 1) (w.alloc (.cells #[.int .i64 0, .float .f64 0] 52)) := by
  obtain ⟨i0, hi, hz0, hz1, hz2⟩ := info_parts infoHok9
  have h := run_make (P := Try.prog) w 39 52 i0 (.agg #[.int .i64 0, .float .f64 0]) Try.underlying39 hi hz0 .i64 .i64 1 1 (by omega) (by omega) (by rw [hz2]; omega) (by omega)
  rw [hz1] at h
  have e : madeCells #[Value.int .i64 0, Value.float .f64 0] 2 = #[.int .i64 0, .float .f64 0] := by kernel_rfl
  rw [← e]
  simpa [Value.cells] using h
theorem mk_hook5 (w : World) : (Instr.makeSlice 39 (.int .i64 5) (.int .i64 5)).run Try.prog w = .ok (.slice (some ⟨w.heap.size, 0, none⟩) 5 5) (w.alloc (.cells #[.int .i64 0, .float .f64 0, .int .i64 0, .float .f64 0, .int .i64 0, .float .f64 0, .int .i64 0, .float .f64 0, .int .i64 0, .float .f64 0] 52)) := by
  obtain ⟨i0, hi, hz0, hz1, hz2⟩ := info_parts infoHok9
  have h := run_make (P := Try.prog) w 39 52 i0 (.agg #[.int .i64 0, .float .f64 0]) Try.underlying39 hi hz0 .i64 .i64 5 5 (by omega) (by omega) (by rw [hz2]; omega) (by omega)
  rw [hz1] at h
  have e : madeCells #[Value.int .i64 0, Value.float .f64 0] 10 = #[.int .i64 0, .float .f64 0, .int .i64 0, .float .f64 0, .int .i64 0, .float .f64 0, .int .i64 0, .float .f64 0, .int .i64 0, .float .f64 0] := by kernel_rfl
  rw [← e]
  simpa [Value.cells] using h

end Go.Proofs.Ytlfjclnocbohbaa
