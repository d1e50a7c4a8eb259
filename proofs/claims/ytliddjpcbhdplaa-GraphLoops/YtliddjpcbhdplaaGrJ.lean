
/- The shapes of two small graphs, the one that Calls the other. -/
import Derived.Test.YtliddjpcbhdplaaGrI
import Derived.Test.YtliddjpcbhdplaaGa
import Derived.LoopN
import Derived.Deep.RegionHeld3
namespace Go.Proofs.Ytliddjpcbhdplaa
open Go.RowKit

def ndLf : Nd := ⟨1, [], [], 0, [], [], []⟩
def ndCl : Nd := ⟨16, [0], [], 0, [], [], []⟩
def gsA : List (List Nd) := [[ndLf], [ndLf, ndCl]]

theorem infoR : (Try.prog.info? 35).map (fun i => (i.zero, i.size, i.bytes)) = some (some (.slice none 0 0), 1, 24) := by kernel_rfl
theorem mk_rows2 (n : Nat) (hn : n ≤ 4096) (w : World) :
    (Instr.makeSlice 23 (.int .i64 n) (.int .i64 n)).run Try.prog w = .ok (.slice (some ⟨w.heap.size, 0, none⟩) n n) (w.alloc (.cells (madeCells #[.slice none 0 0] n) 35)) := by
  obtain ⟨i0, hi, hz0, hz1, hz2⟩ := info_parts infoR
  have h := run_make (P := Try.prog) w 23 35 i0 (.slice none 0 0) Try.underlying23 hi hz0 .i64 .i64 n n (by omega) (by omega) (by rw [hz2]; omega) (by omega)
  rw [hz1] at h
  simpa [Value.cells] using h

set_option maxRecDepth 20000 in
set_option maxHeartbeats 2000000 in
theorem shape_leaf (la va : Option Addr) (lc vc : Nat) (a1 a2 a4 a5 a6 ib pb : Option Addr) (c1 c2 c4 c5 c6 il ic pl pc : Nat) (w : World) (hr : Rows2 w (.slice va 1 vc) [[2]]) :
    Calls Try.prog 39 #[.agg #[.slice la 2 lc, .slice va 1 vc], .agg #[.int .i64 1, .slice a1 0 c1, .slice a2 0 c2, .int .i64 0, .slice a4 0 c4, .slice a5 0 c5, .slice a6 0 c6], .slice ib il ic, .slice pb pl pc] w
      fun e w' => ∃ a n c, e = .returned (.tuple #[.slice a n c, .int .i64 0]) ∧ Kp w w' := by
  obtain ⟨b, off, a', c', rfl, hb, cc, hi⟩ := hr.one (Kp.refl w) (show 0 < ([[2]] : List (List Int)).length by decide)
  have HI := hide hi
  have cc' : w.cell? ⟨b, off, none⟩ = some (.slice a' 1 c') := by simpa using cc
  clear cc
  clear hi hr
  go_enter Try.func39, Try.ntmps39
  go_wp2_with fail
  refine (clone_ints _ [2] _ (((unhide HI)).keep ((Kp.alloc _ _).trans (Kp.alloc _ _))) (by decide)).mono ?_
  rintro e w1 ⟨u, rfl, ho, k1⟩
  obtain ⟨x, z, rfl⟩ := ho.form
  have K1 := hide (((Kp.alloc _ _).trans (Kp.alloc _ _)).trans k1)
  clear k1 ho
  go_wp2
  go_ret2
  exact ⟨_, _, _, rfl, unhide K1⟩

set_option maxRecDepth 20000 in
set_option maxHeartbeats 2000000 in
theorem in_none (op no : Int) (a1 a2 a4 a5 a6 bb : Option Addr) (c1 c2 c4 c5 c6 bl bc : Nat) (w : World) :
    Calls Try.prog 40 #[.agg #[.int .i64 op, .slice a1 0 c1, .slice a2 0 c2, .int .i64 no, .slice a4 0 c4, .slice a5 0 c5, .slice a6 0 c6], .slice bb bl bc] w
      fun e w' => ∃ B, e = .returned (.slice (some ⟨B, 0, none⟩) 0 0) ∧ Kp w w' := by
  have hmk : ∀ w, (Instr.makeSlice 23 (.int .i64 0) (.int .i64 0)).run Try.prog w = .ok (.slice (some ⟨w.heap.size, 0, none⟩) 0 0) (w.alloc (.cells (madeCells #[.slice none 0 0] 0) 35)) := fun w => mk_rows2 0 (by omega) w
  go_enter Try.func40, Try.ntmps40
  go_wp2
  refine wp_loop_rounds 1 ?_
  rw [rounds_succ]
  go_wp2
  go_ret
  exact ⟨_, rfl, (Kp.alloc _ _).trans (Kp.alloc _ _)⟩

set_option maxRecDepth 20000 in
set_option maxHeartbeats 2000000 in
theorem in_one (op no : Int) (a2 a4 a5 a6 : Option Addr) (ab ao bb bo : Nat) (c1 c2 c4 c5 c6 bl bc : Nat) (x : Option Addr) (y z : Nat) (w : World) (hab : ab < w.heap.size) (ha : w.cell? ⟨ab, ao, none⟩ = some (.int .i64 0)) (hbb : bb < w.heap.size) (hb : w.cell? ⟨bb, bo, none⟩ = some (.slice x y z)) (hl : 0 < bl) (hm : bl ≤ 1000000) :
    Calls Try.prog 40 #[.agg #[.int .i64 op, .slice (some ⟨ab, ao, none⟩) 1 c1, .slice a2 0 c2, .int .i64 no, .slice a4 0 c4, .slice a5 0 c5, .slice a6 0 c6], .slice (some ⟨bb, bo, none⟩) bl bc] w
      fun e w' => ∃ B, e = .returned (.slice (some ⟨B, 0, none⟩) 1 1) ∧ w'.cell? ⟨B, 0, none⟩ = some (.slice x y z) ∧ B < w'.heap.size ∧ Kp w w' := by
  have hmk : ∀ w, (Instr.makeSlice 23 (.int .i64 1) (.int .i64 1)).run Try.prog w = .ok (.slice (some ⟨w.heap.size, 0, none⟩) 1 1) (w.alloc (.cells #[.slice none 0 0] 35)) := fun w => by
    have h := mk_rows2 1 (by omega) w
    rw [show madeCells #[Value.slice none 0 0] 1 = #[.slice none 0 0] by apply Array.ext <;> simp [madeCells]] at h
    exact h
  have hlI : (0 : Int) < (bl : Int) := by omega
  go_enter Try.func40, Try.ntmps40
  go_wp2
  refine wp_loop_rounds 2 ?_
  rw [rounds_succ]
  go_wp2
  rw [rounds_succ]
  go_wp2
  go_ret
  refine ⟨w.heap.size + 1, rfl, ?_, by simp, (Kp.alloc _ _).trans (Kp.alloc _ _)⟩
  have h := Boxed.new (w.alloc (.cells #[.int .i64 op, .slice (some ⟨ab, ao, none⟩) 1 c1, .slice a2 0 c2, .int .i64 no, .slice a4 0 c4, .slice a5 0 c5, .slice a6 0 c6] 41)) 35 (.slice x y z)
  rw [World.size_alloc] at h
  exact h.cell

/-- the call's own row of rows -/
def OwnS (w : World) (base : Nat) (v : Value) (vs : List Value) : Prop := w.ownsRow base 35 1 v vs.length vs
theorem OwnS.nil (w : World) (base : Nat) : OwnS w base (.slice none 0 0) [] := World.ownsRow_nil _ _ _ _
theorem OwnS.at {w : World} {base : Nat} {v : Value} {vs : List Value} (h : OwnS w base v vs) (hp : 0 < vs.length) : ∃ b k, v = .slice (some ⟨b, 0, none⟩) vs.length k ∧ b < w.heap.size ∧ ∀ i, i < vs.length → w.cell? ⟨b, i, none⟩ = vs[i]? := by
  obtain ⟨_, ⟨_, h⟩ | ⟨g, cap, cur, rfl, hg, hh, _, _, _, ht⟩⟩ := h
  · omega
  · refine ⟨g, cap, rfl, (Array.getElem?_eq_some_iff.1 hh).1, fun i hi => ?_⟩
    have h2 := congrArg (fun l => l[i]?) ht
    simp only [Nat.mul_one, List.getElem?_take, hi, if_true, Array.getElem?_toList] at h2
    simp [World.cell?, hh, h2]

/-- what lies where while one goes through a graph's nodes -/
structure Sit (w : World) (B3 B10 : Nat) (lv vv n1 n2 n4 n5 n6 : Value) (op no : Int) : Prop where
  c0 : w.cell? ⟨B3, 0, none⟩ = some lv
  c1 : w.cell? ⟨B3, 1, none⟩ = some vv
  d0 : w.cell? ⟨B10, 0, none⟩ = some (.int .i64 op)
  d1 : w.cell? ⟨B10, 1, none⟩ = some n1
  d2 : w.cell? ⟨B10, 2, none⟩ = some n2
  d3 : w.cell? ⟨B10, 3, none⟩ = some (.int .i64 no)
  d4 : w.cell? ⟨B10, 4, none⟩ = some n4
  d5 : w.cell? ⟨B10, 5, none⟩ = some n5
  d6 : w.cell? ⟨B10, 6, none⟩ = some n6

set_option maxRecDepth 20000 in
set_option maxHeartbeats 4000000 in
theorem shapes0 (la va : Option Addr) (lc vc : Nat) (pb : Option Addr) (pl pc : Nat) (w : World) (hg : Graphs w (.slice la 2 lc) gsA) (hr : Rows2 w (.slice va 1 vc) [[2]]) :
    Calls Try.prog 22 #[.agg #[.slice la 2 lc, .slice va 1 vc], .int .i64 0, .slice pb pl pc] w
      fun e w' => ∃ b k x y z, e = .returned (.tuple #[.slice (some ⟨b, 0, none⟩) 1 k, .int .i64 0]) ∧ w'.cell? ⟨b, 0, none⟩ = some (.slice x y z) ∧ b < w'.heap.size ∧ Kp w w' := by
  obtain ⟨b, off, a', c', rfl, hb, cg, hnd⟩ := hg.one (Kp.refl w) (show 0 < gsA.length by decide)
  have cg' : w.cell? ⟨b, off, none⟩ = some (.slice a' 1 c') := by simpa [gsA] using cg
  obtain ⟨b2, o2, rfl, hb2, hnode⟩ := hnd.one (Kp.refl w) (show 0 < (gsA.getD 0 []).length by decide)
  have hnode' : NdAt w b2 (o2 + 0 * 7) ndLf := hnode
  obtain ⟨a1, a2, a4, a5, a6, c1, c2, c4, c5, c6, -, d1, d2, d4, d5, d6⟩ := hnode'.slices
  have d0 := hnode'.op
  have d3 := hnode'.no
  simp only [Nat.zero_mul, Nat.add_zero, ndLf, List.length_nil] at d0 d1 d2 d3 d4 d5 d6
  have HR := hide hr
  clear hg hr cg hnd hnode hnode'
  go_enter Try.func22, Try.ntmps22
  go_wp2
  refine wp_loop_rounds 2 ?_
  rw [rounds_succ]
  go_wp2
  have hs0 : (w.alloc (.cells #[.slice (some ⟨b, off, none⟩) 2 lc, .slice va 1 vc] 67)).heap.size = w.heap.size + 1 := by simp
  obtain ⟨Wa, hWa, xa, ka⟩ := px_in 67 w (.slice (some ⟨b, off, none⟩) 2 lc) (.slice va 1 vc)
  obtain ⟨Wb, hWb, xb, kb⟩ := bx7_in Wa (.int .i64 1) (.slice a1 0 c1) (.slice a2 0 c2) (.int .i64 0) (.slice a4 0 c4) (.slice a5 0 c5) (.slice a6 0 c6)
  rw [← hWa, ← hWb]
  rw [← hWa] at hs0
  rw [hs0] at xb
  have K2 := hide (ka.trans kb)
  have xa' := xa.keep kb
  have x0 := xa'.c0
  have x1 := xa'.c1
  obtain ⟨y0, y1, y2, y3, y4, y5, y6⟩ := xb.o
  clear hWa hWb hs0 xa xb xa' ka kb d0 d1 d2 d3 d4 d5 d6 cg'
  generalize w.heap.size + 1 = B10 at *
  generalize w.heap.size = B3 at *
  have CC1 := hide (fun w0 (k0 : Kp Wb w0) => (in_none 1 0 a1 a2 a4 a5 a6 none c1 c2 c4 c5 c6 0 0 w0).mono (R' := fun e w' => ∃ B, e = .returned (.slice (some ⟨B, 0, none⟩) 0 0) ∧ Hid (Kp Wb w') ∧ w'.cell? ⟨B3, 0, none⟩ = some (.slice (some ⟨b, off, none⟩) 2 lc) ∧ w'.cell? ⟨B3, 1, none⟩ = some (.slice va 1 vc) ∧ w'.cell? ⟨B10, 0, none⟩ = some (.int .i64 1) ∧ w'.cell? ⟨B10, 1, none⟩ = some (.slice a1 0 c1) ∧ w'.cell? ⟨B10, 2, none⟩ = some (.slice a2 0 c2) ∧ w'.cell? ⟨B10, 3, none⟩ = some (.int .i64 0) ∧ w'.cell? ⟨B10, 4, none⟩ = some (.slice a4 0 c4) ∧ w'.cell? ⟨B10, 5, none⟩ = some (.slice a5 0 c5) ∧ w'.cell? ⟨B10, 6, none⟩ = some (.slice a6 0 c6)) (by
    rintro e w' ⟨B, rfl, k'⟩
    exact ⟨B, rfl, k0.trans k', ⟨(k0.trans k').cellT x0, (k0.trans k').cellT x1, (k0.trans k').cellT y0, (k0.trans k').cellT y1, (k0.trans k').cellT y2, (k0.trans k').cellT y3, (k0.trans k').cellT y4, (k0.trans k').cellT y5, (k0.trans k').cellT y6⟩⟩))
  have CC2 := hide (fun B w0 (k0 : Kp Wb w0) => (shape_leaf (some ⟨b, off, none⟩) va lc vc a1 a2 a4 a5 a6 (some ⟨B, 0, none⟩) pb c1 c2 c4 c5 c6 0 0 pl pc w0 ((unhide HR).keep ((unhide K2).trans k0))).mono (R' := fun e w' => ∃ x y z, e = .returned (.tuple #[.slice x y z, .int .i64 0]) ∧ Hid (Kp Wb w') ∧ w'.cell? ⟨B3, 0, none⟩ = some (.slice (some ⟨b, off, none⟩) 2 lc) ∧ w'.cell? ⟨B3, 1, none⟩ = some (.slice va 1 vc) ∧ w'.cell? ⟨B10, 0, none⟩ = some (.int .i64 1) ∧ w'.cell? ⟨B10, 1, none⟩ = some (.slice a1 0 c1) ∧ w'.cell? ⟨B10, 2, none⟩ = some (.slice a2 0 c2) ∧ w'.cell? ⟨B10, 3, none⟩ = some (.int .i64 0) ∧ w'.cell? ⟨B10, 4, none⟩ = some (.slice a4 0 c4) ∧ w'.cell? ⟨B10, 5, none⟩ = some (.slice a5 0 c5) ∧ w'.cell? ⟨B10, 6, none⟩ = some (.slice a6 0 c6)) (by
    rintro e w' ⟨x, y, z, rfl, k'⟩
    exact ⟨x, y, z, rfl, k0.trans k', ⟨(k0.trans k').cellT x0, (k0.trans k').cellT x1, (k0.trans k').cellT y0, (k0.trans k').cellT y1, (k0.trans k').cellT y2, (k0.trans k').cellT y3, (k0.trans k').cellT y4, (k0.trans k').cellT y5, (k0.trans k').cellT y6⟩⟩))
  go_region_held3 (fun w' => w'.cell? ⟨B3, 0, none⟩ = some (.slice (some ⟨b, off, none⟩) 2 lc) ∧ w'.cell? ⟨B3, 1, none⟩ = some (.slice va 1 vc) ∧ w'.cell? ⟨B10, 0, none⟩ = some (.int .i64 1) ∧ w'.cell? ⟨B10, 1, none⟩ = some (.slice a1 0 c1) ∧ w'.cell? ⟨B10, 2, none⟩ = some (.slice a2 0 c2) ∧ w'.cell? ⟨B10, 3, none⟩ = some (.int .i64 0) ∧ w'.cell? ⟨B10, 4, none⟩ = some (.slice a4 0 c4) ∧ w'.cell? ⟨B10, 5, none⟩ = some (.slice a5 0 c5) ∧ w'.cell? ⟨B10, 6, none⟩ = some (.slice a6 0 c6)) (go_keep)
    (first
      | (go_at_call 40; refine ((unhide CC1) _ ?_).mono ?_; (first | (exact unhide (by assumption)) | exact Kp.drew Wb); rintro e w3 ⟨B, rfl, K3, e0, e1, e2, e3, e4, e5, e6, e7, e8⟩)
      | (go_at_call 39; refine ((unhide CC2) B _ ?_).mono ?_; (first | (exact unhide (by assumption)) | exact Kp.drew Wb); rintro e w4 ⟨x, y, z, rfl, K4, g0, g1, g2, g3, g4, g5, g6, g7, g8⟩))
  have K5 := hide ((unhide K2).trans (unhide K4))
  clear e0 e1 e2 e3 e4 e5 e6 e7 e8 g0 g1 g2 g3 g4 g5 g6 g7 g8 K3 CC1 CC2 x0 x1 y0 y1 y2 y3 y4 y5 y6 K4
  obtain ⟨i0, hin, hz0, hz1, hz2⟩ := info_parts infoR
  go_wp2_with (at_builtin; refine wpList_append_own _ rfl _ _ 23 rfl w4.heap.size 35 i0 (.slice none 0 0) 1 24 Try.underlying23 hin hz0 hz1 hz2 rfl (by decide) (.slice none 0 0) 0 [] rfl (World.ownsRow_nil _ _ _ _) ⟨w4.heap.size, 0, none⟩ 1 1 [.slice x y z] rfl rfl (cell_one_new _ _ _) (by simp [Value.oneCell']) (by decide) (by decide) (by simp) ?_; intro v' w5 ho hg5 hnil)
  obtain ⟨q, kq, rfl, hq, hqc⟩ := OwnS.at (w := w5) (vs := [.slice x y z]) ho (by simp)
  have c5 := hide (hqc 0 (by simp))
  have K6 := hide ((unhide K5).trans (Kp.of_grown (Kp.alloc w4 _) hg5 (fun k e => by cases e)))
  clear ho hg5 hnil hqc
  rw [rounds_succ]
  go_wp2
  go_ret2
  exact ⟨q, kq, x, y, z, rfl, unhide c5, hq, unhide K6⟩

set_option maxRecDepth 20000 in
set_option maxHeartbeats 2000000 in
theorem last_any (la va : Option Addr) (lc vc : Nat) (pb : Option Addr) (pl pc : Nat) (w : World) (hg : Graphs w (.slice la 2 lc) gsA) (hr : Rows2 w (.slice va 1 vc) [[2]]) :
    Calls Try.prog 53 #[.agg #[.slice la 2 lc, .slice va 1 vc], .int .i64 0, .slice pb pl pc] w
      fun e w' => ∃ x y z, e = .returned (.tuple #[.slice x y z, .int .i64 0]) ∧ Kp w w' := by
  have HG := hide hg
  have HR := hide hr
  have k0 := Kp.alloc w (.cells #[.slice la 2 lc, .slice va 1 vc] 67)
  have HG1 := hide (hg.keep k0)
  have HR1 := hide (hr.keep k0)
  have K0 := hide k0
  clear hg hr k0
  go_enter Try.func53, Try.ntmps53
  go_wp2_with fail
  refine (shapes0 la va lc vc pb pl pc _ (unhide HG1) (unhide HR1)).mono ?_
  rintro e w1 ⟨b, k, x, y, z, rfl, hc, hb, k1⟩
  have K1 := hide ((unhide K0).trans k1)
  clear k1
  go_wp2
  go_ret2
  exact ⟨_, _, _, rfl, unhide K1⟩

set_option maxRecDepth 20000 in
set_option maxHeartbeats 4000000 in
theorem shape_call (la va : Option Addr) (lc vc : Nat) (a1 a2 a4 a5 a6 pb : Option Addr) (B c1 c2 c4 c5 c6 pl pc : Nat) (x : Option Addr) (y z : Nat) (w : World) (hg : Graphs w (.slice la 2 lc) gsA) (hr : Rows2 w (.slice va 1 vc) [[2]]) (hB : B < w.heap.size) (hc : w.cell? ⟨B, 0, none⟩ = some (.slice x y z)) :
    Calls Try.prog 39 #[.agg #[.slice la 2 lc, .slice va 1 vc], .agg #[.int .i64 16, .slice a1 1 c1, .slice a2 0 c2, .int .i64 0, .slice a4 0 c4, .slice a5 0 c5, .slice a6 0 c6], .slice (some ⟨B, 0, none⟩) 1 1, .slice pb pl pc] w
      fun e w' => ∃ a n c, e = .returned (.tuple #[.slice a n c, .int .i64 0]) ∧ Kp w w' := by
  have HG := hide hg
  have HR := hide hr
  have hs0 : (w.alloc (.cells #[.slice la 2 lc, .slice va 1 vc] 67)).heap.size = w.heap.size + 1 := by simp
  obtain ⟨Wa, hWa, xa, ka⟩ := px_in 67 w (.slice la 2 lc) (.slice va 1 vc)
  obtain ⟨Wb, hWb, xb, kb⟩ := bx7_in Wa (.int .i64 16) (.slice a1 1 c1) (.slice a2 0 c2) (.int .i64 0) (.slice a4 0 c4) (.slice a5 0 c5) (.slice a6 0 c6)
  rw [← hWa] at hs0
  rw [hs0] at xb
  have K2 := hide (ka.trans kb)
  have xa' := xa.keep kb
  have x0 := xa'.c0
  have x1 := xa'.c1
  obtain ⟨y0, y1, y2, y3, y4, y5, y6⟩ := xb.o
  have lt3 := xa'.lt
  have lt4 := xb.lt
  have hcB := (ka.trans kb).cellT hc
  have hBl := Nat.lt_of_lt_of_le hB (ka.trans kb).size
  go_enter Try.func39, Try.ntmps39
  go_wp2_with fail
  rw [← hWa, ← hWb]
  clear hWa hWb hs0 xa xb xa' ka kb hg hr hc hB
  generalize w.heap.size + 1 = B10 at *
  generalize w.heap.size = B3 at *
  have CC := hide (fun w0 (k0 : Kp Wb w0) => (last_any la va lc vc x y z w0 ((unhide HG).keep ((unhide K2).trans k0)) ((unhide HR).keep ((unhide K2).trans k0))).mono (R' := fun e w' => ∃ x1 y1 z1, e = .returned (.tuple #[.slice x1 y1 z1, .int .i64 0]) ∧ Hid (Kp Wb w') ∧ w'.cell? ⟨B3, 0, none⟩ = some (.slice la 2 lc) ∧ w'.cell? ⟨B3, 1, none⟩ = some (.slice va 1 vc) ∧ w'.cell? ⟨B10, 3, none⟩ = some (.int .i64 0) ∧ w'.cell? ⟨B, 0, none⟩ = some (.slice x y z)) (by
    rintro e w' ⟨x2, y2', z2, rfl, k'⟩
    exact ⟨x2, y2', z2, rfl, k0.trans k', (k0.trans k').cellT x0, (k0.trans k').cellT x1, (k0.trans k').cellT y3, (k0.trans k').cellT hcB⟩))
  clear y0 y1 y2 y4 y5 y6 lt3 lt4
  go_region_held3 (fun w' => w'.cell? ⟨B3, 0, none⟩ = some (.slice la 2 lc) ∧ w'.cell? ⟨B3, 1, none⟩ = some (.slice va 1 vc) ∧ w'.cell? ⟨B10, 3, none⟩ = some (.int .i64 0) ∧ w'.cell? ⟨B, 0, none⟩ = some (.slice x y z)) (go_keep)
    (first
      | (go_at_call 53; refine ((unhide CC) _ ?_).mono ?_; (first | (exact unhide (by assumption)) | exact Kp.drew Wb); rintro e w3 ⟨x9, y9, z9, rfl, K3, e0, e1, e2, e3⟩))
  have K4 := hide ((unhide K2).trans (unhide K3))
  clear e0 e1 e2 e3 x0 x1 y3 hcB CC K3
  go_wp2
  go_ret2
  exact ⟨_, _, _, rfl, unhide K4⟩

theorem app_rows {w w' : World} {base : Nat} {v v' : Value} {vs : List Value} {u : Value} (h : w.ownsRow base 35 1 v vs.length vs) (ho : w'.ownsRow base 35 1 v' (vs.length + 1) (vs ++ [u])) (hg : (w.alloc (.cells #[u] 35)).grownBy w' v.ownBlock) (w0 : World) (hk : Kp w0 w) (hb : w0.heap.size ≤ base) {n : Nat} (hn : vs.length + 1 = n) :
    (∃ q kq, v' = .slice (some ⟨q, 0, none⟩) n kq ∧ q < w'.heap.size ∧ ∀ i, i < n → w'.cell? ⟨q, i, none⟩ = (vs ++ [u])[i]?) ∧ OwnS w' base v' (vs ++ [u]) ∧ Kp w0 w' := by
  have hl : (vs ++ [u]).length = vs.length + 1 := by simp
  have ho' : OwnS w' base v' (vs ++ [u]) := by unfold OwnS; rw [hl]; exact ho
  refine ⟨?_, ho', Kp.of_grown (hk.trans (Kp.alloc w _)) hg (fun k e => ?_)⟩
  · obtain ⟨q, kq, e, h1, h2⟩ := OwnS.at ho' (by simp)
    rw [hl, hn] at e h2
    exact ⟨q, kq, e, h1, h2⟩
  · rcases h.2 with ⟨rfl, _⟩ | ⟨g, cap, cur, rfl, hgb, _⟩
    · cases e
    · cases e
      show w0.heap.size ≤ g
      omega

set_option maxRecDepth 20000 in
set_option maxHeartbeats 8000000 in
theorem shapes1 (la va : Option Addr) (lc vc : Nat) (pb : Option Addr) (pl pc : Nat) (w : World) (hg : Graphs w (.slice la 2 lc) gsA) (hr : Rows2 w (.slice va 1 vc) [[2]]) :
    Calls Try.prog 22 #[.agg #[.slice la 2 lc, .slice va 1 vc], .int .i64 1, .slice pb pl pc] w
      fun e w' => ∃ b k, e = .returned (.tuple #[.slice (some ⟨b, 0, none⟩) 2 k, .int .i64 0]) ∧ Kp w w' := by
  obtain ⟨b, off, a', c', rfl, hb, cg, hnd⟩ := hg.one (Kp.refl w) (show 1 < gsA.length by decide)
  have cg' : w.cell? ⟨b, off + 1, none⟩ = some (.slice a' 2 c') := by simpa [gsA] using cg
  obtain ⟨b2, o2, rfl, hb2, hnode⟩ := hnd.one (Kp.refl w) (show 0 < (gsA.getD 1 []).length by decide)
  have hnode' : NdAt w b2 (o2 + 0 * 7) ndLf := hnode
  obtain ⟨a1, a2, a4, a5, a6, c1, c2, c4, c5, c6, -, d1, d2, d4, d5, d6⟩ := hnode'.slices
  have d0 := hnode'.op
  have d3 := hnode'.no
  simp only [Nat.zero_mul, Nat.add_zero, ndLf, List.length_nil] at d0 d1 d2 d3 d4 d5 d6
  obtain ⟨b3, o3, hbe, hb3, hnode2⟩ := hnd.one (Kp.refl w) (show 1 < (gsA.getD 1 []).length by decide)
  cases hbe
  have hnode2' : NdAt w b2 (o2 + 1 * 7) ndCl := hnode2
  have hnode3 : NdAt w b2 (o2 + 7) ndCl := by simpa using hnode2'
  have hnode2'' := hide hnode3
  clear hnode3
  have HR := hide hr
  have HG := hide hg
  clear hg hr cg hnd hnode hnode' hnode2 hnode2' hb3
  go_enter Try.func22, Try.ntmps22
  go_wp2
  refine wp_loop_rounds 3 ?_
  rw [rounds_succ]
  go_wp2
  have hs0 : (w.alloc (.cells #[.slice (some ⟨b, off, none⟩) 2 lc, .slice va 1 vc] 67)).heap.size = w.heap.size + 1 := by simp
  obtain ⟨Wa, hWa, xa, ka⟩ := px_in 67 w (.slice (some ⟨b, off, none⟩) 2 lc) (.slice va 1 vc)
  obtain ⟨Wb, hWb, xb, kb⟩ := bx7_in Wa (.int .i64 1) (.slice a1 0 c1) (.slice a2 0 c2) (.int .i64 0) (.slice a4 0 c4) (.slice a5 0 c5) (.slice a6 0 c6)
  rw [← hWa, ← hWb]
  rw [← hWa] at hs0
  rw [hs0] at xb
  have K2 := hide (ka.trans kb)
  have xa' := hide (xa.keep kb)
  have x0 := (unhide xa').c0
  have x1 := (unhide xa').c1
  obtain ⟨y0, y1, y2, y3, y4, y5, y6⟩ := xb.o
  clear hWa hWb hs0 xa xb ka kb d0 d1 d2 d3 d4 d5 d6 cg'
  generalize w.heap.size + 1 = B10 at *
  obtain ⟨B3, hB3⟩ : ∃ B3, B3 = w.heap.size := ⟨_, rfl⟩
  rw [← hB3] at xa' x0 x1 ⊢
  have HB3 := hide hB3
  clear hB3
  have CC1 := hide (fun w0 (k0 : Kp Wb w0) => (in_none 1 0 a1 a2 a4 a5 a6 none c1 c2 c4 c5 c6 0 0 w0).mono (R' := fun e w' => ∃ B, e = .returned (.slice (some ⟨B, 0, none⟩) 0 0) ∧ Hid (Kp Wb w') ∧ w'.cell? ⟨B3, 0, none⟩ = some (.slice (some ⟨b, off, none⟩) 2 lc) ∧ w'.cell? ⟨B3, 1, none⟩ = some (.slice va 1 vc) ∧ w'.cell? ⟨B10, 0, none⟩ = some (.int .i64 1) ∧ w'.cell? ⟨B10, 1, none⟩ = some (.slice a1 0 c1) ∧ w'.cell? ⟨B10, 2, none⟩ = some (.slice a2 0 c2) ∧ w'.cell? ⟨B10, 3, none⟩ = some (.int .i64 0) ∧ w'.cell? ⟨B10, 4, none⟩ = some (.slice a4 0 c4) ∧ w'.cell? ⟨B10, 5, none⟩ = some (.slice a5 0 c5) ∧ w'.cell? ⟨B10, 6, none⟩ = some (.slice a6 0 c6)) (by
    rintro e w' ⟨B, rfl, k'⟩
    exact ⟨B, rfl, k0.trans k', ⟨(k0.trans k').cellT x0, (k0.trans k').cellT x1, (k0.trans k').cellT y0, (k0.trans k').cellT y1, (k0.trans k').cellT y2, (k0.trans k').cellT y3, (k0.trans k').cellT y4, (k0.trans k').cellT y5, (k0.trans k').cellT y6⟩⟩))
  have CC2 := hide (fun B w0 (k0 : Kp Wb w0) => (shape_leaf (some ⟨b, off, none⟩) va lc vc a1 a2 a4 a5 a6 (some ⟨B, 0, none⟩) pb c1 c2 c4 c5 c6 0 0 pl pc w0 ((unhide HR).keep ((unhide K2).trans k0))).mono (R' := fun e w' => ∃ x y z, e = .returned (.tuple #[.slice x y z, .int .i64 0]) ∧ Hid (Kp Wb w') ∧ w'.cell? ⟨B3, 0, none⟩ = some (.slice (some ⟨b, off, none⟩) 2 lc) ∧ w'.cell? ⟨B3, 1, none⟩ = some (.slice va 1 vc) ∧ w'.cell? ⟨B10, 0, none⟩ = some (.int .i64 1) ∧ w'.cell? ⟨B10, 1, none⟩ = some (.slice a1 0 c1) ∧ w'.cell? ⟨B10, 2, none⟩ = some (.slice a2 0 c2) ∧ w'.cell? ⟨B10, 3, none⟩ = some (.int .i64 0) ∧ w'.cell? ⟨B10, 4, none⟩ = some (.slice a4 0 c4) ∧ w'.cell? ⟨B10, 5, none⟩ = some (.slice a5 0 c5) ∧ w'.cell? ⟨B10, 6, none⟩ = some (.slice a6 0 c6)) (by
    rintro e w' ⟨x, y, z, rfl, k'⟩
    exact ⟨x, y, z, rfl, k0.trans k', ⟨(k0.trans k').cellT x0, (k0.trans k').cellT x1, (k0.trans k').cellT y0, (k0.trans k').cellT y1, (k0.trans k').cellT y2, (k0.trans k').cellT y3, (k0.trans k').cellT y4, (k0.trans k').cellT y5, (k0.trans k').cellT y6⟩⟩))
  go_region_held3 (fun w' => w'.cell? ⟨B3, 0, none⟩ = some (.slice (some ⟨b, off, none⟩) 2 lc) ∧ w'.cell? ⟨B3, 1, none⟩ = some (.slice va 1 vc) ∧ w'.cell? ⟨B10, 0, none⟩ = some (.int .i64 1) ∧ w'.cell? ⟨B10, 1, none⟩ = some (.slice a1 0 c1) ∧ w'.cell? ⟨B10, 2, none⟩ = some (.slice a2 0 c2) ∧ w'.cell? ⟨B10, 3, none⟩ = some (.int .i64 0) ∧ w'.cell? ⟨B10, 4, none⟩ = some (.slice a4 0 c4) ∧ w'.cell? ⟨B10, 5, none⟩ = some (.slice a5 0 c5) ∧ w'.cell? ⟨B10, 6, none⟩ = some (.slice a6 0 c6)) (go_keep)
    (first
      | (go_at_call 40; refine ((unhide CC1) _ ?_).mono ?_; (first | (exact unhide (by assumption)) | exact Kp.drew Wb); rintro e w3 ⟨B, rfl, K3, e0, e1, e2, e3, e4, e5, e6, e7, e8⟩)
      | (go_at_call 39; refine ((unhide CC2) B _ ?_).mono ?_; (first | (exact unhide (by assumption)) | exact Kp.drew Wb); rintro e w4 ⟨x, y, z, rfl, K4, g0, g1, g2, g3, g4, g5, g6, g7, g8⟩))
  rename_i hHeld
  clear hHeld
  have K5 := hide ((unhide K2).trans (unhide K4))
  have XA4 := hide ((unhide xa').keep (unhide K4))
  clear e0 e1 e2 e3 e4 e5 e6 e7 e8 g0 g1 g2 g3 g4 g5 g6 g7 g8 K3 CC1 CC2 x0 x1 y0 y1 y2 y3 y4 y5 y6 K4 xa'
  obtain ⟨i0, hin, hz0, hz1, hz2⟩ := info_parts infoR
  have z4 := (unhide K5).size
  go_wp2_with (at_builtin; refine wpList_append_own _ rfl _ _ 23 rfl w.heap.size 35 i0 (.slice none 0 0) 1 24 Try.underlying23 hin hz0 hz1 hz2 rfl (by decide) (.slice none 0 0) 0 [] rfl (World.ownsRow_nil _ _ _ _) ⟨w4.heap.size, 0, none⟩ 1 1 [.slice x y z] rfl rfl (cell_one_new _ _ _) (by simp [Value.oneCell']) (by decide) (by decide) (by simp; omega) ?_; intro v' w5 ho hg5 hnil)
  obtain ⟨⟨q, kq, rfl, hq, hqc⟩, hown5, k5⟩ := app_rows (n := 1) (vs := []) (World.ownsRow_nil _ _ _ _) ho hg5 w (unhide K5) (Nat.le_refl _) rfl
  have c5 : w5.cell? ⟨q, 0, none⟩ = some (.slice x y z) := by simpa using hqc 0 (by simp)
  have K6 := hide k5
  have XA5 : Hid (Px 67 w5 B3 (.slice (some ⟨b, off, none⟩) 2 lc) (.slice va 1 vc)) := by
    have hx := unhide XA4
    have h9 := hx.keep (Kp.alloc w4 (.cells #[.slice x y z] 35))
    unfold Px at h9
    unfold Hid Px
    rw [hg5.block B3 ((Array.getElem?_eq_some_iff.1 h9).1) (by simp [Value.ownBlock])]
    exact h9
  have HO5 := hide hown5
  have nn := (unhide hnode2'').keep (unhide K6)
  obtain ⟨m1, m2, m4, m5, m6, n1, n2, n4, n5, n6, hnr, d1, d2, d4, d5, d6⟩ := nn.slices
  have d0 := nn.op
  have d3 := nn.no
  have hin1 := hnr.inn
  simp only [ndCl, List.length_nil, List.length_singleton] at d0 d1 d2 d3 d4 d5 d6 hin1
  obtain ⟨am, cm, hme, hmc⟩ := hin1.val
  injection hme with hme1 hme2 hme3
  obtain ⟨mb, mo, hmb, hml, hmcell⟩ := hmc (by decide)
  subst hme1 hme3
  obtain rfl : m1 = some ⟨mb, mo, none⟩ := hmb
  have cm00 : w5.cell? ⟨mb, mo, none⟩ = some (.int .i64 0) := by simpa using hmcell 0 (by decide)
  have cm0 := hide cm00
  clear cm00 hme2
  have hb5 : b2 < w5.heap.size := Nat.lt_of_lt_of_le hb2 (unhide K6).size
  have xx0 := (unhide XA5).c0
  have lt3 := (unhide XA5).lt
  clear ho hg5 hnil hqc hmcell hmc hin1 hnr nn XA4 K5 k5 hown5
  have HML := hide hml
  have HQ := hide hq
  have HC5 := hide c5
  clear hml
  rw [rounds_succ]
  go_wp2
  have z5 : w5.heap.size ≤ w5.heap.size := Nat.le_refl _
  obtain ⟨W6, hW6, xb6, k6⟩ := bx7_in w5 (.int .i64 16) (.slice (some ⟨mb, mo, none⟩) 1 n1) (.slice m2 0 n2) (.int .i64 0) (.slice m4 0 n4) (.slice m5 0 n5) (.slice m6 0 n6)
  rw [← hW6]
  have K7 := hide ((unhide K6).trans k6)
  have x0 := ((unhide XA5).keep k6).c0
  have x1 := ((unhide XA5).keep k6).c1
  obtain ⟨y0, y1, y2, y3, y4, y5, y6⟩ := xb6.o
  have HMW : Hid (mb < W6.heap.size ∧ q < W6.heap.size ∧ W6.cell? ⟨mb, mo, none⟩ = some (.int .i64 0) ∧ W6.cell? ⟨q, 0, none⟩ = some (.slice x y z)) :=
    ⟨Nat.lt_of_lt_of_le (unhide HML) k6.size, Nat.lt_of_lt_of_le (unhide HQ) k6.size, k6.cellT (unhide cm0), k6.cellT (unhide HC5)⟩
  have HO6 := hide (World.ownsRow.kept (unhide HO5) (show w5.grownBy W6 none from ⟨k6.os, k6.tape, k6.output, k6.size, fun i hi _ => k6.block i hi⟩) (.inr (by simp [Value.ownBlock])))
  clear hW6 xb6 k6 d0 d1 d2 d3 d4 d5 d6 xx0 lt3 hb5 c5 hq z5
  generalize w5.heap.size = B11 at *
  have DD1 := hide (fun w0 (k0 : Kp W6 w0) => (in_one 16 0 m2 m4 m5 m6 mb mo q 0 n1 n2 n4 n5 n6 1 kq x y z w0 (Nat.lt_of_lt_of_le (unhide HMW).1 k0.size) (k0.cellT (unhide HMW).2.2.1) (Nat.lt_of_lt_of_le (unhide HMW).2.1 k0.size) (k0.cellT (unhide HMW).2.2.2) (by decide) (by decide)).mono
    (R' := fun e w' => ∃ B, e = .returned (.slice (some ⟨B, 0, none⟩) 1 1) ∧ Hid (w'.cell? ⟨B, 0, none⟩ = some (.slice x y z)) ∧ Hid (B < w'.heap.size) ∧ Hid (Kp W6 w') ∧ w'.cell? ⟨B3, 0, none⟩ = some (.slice (some ⟨b, off, none⟩) 2 lc) ∧ w'.cell? ⟨B3, 1, none⟩ = some (.slice va 1 vc) ∧ w'.cell? ⟨B11, 0, none⟩ = some (.int .i64 16) ∧ w'.cell? ⟨B11, 1, none⟩ = some (.slice (some ⟨mb, mo, none⟩) 1 n1) ∧ w'.cell? ⟨B11, 2, none⟩ = some (.slice m2 0 n2) ∧ w'.cell? ⟨B11, 3, none⟩ = some (.int .i64 0) ∧ w'.cell? ⟨B11, 4, none⟩ = some (.slice m4 0 n4) ∧ w'.cell? ⟨B11, 5, none⟩ = some (.slice m5 0 n5) ∧ w'.cell? ⟨B11, 6, none⟩ = some (.slice m6 0 n6)) (by
    rintro e w' ⟨B, rfl, hc, hl, k'⟩
    exact ⟨B, rfl, hc, hl, k0.trans k', ⟨(k0.trans k').cellT x0, (k0.trans k').cellT x1, (k0.trans k').cellT y0, (k0.trans k').cellT y1, (k0.trans k').cellT y2, (k0.trans k').cellT y3, (k0.trans k').cellT y4, (k0.trans k').cellT y5, (k0.trans k').cellT y6⟩⟩))
  have DD2 := hide (fun B w0 (hc : Hid (w0.cell? ⟨B, 0, none⟩ = some (.slice x y z))) (hl : Hid (B < w0.heap.size)) (k0 : Kp W6 w0) => (shape_call (some ⟨b, off, none⟩) va lc vc (some ⟨mb, mo, none⟩) m2 m4 m5 m6 pb B n1 n2 n4 n5 n6 pl pc x y z w0 ((unhide HG).keep ((unhide K7).trans k0)) ((unhide HR).keep ((unhide K7).trans k0)) (unhide hl) (unhide hc)).mono
    (R' := fun e w' => ∃ x y z, e = .returned (.tuple #[.slice x y z, .int .i64 0]) ∧ Hid (Kp W6 w') ∧ w'.cell? ⟨B3, 0, none⟩ = some (.slice (some ⟨b, off, none⟩) 2 lc) ∧ w'.cell? ⟨B3, 1, none⟩ = some (.slice va 1 vc) ∧ w'.cell? ⟨B11, 0, none⟩ = some (.int .i64 16) ∧ w'.cell? ⟨B11, 1, none⟩ = some (.slice (some ⟨mb, mo, none⟩) 1 n1) ∧ w'.cell? ⟨B11, 2, none⟩ = some (.slice m2 0 n2) ∧ w'.cell? ⟨B11, 3, none⟩ = some (.int .i64 0) ∧ w'.cell? ⟨B11, 4, none⟩ = some (.slice m4 0 n4) ∧ w'.cell? ⟨B11, 5, none⟩ = some (.slice m5 0 n5) ∧ w'.cell? ⟨B11, 6, none⟩ = some (.slice m6 0 n6)) (by
    rintro e w' ⟨x, y, z, rfl, k'⟩
    exact ⟨x, y, z, rfl, k0.trans k', ⟨(k0.trans k').cellT x0, (k0.trans k').cellT x1, (k0.trans k').cellT y0, (k0.trans k').cellT y1, (k0.trans k').cellT y2, (k0.trans k').cellT y3, (k0.trans k').cellT y4, (k0.trans k').cellT y5, (k0.trans k').cellT y6⟩⟩))
  go_region_held3 (fun w' => w'.cell? ⟨B3, 0, none⟩ = some (.slice (some ⟨b, off, none⟩) 2 lc) ∧ w'.cell? ⟨B3, 1, none⟩ = some (.slice va 1 vc) ∧ w'.cell? ⟨B11, 0, none⟩ = some (.int .i64 16) ∧ w'.cell? ⟨B11, 1, none⟩ = some (.slice (some ⟨mb, mo, none⟩) 1 n1) ∧ w'.cell? ⟨B11, 2, none⟩ = some (.slice m2 0 n2) ∧ w'.cell? ⟨B11, 3, none⟩ = some (.int .i64 0) ∧ w'.cell? ⟨B11, 4, none⟩ = some (.slice m4 0 n4) ∧ w'.cell? ⟨B11, 5, none⟩ = some (.slice m5 0 n5) ∧ w'.cell? ⟨B11, 6, none⟩ = some (.slice m6 0 n6)) (go_keep)
    (first
      | (go_at_call 40; refine ((unhide DD1) _ ?_).mono ?_; (first | (exact unhide (by assumption)) | exact Kp.drew W6); rintro e w7 ⟨B, rfl, HC7, HL7, K8, e0, e1, e2, e3, e4, e5, e6, e7, e8⟩)
      | (go_at_call 39; refine ((unhide DD2) B _ (by assumption) (by assumption) (unhide (by assumption))).mono ?_; rintro e w8 ⟨x', y', z', rfl, K9, g0, g1, g2, g3, g4, g5, g6, g7, g8⟩))
  rename_i hHeld
  clear hHeld
  have K10 := hide ((unhide K7).trans (unhide K9))
  have HO8 := hide (World.ownsRow.kept (unhide HO6) (show W6.grownBy w8 none from ⟨(unhide K9).os, (unhide K9).tape, (unhide K9).output, (unhide K9).size, fun i hi _ => (unhide K9).block i hi⟩) (.inr (by simp [Value.ownBlock])))
  have z8 := (unhide K10).size
  clear e0 e1 e2 e3 e4 e5 e6 e7 e8 g0 g1 g2 g3 g4 g5 g6 g7 g8 K8 K9 DD1 DD2 x0 x1 y0 y1 y2 y3 y4 y5 y6 HMW HO6
  go_wp2_with (at_builtin; refine wpList_append_own _ rfl _ _ 23 rfl w.heap.size 35 i0 (.slice none 0 0) 1 24 Try.underlying23 hin hz0 hz1 hz2 rfl (by decide) (.slice (some ⟨q, 0, none⟩) 1 kq) 1 [.slice x y z] rfl (World.ownsRow.kept (unhide HO8) (World.grownBy_alloc _ _ none) (.inr (by simp [Value.ownBlock]))) ⟨w8.heap.size, 0, none⟩ 1 1 [.slice x' y' z'] rfl rfl (cell_one_new _ _ _) (by simp [Value.oneCell']) (by decide) (by decide) (by simp; omega) ?_; intro v2 w9 ho2 hg9 hnil2)
  obtain ⟨⟨q2, kq2, rfl, -, -⟩, -, k9⟩ := app_rows (n := 2) (vs := [.slice x y z]) (unhide HO8) ho2 hg9 w (unhide K10) (Nat.le_refl _) rfl
  have K11 := hide k9
  clear ho2 hg9 hnil2 k9
  rw [rounds_succ]
  go_wp2
  go_ret2
  exact ⟨q2, kq2, rfl, unhide K11⟩

set_option maxRecDepth 20000 in
set_option maxHeartbeats 2000000 in
theorem shapesA (la va : Option Addr) (lc vc : Nat) (w : World) (hg : Graphs w (.slice la 2 lc) gsA) (hr : Rows2 w (.slice va 1 vc) [[2]]) (hI : chE [[2]] gsA = 0) (hW : WorkR gsA 1 3 0) :
    Calls Try.prog 15 #[.slice la 2 lc, .slice va 1 vc, .int .i64 1, .slice none 0 0] w
      fun e w' => ∃ b k, e = .returned (.tuple #[.slice (some ⟨b, 0, none⟩) 2 k, .int .i64 0]) ∧ Kp w w' := by
  have HG := hide hg
  have HR := hide hr
  have HI := hide hI
  have HW := hide hW
  clear hg hr hI hW
  go_enter Try.func15, Try.ntmps15
  go_wp2_with fail
  refine (check_any va vc [[2]] la lc gsA w (unhide HR) (unhide HG)).mono ?_
  rw [unhide HI]
  rintro e w1 ⟨rfl, k1⟩
  have K1 := hide k1
  clear k1
  generalize chG [[2]] gsA = z1
  generalize chA [[2]] gsA = z2
  go_wp2_with fail
  refine (work_any la lc gsA 1 w1 ((unhide HG).keep (unhide K1)) (by unfold I64; decide)).mono ?_
  rintro e w2 ⟨v, r, rfl, hw, k2⟩
  obtain ⟨rfl, rfl⟩ := hw.one (unhide HW)
  have K2 := hide ((unhide K1).trans k2)
  clear k2 hw
  go_wp2_with fail
  refine (shapes1 la va lc vc none 0 0 w2 ((unhide HG).keep (unhide K2)) ((unhide HR).keep (unhide K2))).mono ?_
  rintro e w3 ⟨b, k, rfl, k3⟩
  have K3 := hide ((unhide K2).trans k3)
  clear k3
  go_wp2
  go_ret2
  exact ⟨b, k, rfl, unhide K3⟩

end Go.Proofs.Ytliddjpcbhdplaa
