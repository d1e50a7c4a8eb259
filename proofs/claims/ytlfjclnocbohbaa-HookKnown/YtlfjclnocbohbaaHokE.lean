
/- Contracts of step and Do. -/
import Derived.Test.YtlfjclnocbohbaaHokD
import Derived.Deep.DeepCutAuto
import Derived.Deep.RegionHeldLaw
namespace Go.Proofs.Ytlfjclnocbohbaa
open Go.RowKit

set_option maxHeartbeats 1000000 in
theorem step_any (h : Hk) (hw : wrB h = false) (hX : W64 h.x) : ∃ g, (∀ args w, Sem.run Try.prog (callFunc g args) w = .ok (.enter g args) w) ∧ Steps g h ∧
    ∀ w, Calls Try.prog 33 #[.agg #[.int .i64 h.k, .float .f64 h.x]] w fun e w' => e = .returned (.func (.func g) #[.agg #[.int .i64 h.k, .float .f64 h.x]] #[]) ∧ Kp w w' := by
  rcases wrB_kind hw with e | ⟨e, -⟩ | e | e
  · refine ⟨48, Try.call48, hscale_steps h e hX, fun w => ?_⟩
    rw [e]
    generalize h.x = X
    go_enter Try.func33, Try.ntmps33
    go_wp2
    go_ret
    exact ⟨rfl, Kp.alloc _ _⟩
  · refine ⟨49, Try.call49, hclip_steps h e hX, fun w => ?_⟩
    rw [e]
    generalize h.x = X
    go_enter Try.func33, Try.ntmps33
    go_wp2
    go_ret
    exact ⟨rfl, Kp.alloc _ _⟩
  · refine ⟨50, Try.call50, hzero_steps h e, fun w => ?_⟩
    rw [e]
    generalize h.x = X
    go_enter Try.func33, Try.ntmps33
    go_wp2
    go_ret
    exact ⟨rfl, Kp.alloc _ _⟩
  · refine ⟨51, Try.call51, hfinite_steps h e, fun w => ?_⟩
    rw [e]
    generalize h.x = X
    go_enter Try.func33, Try.ntmps33
    go_wp2
    go_ret
    exact ⟨rfl, Kp.alloc _ _⟩

/-- of numbers after some hooks: the next one -/
theorem st_next {hs : List Hk} {j : Nat} {c0 ds : List Nat} (hj : j < hs.length) (h : hkL (hs.take j) c0 = some (ds.map cn)) :
    hkL (hs.take (j + 1)) c0 = if (hs.getD j hnil).k = 4 ∧ anyB endB ds = true then none else some (ds.map (hkC (hs.getD j hnil))) := by
  rw [hkL_step hj, h]
  show oneH _ _ = _
  unfold oneH
  rw [anyB_cn, List.map_map]
  have e : (hkC (hs.getD j hnil) ∘ cn) = hkC (hs.getD j hnil) := funext fun x => hkC_cn _ x
  rw [e]

set_option maxHeartbeats 4000000 in
theorem do_no (v : Value) (hs : List Hk) (sv dv : Value) (w : World) (h : Hooks w v hs) (hm : mayH hs = false) :
    Calls Try.prog 13 #[v, .agg #[sv, dv]] w fun e w' => e = .returned (.tuple #[.agg #[.slice none 0 0, .slice none 0 0], .int .i64 8]) ∧ Kp w w' := by
  have H := hide h
  have HM := hide hm
  clear h hm
  obtain ⟨W, hW, x1, x2, k0⟩ := boxes_in w sv dv (.slice none 0 0) (.slice none 0 0)
  go_enter Try.func13, Try.ntmps13
  go_wp2_with fail
  rw [← hW]
  clear hW x1
  have X2 := hide x2
  have K0 := hide k0
  have hRS : w.heap.size ≤ w.heap.size + 1 := Nat.le_succ _
  clear x2 k0
  generalize w.heap.size + 1 = R at X2 hRS ⊢
  generalize w.heap.size = B at ⊢
  refine (mayH_run _ hs W ((unhide H).keep (unhide K0))).mono ?_
  rw [unhide HM]
  rintro e w1 ⟨rfl, k1⟩
  have x3 := (unhide X2).keep k1
  obtain ⟨d0, d1, d2, d3, -⟩ := x3.o
  have K1 := hide ((unhide K0).trans k1)
  have z := x3.set (.slice none 0 0) (.slice none 0 0)
  clear k1 x3
  obtain ⟨z0, z1, -, -, -⟩ := z.o
  clear z
  go_wp2
  have KF := hide (((unhide K1).set hRS (i := 0) (.slice none 0 0)).set hRS (i := 1) (.slice none 0 0))
  generalize ((w1.setCell ⟨R, 0, none⟩ (.slice none 0 0)).setCell ⟨R, 1, none⟩ (.slice none 0 0)) = w9 at *
  refine bodyPost_ret (v := .tuple #[.agg #[.slice none 0 0, .slice none 0 0], .int .i64 8]) (by simp [results, Try.results13, go_sem, z0, z1]) rfl ⟨rfl, unhide KF⟩

set_option maxHeartbeats 4000000 in
theorem do_ten (v : Value) (hs : List Hk) (sv dv : Value) (s : List Int) (d : List Nat) (w : World) (h : Hooks w v hs) (hs' : Ints w sv s) (hd : Flts w dv d) (hm : mayH hs = true) (ht : mayT s d = false) :
    Calls Try.prog 13 #[v, .agg #[sv, dv]] w fun e w' => e = .returned (.tuple #[.agg #[.slice none 0 0, .slice none 0 0], .int .i64 2]) ∧ Kp w w' := by
  have H := hide h
  have HS := hide hs'
  have HD := hide hd
  have HM := hide hm
  have HT := hide ht
  clear h hm hs' hd ht
  obtain ⟨W, hW, x1, x2, k0⟩ := boxes_in w sv dv (.slice none 0 0) (.slice none 0 0)
  go_enter Try.func13, Try.ntmps13
  go_wp2_with fail
  rw [← hW]
  clear hW
  have X1 := hide x1
  have X2 := hide x2
  have K0 := hide k0
  have hRS : w.heap.size ≤ w.heap.size + 1 := Nat.le_succ _
  clear x1 x2 k0
  generalize w.heap.size + 1 = R at X2 hRS ⊢
  generalize w.heap.size = B at X1 ⊢
  refine (mayH_run _ hs W ((unhide H).keep (unhide K0))).mono ?_
  rw [unhide HM]
  rintro e w1 ⟨rfl, k1⟩
  have K1 := hide ((unhide K0).trans k1)
  have Y2 := hide ((unhide X2).keep k1)
  obtain ⟨c0, c1, -, -, -⟩ := ((unhide X1).keep k1).o
  clear k1 X1 X2
  go_wp2_with fail
  refine (mayT_any _ _ s d w1 ((unhide HS).keep (unhide K1)) ((unhide HD).keep (unhide K1))).mono ?_
  rw [unhide HT]
  rintro e w2 ⟨rfl, k2⟩
  have x3 := (unhide Y2).keep k2
  obtain ⟨d0, d1, d2, d3, -⟩ := x3.o
  have K2 := hide ((unhide K1).trans k2)
  have z := x3.set (.slice none 0 0) (.slice none 0 0)
  clear k2 x3 c0 c1
  obtain ⟨z0, z1, -, -, -⟩ := z.o
  clear z
  go_wp2
  have KF := hide (((unhide K2).set hRS (i := 0) (.slice none 0 0)).set hRS (i := 1) (.slice none 0 0))
  generalize ((w2.setCell ⟨R, 0, none⟩ (.slice none 0 0)).setCell ⟨R, 1, none⟩ (.slice none 0 0)) = w9 at *
  refine bodyPost_ret (v := .tuple #[.agg #[.slice none 0 0, .slice none 0 0], .int .i64 2]) (by simp [results, Try.results13, go_sem, z0, z1]) rfl ⟨rfl, unhide KF⟩

end Go.Proofs.Ytlfjclnocbohbaa
