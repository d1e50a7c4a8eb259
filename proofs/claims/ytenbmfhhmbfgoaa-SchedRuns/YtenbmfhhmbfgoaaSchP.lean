
/- A scheduler with the law's own tasks: awake. -/
import Derived.Test.YtenbmfhhmbfgoaaSchO
namespace Go.Proofs.Ytenbmfhhmbfgoaa
open Go.RowKit

def nilL : Value := .slice none 0 0
theorem DeedsAt.nil (w : World) : DeedsAt w (.slice none 0 0) [] := ⟨by simp, none, 0, rfl, by simp⟩
theorem bys_lit (w : World) (x : Int) (h0 : 0 ≤ x) (h1 : x < 256) : Bys (w.alloc (.cells #[.int .u8 x] 5)) (.slice (some ⟨w.heap.size, 0, none⟩) 1 1) [x] := by
  refine ⟨by simp [h0, h1], by simp, some ⟨w.heap.size, 0, none⟩, 1, rfl, fun _ => ⟨w.heap.size, 0, rfl, by simp, fun i hi => ?_⟩⟩
  have : i = 0 := by simp at hi; exact hi
  subst this
  exact cell_lit1 w _ _ _ rfl

theorem tb_made (w : World) (s T : Nat) (Lv : Value) : TB (w.alloc (.cells #[.pointer (some ⟨s, 0, none⟩), Lv, .int .i64 0, .pointer (some ⟨T, 0, none⟩)] 38)) w.heap.size s T Lv 0 := by
  unfold TB
  simp only [World.alloc, Array.getElem?_push_size]
  rfl
theorem told_made {W0 w : World} {s : Nat} {ps : List Int} {F : Nat → Prop} (k0 : Kp W0 w) (sc : Sc w s F ps newS) (hF : ∀ k, F k → W0.heap.size ≤ k) : DO W0 s w.heap.size ps [] [] ⟨[], []⟩ newS (GD F w.heap.size [] (.slice none 0 0)) (w.alloc (.cells #[.slice none 0 0] 31)) := by
  refine DO.start (k0.trans (Kp.alloc _ _)) (sc.keep (Kp.alloc _ _)) hF ?_ (fun e => by have := sc.fb _ e; omega) k0.size
  unfold Boxed
  simp only [World.alloc, Array.getElem?_push_size]
theorem size_alloc (w : World) (o : Obj) : (w.alloc o).heap.size = w.heap.size + 1 := by simp
theorem awake_run (b1 b2 : Nat) : ∃ X, runF [1] (stepD [(nilL, []), (nilL, [])]) 10 (⟨[0, 0], []⟩, goS (goS newS (taskF b1)) (taskF b2)) = (2, 0, (⟨[1, 1], [1, 0]⟩, X)) :=
  ⟨(runF [1] (stepD [(nilL, []), (nilL, [])]) 10 (⟨[0, 0], []⟩, goS (goS newS (taskF b1)) (taskF b2))).2.2.2, by kernel_rfl⟩

set_option maxRecDepth 20000 in
set_option maxHeartbeats 4000000 in
theorem awake15_any (w : World) : Calls Try.prog 9 #[] w fun e w' => e = .returned (.bool true) ∧ Kp w w' := by
  have HN := hide (snew_any _ [1] _ (bys_lit w 1 (by decide) (by decide)))
  have K0 := hide (Kp.alloc w (.cells #[.int .u8 1] 5))
  go_enter Try.func9, Try.ntmps9
  go_wp2_with fail
  refine (unhide HN).mono ?_
  clear HN
  rintro e w1 ⟨s, F, rfl, sc, k1, hF⟩
  have K1 := hide ((unhide K0).trans k1)
  have SC := hide sc
  have HF : Hid (∀ k, F k → w.heap.size ≤ k) := fun k e => Nat.le_trans (unhide K0).size (hF k e)
  clear sc k1 hF K0
  go_wp2_with fail
  have D2 := told_made (unhide K1) (unhide SC) (unhide HF)
  generalize hG : GD F w1.heap.size [] (.slice none 0 0) = G at *
  have hGl : ∀ k, G k → k < w1.heap.size + 1 := fun k e => by have := (D2.lt k e).1; rw [size_alloc] at this; exact this
  have B1 := tb_made (w1.alloc (.cells #[.slice none 0 0] 31)) s w1.heap.size (.slice none 0 0)
  rw [size_alloc] at B1
  have D3 := D2.keep (Kp.alloc _ (.cells #[.pointer (some ⟨s, 0, none⟩), .slice none 0 0, .int .i64 0, .pointer (some ⟨w1.heap.size, 0, none⟩)] 38))
  have B2 := tb_made ((w1.alloc (.cells #[.slice none 0 0] 31)).alloc (.cells #[.pointer (some ⟨s, 0, none⟩), .slice none 0 0, .int .i64 0, .pointer (some ⟨w1.heap.size, 0, none⟩)] 38)) s w1.heap.size (.slice none 0 0)
  rw [size_alloc, size_alloc] at B2
  have k4 := Kp.alloc ((w1.alloc (.cells #[.slice none 0 0] 31)).alloc (.cells #[.pointer (some ⟨s, 0, none⟩), .slice none 0 0, .int .i64 0, .pointer (some ⟨w1.heap.size, 0, none⟩)] 38)) (.cells #[.pointer (some ⟨s, 0, none⟩), .slice none 0 0, .int .i64 0, .pointer (some ⟨w1.heap.size, 0, none⟩)] 38)
  have D4 := hide (D3.keep k4)
  have B1' := hide (B1.of (k4.block _ B1.lt))
  have B2' := hide B2
  have n1 : Hid (¬ G (w1.heap.size + 1)) := fun e => by have := hGl _ e; omega
  have n2 : Hid (∀ k, Fo G (w1.heap.size + 1) k → k ≠ w1.heap.size + 1 + 1) := by
    rintro k (e | e) e2
    · have := hGl _ e; omega
    · omega
  have sz : Hid (w.heap.size ≤ w1.heap.size) := (unhide K1).size
  clear D2 D3 B1 B2 hGl hG SC HF k4
  generalize (((w1.alloc (.cells #[.slice none 0 0] 31)).alloc (.cells #[.pointer (some ⟨s, 0, none⟩), .slice none 0 0, .int .i64 0, .pointer (some ⟨w1.heap.size, 0, none⟩)] 38)).alloc (.cells #[.pointer (some ⟨s, 0, none⟩), .slice none 0 0, .int .i64 0, .pointer (some ⟨w1.heap.size, 0, none⟩)] 38)) = W4 at *
  generalize hT : w1.heap.size = T at *
  refine (go_do (unhide D4) (n := 0) rfl (by decide) (T + 1) (.slice none 0 0) [] (unhide B1') (unhide n1) (by have := unhide sz; omega) (DeedsAt.nil w) (by decide)).mono ?_
  rintro e w2 ⟨rfl, G1, d1, f1⟩
  have m1 : ¬ G1 (T + 1 + 1) := fun e => by
    rcases f1.new _ e with e | e
    · exact unhide n2 _ e rfl
    · have := (unhide B2').lt; omega
  have B3 := (unhide B2').of (f1.block _ (unhide B2').lt (fun e => unhide n2 _ e rfl))
  have C2 := hide (go_do d1 (n := 1) rfl (by decide) (T + 1 + 1) (.slice none 0 0) [] B3 m1 (by have := unhide sz; omega) (DeedsAt.nil w) (by decide))
  clear d1 f1 m1 B3 D4 B1' B2' n1 n2 sz hT
  go_wp2_with fail
  refine (unhide C2).mono ?_
  clear C2
  rintro e w3 ⟨rfl, G2, d2, -⟩
  have C3 := hide (run_do d2 (most := 10) (by decide))
  obtain ⟨X, hX⟩ := awake_run (T + 1) (T + 1 + 1)
  have hX2 : runF [1] (stepD ([] ++ [(Value.slice none 0 0, [])] ++ [(Value.slice none 0 0, [])])) 10 (⟨[] ++ [0] ++ [0], []⟩, goS (goS newS (taskF (T + 1))) (taskF (T + 1 + 1))) = (2, 0, (⟨[1, 1], [1, 0]⟩, X)) := hX
  rw [hX2] at C3
  clear d2 hX hX2
  go_wp2_with fail
  refine (unhide C3).mono ?_
  clear C3
  rintro e w4 ⟨rfl, G3, d3, -⟩
  obtain ⟨a, cap, c0, hc⟩ := d3.told
  obtain ⟨g, rfl, hc2⟩ := hc (by decide)
  have q0 : w4.cell? ⟨g, 0, none⟩ = some (.int .i64 1) := hc2 0 (by decide)
  have q1 : w4.cell? ⟨g, 1, none⟩ = some (.int .i64 0) := hc2 1 (by decide)
  have c1 : w4.cell? ⟨T, 0, none⟩ = some (.slice (some ⟨g, 0, none⟩) 2 cap) := c0
  have KK := hide d3.kp
  clear d3 c0 hc2
  go_wp2_with fail
  go_ret
  exact ⟨rfl, unhide KK⟩

end Go.Proofs.Ytenbmfhhmbfgoaa
