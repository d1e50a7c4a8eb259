
/- Contracts of Reshape and of Two. -/
import Derived.Test.YtcegkaemcjlfgaaKerC
namespace Go.Proofs.Ytcegkaemcjlfgaa
open Go.RowKit

/-- the error of Reshape -/
def rshE (f : List Int) (d : List Nat) (t : List Int) : Int := if mayT f d = true then (if mayB t = true then (if (d.length : Int) = prodL t then 0 else 3) else szE t) else 2
theorem rshE_no {f : List Int} {d : List Nat} {t : List Int} (h : mayT f d = false) : rshE f d t = 2 := by unfold rshE; rw [h]; rfl
theorem rshE_sz {f : List Int} {d : List Nat} {t : List Int} (h : mayT f d = true) (h2 : mayB t = false) : rshE f d t = szE t := by unfold rshE; rw [h, h2]; rfl
theorem rshE_len {f : List Int} {d : List Nat} {t : List Int} (h : mayT f d = true) (h2 : mayB t = true) (h3 : (d.length : Int) ≠ prodL t) : rshE f d t = 3 := by unfold rshE; rw [h, h2, if_neg h3]; rfl
theorem rshE_yes {f : List Int} {d : List Nat} {t : List Int} (h : mayT f d = true) (h2 : mayT t d = true) : rshE f d t = 0 := by unfold rshE; rw [h, mayT_may h2, if_pos (mayT_len h2)]; rfl
theorem rshE_zero {f : List Int} {d : List Nat} {t : List Int} : rshE f d t = 0 ↔ mayT f d = true ∧ mayT t d = true := by
  constructor
  · intro h
    cases h1 : mayT f d
    · rw [rshE_no h1] at h; omega
    · cases h2 : mayB t
      · rw [rshE_sz h1 h2] at h
        have := szE_no h2
        rw [h] at this
        cases this
      · by_cases h3 : (d.length : Int) = prodL t
        · refine ⟨rfl, ?_⟩
          unfold mayT
          rw [h2, h3]
          simp
        · rw [rshE_len h1 h2 h3] at h; omega
  · rintro ⟨h1, h2⟩
    exact rshE_yes h1 h2

set_option maxHeartbeats 1000000 in
theorem reshape_no (sv dv u : Value) (f t : List Int) (d : List Nat) (w : World) (h : Ints w sv f) (hd : Flts w dv d) (h' : Ints w u t) (hm : (mayT f d && mayT t d) = false) :
    Calls Try.prog 12 #[.agg #[sv, dv], u] w fun e w' => e = .returned (.tuple #[.agg #[.slice none 0 0, .slice none 0 0], .int .i64 (rshE f d t)]) ∧ Kp w w' := by
  have H := hide h
  have HD := hide hd
  have H' := hide h'
  have hr := hd.room
  obtain ⟨p, cp, rfl, -⟩ := hd.val
  clear h hd h'
  have hRS : Hid (w.heap.size ≤ w.heap.size + 1) := Nat.le_succ _
  cases hm1 : mayT f d
  · have HM1 := hide hm1
    have EE := hide (rshE_no (t := t) hm1)
    clear hm hm1
    go_enter Try.func12, Try.ntmps12
    go_wp2_with fail
    obtain ⟨W, hW, x1, x2, k0⟩ := boxes_in w sv (.slice p d.length cp) (.slice none 0 0) (.slice none 0 0)
    rw [← hW]
    clear hW
    have X1 := hide x1
    have X2 := hide x2
    have K0 := hide k0
    clear x1 x2 k0
    generalize w.heap.size + 1 = R at X2 hRS ⊢
    generalize w.heap.size = B at X1 ⊢
    obtain ⟨c0, c1, -, -, -⟩ := (unhide X1).o
    try go_wp2_with fail
    refine (mayT_any _ _ f d W ((unhide H).keep (unhide K0)) ((unhide HD).keep (unhide K0))).mono ?_
    rw [unhide HM1]
    rintro e w1 ⟨rfl, k1⟩
    clear c0 c1
    have x3 := (unhide X2).keep k1
    obtain ⟨d0, d1, d2, d3, -⟩ := x3.o
    have K1 := hide ((unhide K0).trans k1)
    have z2 := x3.set (.slice none 0 0) (.slice none 0 0)
    clear k1 x3
    obtain ⟨z0, z1, -, -, -⟩ := z2.o
    clear z2
    go_wp2
    have KF := hide (((unhide K1).set (unhide hRS) (i := 0) (.slice none 0 0)).set (unhide hRS) (i := 1) (.slice none 0 0))
    generalize ((w1.setCell ⟨R, 0, none⟩ (.slice none 0 0)).setCell ⟨R, 1, none⟩ (.slice none 0 0)) = w9 at *
    refine bodyPost_ret (v := .tuple #[.agg #[.slice none 0 0, .slice none 0 0], .int .i64 2]) (by simp [results, Try.results12, go_sem, z0, z1]) rfl ⟨by rw [unhide EE], unhide KF⟩
  · have HM1 := hide hm1
    rw [hm1, Bool.true_and] at hm
    have NT := hide hm
    have EZ := hide (fun h2 => rshE_sz (t := t) hm1 h2)
    have EL := hide (fun h2 h3 => rshE_len (t := t) hm1 h2 h3)
    clear hm hm1
    go_enter Try.func12, Try.ntmps12
    go_wp2_with fail
    obtain ⟨W, hW, x1, x2, k0⟩ := boxes_in w sv (.slice p d.length cp) (.slice none 0 0) (.slice none 0 0)
    rw [← hW]
    clear hW
    have X1 := hide x1
    have X2 := hide x2
    have K0 := hide k0
    clear x1 x2 k0
    generalize w.heap.size + 1 = R at X2 hRS ⊢
    generalize w.heap.size = B at X1 ⊢
    obtain ⟨c0, c1, -, -, -⟩ := (unhide X1).o
    try go_wp2_with fail
    refine (mayT_any _ _ f d W ((unhide H).keep (unhide K0)) ((unhide HD).keep (unhide K0))).mono ?_
    rw [unhide HM1]
    rintro e w1 ⟨rfl, k1⟩
    clear c0 c1
    have Y1 := hide ((unhide X1).keep k1)
    have Y2 := hide ((unhide X2).keep k1)
    have K1 := hide ((unhide K0).trans k1)
    obtain ⟨c0, c1, -, -, -⟩ := (unhide Y1).o
    clear k1 X1 X2 K0
    go_wp2_with fail
    refine (size_any _ t w1 ((unhide H').keep (unhide K1))).mono ?_
    rintro e w2 ⟨rfl, k2⟩
    clear c0 c1
    have x3 := (unhide Y2).keep k2
    obtain ⟨c0, c1, -, -, -⟩ := ((unhide Y1).keep k2).o
    obtain ⟨d0, d1, d2, d3, -⟩ := x3.o
    have K2 := hide ((unhide K1).trans k2)
    have z2 := x3.set (.slice none 0 0) (.slice none 0 0)
    clear k2 x3
    obtain ⟨z0, z1, -, -, -⟩ := z2.o
    clear z2
    have KF := hide (((unhide K2).set (unhide hRS) (i := 0) (.slice none 0 0)).set (unhide hRS) (i := 1) (.slice none 0 0))
    cases h2 : mayB t
    · have EE := hide (unhide EZ h2)
      have z := szE_ne h2
      clear h2
      generalize szE t = q at *
      generalize szN t = q' at *
      go_wp2
      generalize ((w2.setCell ⟨R, 0, none⟩ (.slice none 0 0)).setCell ⟨R, 1, none⟩ (.slice none 0 0)) = w9 at *
      refine bodyPost_ret (v := .tuple #[.agg #[.slice none 0 0, .slice none 0 0], .int .i64 q]) (by simp [results, Try.results12, go_sem, z0, z1]) rfl ⟨by rw [unhide EE], unhide KF⟩
    · have hne : ¬ (d.length : Int) = prodL t := by
        intro e
        have := unhide NT
        unfold mayT at this
        rw [h2, e] at this
        simp at this
      have EE := hide (unhide EL h2 hne)
      rw [szE_yes h2, szN_yes h2]
      clear h2
      have hne' : (prodL t != (d.length : Int)) = true := by rw [bne_iff_ne]; exact fun e => hne e.symm
      clear hne
      generalize prodL t = q at *
      go_wp2
      generalize ((w2.setCell ⟨R, 0, none⟩ (.slice none 0 0)).setCell ⟨R, 1, none⟩ (.slice none 0 0)) = w9 at *
      refine bodyPost_ret (v := .tuple #[.agg #[.slice none 0 0, .slice none 0 0], .int .i64 3]) (by simp [results, Try.results12, go_sem, z0, z1]) rfl ⟨by rw [unhide EE], unhide KF⟩

set_option maxHeartbeats 1000000 in
theorem reshape_yes (sv dv u : Value) (f t : List Int) (d : List Nat) (w : World) (h : Ints w sv f) (hd : Flts w dv d) (h' : Ints w u t) (hm : mayT f d = true) (ht : mayT t d = true) :
    Calls Try.prog 12 #[.agg #[sv, dv], u] w fun e w' => ∃ a1 n1 c1 G c, e = .returned (.tuple #[.agg #[.slice a1 n1 c1, .slice (some ⟨G, 0, none⟩) d.length c], .int .i64 0]) ∧ Fin w w' t a1 n1 c1 G c d := by
  have H := hide h
  have HD := hide hd
  have H' := hide h'
  have hr := hd.room
  obtain ⟨p, cp, rfl, -⟩ := hd.val
  have HM1 := hide hm
  have HM2 := hide ht
  have hz := szE_yes (mayT_may ht)
  have hz' := (szN_yes (mayT_may ht)).trans (mayT_len ht).symm
  have hRS : Hid (w.heap.size ≤ w.heap.size + 1) := Nat.le_succ _
  clear h hd h' hm ht
  go_enter Try.func12, Try.ntmps12
  go_wp2_with fail
  obtain ⟨W, hW, x1, x2, k0⟩ := boxes_in w sv (.slice p d.length cp) (.slice none 0 0) (.slice none 0 0)
  rw [← hW]
  clear hW
  have X1 := hide x1
  have X2 := hide x2
  have K0 := hide k0
  clear x1 x2 k0
  generalize w.heap.size + 1 = R at X2 hRS ⊢
  generalize w.heap.size = B at X1 ⊢
  obtain ⟨c0, c1, -, -, -⟩ := (unhide X1).o
  try go_wp2_with fail
  refine (mayT_any _ _ f d W ((unhide H).keep (unhide K0)) ((unhide HD).keep (unhide K0))).mono ?_
  rw [unhide HM1]
  rintro e w1 ⟨rfl, k1⟩
  clear c0 c1
  have Y1 := hide ((unhide X1).keep k1)
  have Y2 := hide ((unhide X2).keep k1)
  have K1 := hide ((unhide K0).trans k1)
  obtain ⟨c0, c1, -, -, -⟩ := (unhide Y1).o
  clear k1 X1 X2 K0
  go_wp2_with fail
  refine (size_any _ t w1 ((unhide H').keep (unhide K1))).mono ?_
  rw [hz, hz']
  clear hz hz'
  rintro e w2 ⟨rfl, k2⟩
  clear c0 c1
  have X1 := hide ((unhide Y1).keep k2)
  have X2 := hide ((unhide Y2).keep k2)
  have K2 := hide ((unhide K1).trans k2)
  obtain ⟨c0, c1, -, -, -⟩ := (unhide X1).o
  clear k2 Y1 Y2 K1
  go_wp2_with fail
  refine (of_yes _ _ t d w2 ((unhide H').keep (unhide K2)) ((unhide HD).keep (unhide K2)) (unhide HM2)).mono ?_
  rintro e w4 ⟨a1, n1, c1', G1, c, rfl, o1, hG1, og, k4⟩
  clear c0 c1
  have z := (unhide X2).keep k4
  obtain ⟨d0, d1, d2, d3, -⟩ := z.o
  have z2 := z.set (.slice a1 n1 c1') (.slice (some ⟨G1, 0, none⟩) d.length c)
  obtain ⟨z0, z1, -, -, -⟩ := z2.o
  have FN := hide (Fin.mk' o1 hG1 og (unhide K2) k4 (unhide X2) (unhide hRS))
  clear z z2 og o1 k4 hG1
  go_wp2
  generalize ((w4.setCell ⟨R, 0, none⟩ (.slice a1 n1 c1')).setCell ⟨R, 1, none⟩ (.slice (some ⟨G1, 0, none⟩) d.length c)) = w9 at *
  refine bodyPost_ret (v := .tuple #[.agg #[.slice a1 n1 c1', .slice (some ⟨G1, 0, none⟩) d.length c], .int .i64 0]) (by simp [results, Try.results12, go_sem, z0, z1]) rfl ⟨a1, n1, c1', G1, c, rfl, unhide FN⟩

end Go.Proofs.Ytcegkaemcjlfgaa
