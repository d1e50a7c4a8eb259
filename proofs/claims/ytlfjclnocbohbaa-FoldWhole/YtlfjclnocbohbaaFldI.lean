
/- The contracts of Value. -/
import Derived.Test.YtlfjclnocbohbaaFldH
namespace Go.Proofs.Ytlfjclnocbohbaa
open Go.RowKit

theorem Bx.all {w : World} {R : Nat} {a a' : Option Addr} {n c n' c' : Nat} (h : Bx w R (.slice a n c) (.slice a' n' c')) : AllSl w R :=
  ⟨_, _, h, fun i v hv => by
    match i with
    | 0 => simp at hv; exact ⟨_, _, _, hv.symm⟩
    | 1 => simp at hv; exact ⟨_, _, _, hv.symm⟩
    | i + 2 => simp at hv⟩

set_option maxHeartbeats 1000000 in
theorem value_left (B C m : Nat) (s : List Int) (ts : List Tn) (w : World) (h : Slots w B C m s ts) (hv : 0 < vacN ts) :
    Calls Try.prog 25 #[.pointer (some ⟨B, 0, none⟩)] w fun e w' => e = .returned (.tuple #[.agg #[.slice none 0 0, .slice none 0 0], .int .i64 1]) ∧ Kp w w' := by
  have H := hide h
  have hvm : vacN ts ≤ 1024 := by have := vac_le ts; have := h.len; have := h.max; omega
  clear h
  go_enter Try.func25, Try.ntmps25
  go_upto_region 1 with fail
  obtain ⟨W, hW, x2, k0⟩ := box_in w (.slice none 0 0) (.slice none 0 0)
  rw [← hW]
  clear hW
  generalize hR : w.heap.size = R at x2 ⊢
  have hRS : w.heap.size ≤ R := by omega
  have X2 := hide x2
  have K0 := hide k0
  clear x2 k0 hR
  go_wp2_with fail
  refine (left_any B C m s ts W ((unhide H).keep (unhide K0))).mono ?_
  rintro e w1 ⟨rfl, k1⟩
  have K1 := hide ((unhide K0).trans k1)
  have x2 := (unhide X2).keep k1
  obtain ⟨d0, d1, d2, d3, -⟩ := x2.o
  obtain ⟨z0, z1, -, -, -⟩ := (x2.set (.slice none 0 0) (.slice none 0 0)).o
  have KF := hide (((unhide K1).set hRS (i := 0) (.slice none 0 0)).set hRS (i := 1) (.slice none 0 0))
  clear x2 k1
  generalize vacN ts = v at *
  have hv1 : decide ((0 : Int) < (v : Int)) = true := decide_eq_true (by omega)
  go_wp2
  generalize ((w1.setCell ⟨R, 0, none⟩ (.slice none 0 0)).setCell ⟨R, 1, none⟩ (.slice none 0 0)) = w9 at *
  refine bodyPost_ret (v := .tuple #[.agg #[.slice none 0 0, .slice none 0 0], .int .i64 1]) (by simp [results, Try.results25, go_sem, z0, z1]) rfl ⟨rfl, unhide KF⟩

set_option maxHeartbeats 1000000 in
theorem value_none (B C : Nat) (s : List Int) (ts : List Tn) (w : World) (h : Slots w B C 0 s ts) :
    Calls Try.prog 25 #[.pointer (some ⟨B, 0, none⟩)] w fun e w' => ∃ n : Nat, (n : Int) = prodL s ∧ HandR e w' s (List.replicate n 0) 0 ∧ Kp w w' := by
  have H := hide h
  have hts : ts = [] := List.eq_nil_of_length_eq_zero h.len
  have HV : Hid (vacN ts = 0) := by subst hts; rfl
  have HM := hide h.may
  clear h hts
  go_enter Try.func25, Try.ntmps25
  go_upto_region 1 with fail
  obtain ⟨W, hW, x2, k0⟩ := box_in w (.slice none 0 0) (.slice none 0 0)
  rw [← hW]
  clear hW
  generalize hR : w.heap.size = R at x2 ⊢
  have hRS : w.heap.size ≤ R := by omega
  have X2 := hide x2
  have K0 := hide k0
  clear x2 k0 hR
  go_wp2_with fail
  refine (left_any B C 0 s ts W ((unhide H).keep (unhide K0))).mono ?_
  rw [unhide HV]
  rintro e w1 ⟨rfl, k1⟩
  have K1 := hide ((unhide K0).trans k1)
  have Y2 := hide ((unhide X2).keep k1)
  obtain ⟨a, c, c0, c1, hi⟩ := ((unhide H).keep (unhide K1)).o
  have HI := hide hi
  clear hi k1
  generalize hls : s.length = ls at *
  have HLS := hide hls
  clear hls
  go_wp2_with fail
  refine (new_yes _ s 0 w1 (unhide HI) w64_0 (unhide HM)).mono ?_
  rintro e w2 ⟨a1, n1, e1, G, n, rfl, hn, o1, hG, og, k2⟩
  have FI := hide (Fin.mk' (d := List.replicate n 0) (c := n) o1 hG (by simpa using og) (unhide K1) k2 (unhide Y2) hRS)
  have HN := hide hn
  have x2 := (unhide Y2).keep k2
  obtain ⟨d0, d1, d2, d3, -⟩ := x2.o
  have hx := x2.set (.slice a1 n1 e1) (.slice (some ⟨G, 0, none⟩) n n)
  obtain ⟨z0, z1, -, -, -⟩ := hx.o
  clear x2 hx o1 hG og k2 hn c0 c1
  rw [List.length_replicate] at FI
  go_wp2
  generalize ((w2.setCell ⟨R, 0, none⟩ (.slice a1 n1 e1)).setCell ⟨R, 1, none⟩ (.slice (some ⟨G, 0, none⟩) n n)) = w9 at *
  refine bodyPost_ret (v := .tuple #[.agg #[.slice a1 n1 e1, .slice (some ⟨G, 0, none⟩) n n], .int .i64 0]) (by simp [results, Try.results25, go_sem, z0, z1]) rfl ⟨n, unhide HN, ?_, (unhide FI).kp⟩
  have hmt : mayT s (List.replicate n 0) = true := by
    rw [mayT_yes (unhide HM), List.length_replicate, unhide HN]
    exact beq_self_eq_true _
  have := HandR.fin (unhide FI) hmt (unhide H).o.choose_spec.choose_spec.2.2.wf (by intro x hx; rw [List.eq_of_mem_replicate hx]; exact w64_0)
  rw [List.length_replicate] at this
  exact this

set_option maxHeartbeats 1000000 in
theorem value_all (B C m : Nat) (s : List Int) (ts : List Tn) (w : World) (h : Slots w B C m s ts) (h0 : 0 < m) (hv : vacN ts = 0) :
    Calls Try.prog 25 #[.pointer (some ⟨B, 0, none⟩)] w fun e w' => ∃ ds, HandR e w' (trS ts) ds (trE ts) ∧ ds.map cn = trD ts ∧ Kp w w' := by
  have H := hide h
  have HV := hide hv
  have hm := h.max
  have m0 : ((m : Int) == 0) = false := beq_eq_false_iff_ne.2 (by omega)
  clear h hv
  go_enter Try.func25, Try.ntmps25
  go_upto_region 1 with fail
  obtain ⟨W, hW, x2, k0⟩ := box_in w (.slice none 0 0) (.slice none 0 0)
  rw [← hW]
  clear hW
  generalize hR : w.heap.size = R at x2 ⊢
  have hRS : w.heap.size ≤ R := by omega
  have X2 := hide x2
  have K0 := hide k0
  clear x2 k0 hR
  go_wp2_with fail
  refine (left_any B C m s ts W ((unhide H).keep (unhide K0))).mono ?_
  rw [unhide HV]
  rintro e w1 ⟨rfl, k1⟩
  have K1 := hide ((unhide K0).trans k1)
  have Y2 := hide ((unhide X2).keep k1)
  have H1 := hide ((unhide H).keep (unhide K1))
  obtain ⟨a, c, c0, c1, -⟩ := (unhide H1).o
  clear k1
  generalize s.length = ls at *
  go_wp2_with fail
  refine (tree_all _ ts w1 (unhide H1).tens).mono ?_
  generalize hS : trS ts = S at *
  generalize hE : trE ts = E at *
  generalize hD : trD ts = D at *
  rintro e w2 ⟨ds, ⟨a1, c1', a2, c2', rfl, i1, f1, r1, r2⟩, hc, k2⟩
  have x2 := (unhide Y2).keep k2
  have ALL := hide x2.all
  obtain ⟨d0, d1, d2, d3, -⟩ := x2.o
  obtain ⟨z0, z1, -, -, -⟩ := (x2.set (.slice a1 S.length c1') (.slice a2 ds.length c2')).o
  have kx : Kx R w2 ((w2.setCell ⟨R, 0, none⟩ (.slice a1 S.length c1')).setCell ⟨R, 1, none⟩ (.slice a2 ds.length c2')) := ((Kx.refl R w2).set _ _).set _ _
  have KF := hide ((((unhide K1).trans k2).set hRS (i := 0) (.slice a1 S.length c1')).set hRS (i := 1) (.slice a2 ds.length c2'))
  have I1 := hide (i1.keepS (unhide ALL) kx)
  have F1 := hide (f1.keepS (unhide ALL) kx)
  have HC := hide hc
  have R1 := hide (And.intro r1 r2)
  have HQ := hide (And.intro hS (And.intro hE hD))
  clear x2 kx i1 f1 hc r1 r2 k2 c0 c1 hS hE hD
  go_wp2
  generalize ((w2.setCell ⟨R, 0, none⟩ (.slice a1 S.length c1')).setCell ⟨R, 1, none⟩ (.slice a2 ds.length c2')) = w9 at *
  refine bodyPost_ret (v := .tuple #[.agg #[.slice a1 S.length c1', .slice a2 ds.length c2'], .int .i64 E]) (by simp [results, Try.results25, go_sem, z0, z1]) rfl ⟨ds, by rw [(unhide HQ).1, (unhide HQ).2.1]; exact ⟨a1, c1', a2, c2', rfl, unhide I1, unhide F1, (unhide R1).1, (unhide R1).2⟩, by rw [(unhide HQ).2.2]; exact unhide HC, unhide KF⟩

end Go.Proofs.Ytlfjclnocbohbaa
