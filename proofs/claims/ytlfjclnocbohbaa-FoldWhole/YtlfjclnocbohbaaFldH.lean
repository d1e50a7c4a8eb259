
/- The contracts of Put. -/
import Derived.Test.YtlfjclnocbohbaaFldG
namespace Go.Proofs.Ytlfjclnocbohbaa
open Go.RowKit

theorem of_hand (sv dv : Value) (s : List Int) (d : List Nat) (w : World) (hs : Ints w sv s) (hd : Flts w dv d) (hm : mayT s d = true) :
    Calls Try.prog 28 #[sv, dv] w fun e w' => ∃ a1 c1 a2 c2, e = .returned (.tuple #[.agg #[.slice a1 s.length c1, .slice a2 d.length c2], .int .i64 0]) ∧ Ints w' (.slice a1 s.length c1) s ∧ Flts w' (.slice a2 d.length c2) d ∧ Kp w w' := by
  refine (of_yes sv dv s d w hs hd hm).mono ?_
  rintro e w' ⟨a1, n1, c1, G, c, rfl, o1, hG, og, k⟩
  have hi := o1.ints hs.wf (by have := (may_good (mayT_may hm)).1; omega)
  obtain ⟨a, cap, e, _⟩ := hi.val
  injection e with e1 e2 e3
  subst e1 e2 e3
  exact ⟨_, _, _, _, rfl, hi, og.flts hd.wf (by have := mayT_len hm; have := may_prod (mayT_may hm); omega), k⟩
theorem Slots.frozen {w : World} {B C m : Nat} {s : List Int} {ts : List Tn} (h : Slots w B C m s ts) (i : Nat) : w.frozen? ⟨C, i, none⟩ = false := by
  obtain ⟨cs, h1, _⟩ := h.blk
  simp [World.frozen?, h1]

set_option maxHeartbeats 1000000 in
theorem put_low (B : Nat) (k : Int) (t : Tn) (sv dv : Value) (w : World) (hs : Ints w sv t.s) (hd : Flts w dv t.d) (hk : k < 0) :
    Calls Try.prog 24 #[.pointer (some ⟨B, 0, none⟩), .int .i64 k, .agg #[sv, dv]] w fun e w' => e = .returned (.int .i64 1) ∧ Kp w w' := by
  obtain ⟨p, c, rfl, -⟩ := hs.val
  obtain ⟨p', c', rfl, -⟩ := hd.val
  have hk' : decide (k < 0) = true := decide_eq_true hk
  generalize t.s.length = ls at *
  generalize t.d.length = ld at *
  clear hs hd
  go_enter Try.func24, Try.ntmps24
  go_wp2
  go_ret
  exact ⟨rfl, Kp.alloc _ _⟩

set_option maxHeartbeats 1000000 in
theorem put_high (B C m : Nat) (s : List Int) (ts : List Tn) (k : Int) (t : Tn) (sv dv : Value) (w : World) (h : Slots w B C m s ts) (hs : Ints w sv t.s) (hd : Flts w dv t.d) (hk : (m : Int) ≤ k) :
    Calls Try.prog 24 #[.pointer (some ⟨B, 0, none⟩), .int .i64 k, .agg #[sv, dv]] w fun e w' => e = .returned (.int .i64 1) ∧ Kp w w' := by
  obtain ⟨p, c, rfl, -⟩ := hs.val
  obtain ⟨p', c', rfl, -⟩ := hd.val
  have hm := h.max
  have hk0 : decide (k < 0) = false := decide_eq_false (by omega)
  have hk1 : decide ((m : Int) ≤ k) = true := decide_eq_true hk
  generalize t.s.length = ls at *
  generalize t.d.length = ld at *
  have H := hide h
  clear h hs hd
  go_enter Try.func24, Try.ntmps24
  go_upto_region 1 with fail
  have KA := hide (Kp.alloc w (.cells #[.slice p ls c, .slice p' ld c'] 31))
  generalize (w.alloc (.cells #[.slice p ls c, .slice p' ld c'] 31)) = w1 at *
  obtain ⟨a, c0, c1, c2, -⟩ := ((unhide H).keep (unhide KA)).o
  go_wp2
  go_ret
  exact ⟨rfl, unhide KA⟩

set_option maxHeartbeats 1000000 in
theorem put_full (B C m : Nat) (s : List Int) (ts : List Tn) (k : Nat) (t : Tn) (sv dv : Value) (w : World) (h : Slots w B C m s ts) (hs : Ints w sv t.s) (hd : Flts w dv t.d) (hk : k < m) (hf : (ts.getD k tnil).d.length ≠ 0) :
    Calls Try.prog 24 #[.pointer (some ⟨B, 0, none⟩), .int .i64 k, .agg #[sv, dv]] w fun e w' => e = .returned (.int .i64 1) ∧ Kp w w' := by
  obtain ⟨p, c, rfl, -⟩ := hs.val
  obtain ⟨p', c', rfl, -⟩ := hd.val
  have hm := h.max
  have hk0 : decide ((k : Int) < 0) = false := decide_eq_false (by omega)
  have hk1 : decide ((m : Int) ≤ (k : Int)) = false := decide_eq_false (by omega)
  have hkI : (k : Int) < (m : Int) := by omega
  have hkN : ¬ (k : Int) < 0 := by omega
  generalize t.s.length = ls at *
  generalize t.d.length = ld at *
  have H := hide h
  clear h hs hd
  go_enter Try.func24, Try.ntmps24
  go_upto_region 1 with fail
  have KA := hide (Kp.alloc w (.cells #[.slice p ls c, .slice p' ld c'] 31))
  generalize (w.alloc (.cells #[.slice p ls c, .slice p' ld c'] 31)) = w1 at *
  have h1 := (unhide H).keep (unhide KA)
  obtain ⟨a, c0, c1, c2, -⟩ := h1.o
  obtain ⟨q, cq, q', cq', hc0, hc1, -, hff⟩ := h1.each k hk
  have hr := hff.room
  clear hff h1
  generalize hl0 : (ts.getD k tnil).d.length = l0 at *
  generalize (ts.getD k tnil).s.length = l1 at *
  clear hl0
  go_wp2_with fail
  refine (vacant_any q q' l1 cq l0 cq' w1 (by omega)).mono ?_
  rw [decide_eq_false hf]
  rintro e w2 ⟨rfl, k2⟩
  have K2 := hide ((unhide KA).trans k2)
  clear k2 c1 c2 hc0 hc1
  go_wp2
  go_ret
  exact ⟨rfl, unhide K2⟩

set_option maxHeartbeats 4000000 in
theorem put_shape (B C m : Nat) (s : List Int) (ts : List Tn) (k : Nat) (t : Tn) (sv dv : Value) (w : World) (h : Slots w B C m s ts) (hs : Ints w sv t.s) (hd : Flts w dv t.d) (hk : k < m) (hf : (ts.getD k tnil).d.length = 0) (ht : ofB s t = false) :
    Calls Try.prog 24 #[.pointer (some ⟨B, 0, none⟩), .int .i64 k, .agg #[sv, dv]] w fun e w' => e = .returned (.int .i64 2) ∧ Kp w w' := by
  have HS := hide hs
  have HD := hide hd
  obtain ⟨p, c, rfl, -⟩ := hs.val
  obtain ⟨p', c', rfl, -⟩ := hd.val
  have hm := h.max
  have hk0 : decide ((k : Int) < 0) = false := decide_eq_false (by omega)
  have hk1 : decide ((m : Int) ≤ (k : Int)) = false := decide_eq_false (by omega)
  have hkI : (k : Int) < (m : Int) := by omega
  have hkN : ¬ (k : Int) < 0 := by omega
  have H := hide h
  have HT := hide ht
  clear h hs hd ht
  go_enter Try.func24, Try.ntmps24
  go_upto_region 1 with fail
  have KA := hide (Kp.alloc w (.cells #[.slice p t.s.length c, .slice p' t.d.length c'] 31))
  have XA := hide (Bx.made w (.slice p t.s.length c) (.slice p' t.d.length c'))
  generalize (w.alloc (.cells #[.slice p t.s.length c, .slice p' t.d.length c'] 31)) = w1 at *
  generalize w.heap.size = X at *
  have h1 := (unhide H).keep (unhide KA)
  obtain ⟨a, c0, c1, c2, -⟩ := h1.o
  obtain ⟨q, cq, q', cq', hc0, hc1, -, -⟩ := h1.each k hk
  clear h1
  rw [hf] at hc1
  generalize (ts.getD k tnil).s.length = l1 at *
  go_wp2_with fail
  refine (vacant_any q q' l1 cq 0 cq' w1 (by omega)).mono ?_
  rw [decide_eq_true rfl]
  rintro e w2 ⟨rfl, k2⟩
  have K2 := hide ((unhide KA).trans k2)
  have X2 := hide ((unhide XA).keep k2)
  clear k2 c1 c2 hc0 hc1
  have h2 := (unhide H).keep (unhide K2)
  obtain ⟨a2, c3, c1, c2, hi⟩ := h2.o
  obtain ⟨x0, x1, -, -, xlt⟩ := (unhide X2).o
  have HI := hide hi
  have hbl := h2.ltB
  have CC := hide (fun w0 (k0 : Kp w2 w0) => (isof_any (.slice a2 s.length c3) (.slice p t.s.length c) (.slice p' t.d.length c') s t w0 ((unhide HI).keep k0) ((unhide HS).keep ((unhide K2).trans k0)) ((unhide HD).keep ((unhide K2).trans k0))).mono (R' := fun e w' => e = .returned (.bool false) ∧ Hid (Kp w2 w') ∧ w'.cell? ⟨B, 0, none⟩ = some (.slice a2 s.length c3) ∧ w'.cell? ⟨X, 0, none⟩ = some (.slice p t.s.length c) ∧ w'.cell? ⟨X, 1, none⟩ = some (.slice p' t.d.length c')) (by
    rintro e w' ⟨rfl, k'⟩
    rw [unhide HT]
    exact ⟨rfl, k0.trans k', (Below.cell (k0.trans k') (p := ⟨B, 0, none⟩) hbl).trans c1, (Below.cell (k0.trans k') (p := ⟨X, 0, none⟩) xlt).trans x0, (Below.cell (k0.trans k') (p := ⟨X, 1, none⟩) xlt).trans x1⟩))
  clear hi h2
  generalize s.length = l3 at *
  generalize t.s.length = l4 at *
  generalize t.d.length = l5 at *
  go_wp2_with fail
  go_region_held3 (fun w' => w'.cell? ⟨B, 0, none⟩ = some (.slice a2 l3 c3) ∧ w'.cell? ⟨X, 0, none⟩ = some (.slice p l4 c) ∧ w'.cell? ⟨X, 1, none⟩ = some (.slice p' l5 c')) (go_keep)
    (first | (go_at_call 27; refine ((unhide CC) _ ?_).mono ?_; (first | (exact unhide (by assumption)) | exact Kp.drew w2); rintro e w3 ⟨rfl, K3, e1, e2, e3⟩))
  all_goals (
    have K4 := hide ((unhide K2).trans (unhide K3))
    clear e1 e2 e3
    go_wp2
    go_ret
    exact ⟨rfl, unhide K4⟩)

set_option maxHeartbeats 4000000 in
theorem put_yes (B C m : Nat) (s : List Int) (ts : List Tn) (k : Nat) (t : Tn) (sv dv : Value) (w : World) (h : Slots w B C m s ts) (hs : Ints w sv t.s) (hd : Flts w dv t.d) (hk : k < m) (hf : (ts.getD k tnil).d.length = 0) (ht : ofB s t = true) :
    Calls Try.prog 24 #[.pointer (some ⟨B, 0, none⟩), .int .i64 k, .agg #[sv, dv]] w fun e w' => e = .returned (.int .i64 0) ∧ Slots w' B C m s (ts.set k t) ∧ Kx C w w' := by
  have HS := hide hs
  have HD := hide hd
  obtain ⟨p, c, rfl, -⟩ := hs.val
  obtain ⟨p', c', rfl, -⟩ := hd.val
  have hm := h.max
  have hk0 : decide ((k : Int) < 0) = false := decide_eq_false (by omega)
  have hk1 : decide ((m : Int) ≤ (k : Int)) = false := decide_eq_false (by omega)
  have hkI : (k : Int) < (m : Int) := by omega
  have hkN : ¬ (k : Int) < 0 := by omega
  have H := hide h
  have HT := hide ht
  have HP := hide (mayT_pos (ofB_may ht).1)
  clear h hs hd ht
  go_enter Try.func24, Try.ntmps24
  go_upto_region 1 with fail
  have KA := hide (Kp.alloc w (.cells #[.slice p t.s.length c, .slice p' t.d.length c'] 31))
  have XA := hide (Bx.made w (.slice p t.s.length c) (.slice p' t.d.length c'))
  generalize (w.alloc (.cells #[.slice p t.s.length c, .slice p' t.d.length c'] 31)) = w1 at *
  generalize w.heap.size = X at *
  have h1 := (unhide H).keep (unhide KA)
  obtain ⟨a, c0, c1, c2, -⟩ := h1.o
  obtain ⟨q, cq, q', cq', hc0, hc1, -, -⟩ := h1.each k hk
  clear h1
  rw [hf] at hc1
  generalize (ts.getD k tnil).s.length = l1 at *
  go_wp2_with fail
  refine (vacant_any q q' l1 cq 0 cq' w1 (by omega)).mono ?_
  rw [decide_eq_true rfl]
  rintro e w2 ⟨rfl, k2⟩
  have K2 := hide ((unhide KA).trans k2)
  have X2 := hide ((unhide XA).keep k2)
  clear k2 c1 c2 hc0 hc1
  have h2 := (unhide H).keep (unhide K2)
  obtain ⟨a2, c3, c1, c2, hi⟩ := h2.o
  obtain ⟨x0, x1, -, -, xlt⟩ := (unhide X2).o
  have HI := hide hi
  have hbl := h2.ltB
  have CC := hide (fun w0 (k0 : Kp w2 w0) => (isof_any (.slice a2 s.length c3) (.slice p t.s.length c) (.slice p' t.d.length c') s t w0 ((unhide HI).keep k0) ((unhide HS).keep ((unhide K2).trans k0)) ((unhide HD).keep ((unhide K2).trans k0))).mono (R' := fun e w' => e = .returned (.bool true) ∧ Hid (Kp w2 w') ∧ w'.cell? ⟨B, 0, none⟩ = some (.slice a2 s.length c3) ∧ w'.cell? ⟨X, 0, none⟩ = some (.slice p t.s.length c) ∧ w'.cell? ⟨X, 1, none⟩ = some (.slice p' t.d.length c')) (by
    rintro e w' ⟨rfl, k'⟩
    rw [unhide HT]
    exact ⟨rfl, k0.trans k', (Below.cell (k0.trans k') (p := ⟨B, 0, none⟩) hbl).trans c1, (Below.cell (k0.trans k') (p := ⟨X, 0, none⟩) xlt).trans x0, (Below.cell (k0.trans k') (p := ⟨X, 1, none⟩) xlt).trans x1⟩))
  clear hi h2
  generalize hl3 : s.length = l3 at *
  generalize hl4 : t.s.length = l4 at *
  generalize hl5 : t.d.length = l5 at *
  have HL4 := hide hl4
  have HL5 := hide hl5
  clear hl3 hl4 hl5
  go_wp2_with fail
  go_region_held3 (fun w' => w'.cell? ⟨B, 0, none⟩ = some (.slice a2 l3 c3) ∧ w'.cell? ⟨X, 0, none⟩ = some (.slice p l4 c) ∧ w'.cell? ⟨X, 1, none⟩ = some (.slice p' l5 c')) (go_keep)
    (first | (go_at_call 27; refine ((unhide CC) _ ?_).mono ?_; (first | (exact unhide (by assumption)) | exact Kp.drew w2); rintro e w3 ⟨rfl, K3, e1, e2, e3⟩))
  all_goals (
    have K4 := hide ((unhide K2).trans (unhide K3))
    clear c1 c2 x0 x1
    go_wp2_with fail
    refine (of_hand _ _ t.s t.d w3 ((unhide HS).keep (unhide K4)) ((unhide HD).keep (unhide K4)) (ofB_may (unhide HT)).1).mono ?_
    rw [unhide HL4, unhide HL5]
    rintro e w4 ⟨a1, d1, a3, d3, rfl, i1, f1, k4⟩
    have KA4 := Kp.alloc w4 (.cells #[.slice a1 l4 d1, .slice a3 l5 d3] 31)
    have I1 := hide (i1.keep KA4)
    have F1 := hide (f1.keep KA4)
    have K5 := hide (((unhide K4).trans k4).trans KA4)
    have Y := hide (Bx.made w4 (.slice a1 l4 d1) (.slice a3 l5 d3))
    clear i1 f1 k4 KA4 e1 e2 e3
    go_upto_region 6 with fail
    generalize (w4.alloc (.cells #[.slice a1 l4 d1, .slice a3 l5 d3] 31)) = w5 at *
    generalize w4.heap.size = Y5 at *
    obtain ⟨y0, y1, -, -, -⟩ := (unhide Y).o
    have h5 := (unhide H).keep (unhide K5)
    obtain ⟨a6, c6, c7, c8, -⟩ := h5.o
    obtain ⟨q, cq, q', cq', hc0, hc1, -, -⟩ := h5.each k hk
    have fr0 := h5.frozen (k * 2)
    have fr1 := h5.frozen (k * 2 + 1)
    have SF := hide (fun w0 (k0 : Kp w5 w0) => (h5.keep k0).set hk (t := t) (p := a1) (c := d1) (p' := a3) (c' := d3) (by rw [unhide HL4]; exact (unhide I1).keep k0) (by rw [unhide HL5]; exact (unhide F1).keep k0))
    rw [hf] at hc1
    clear h5
    generalize (ts.getD k tnil).s.length = l1 at *
    go_region
    have SG := unhide SF _ (Kp.drew w5)
    rw [unhide HL4, unhide HL5] at SG
    have SH := hide SG
    have KX := hide (Kp.kx ((unhide K5).trans (Kp.drew w5)) SG.2)
    clear SG SF c7 c8 hc0 hc1 fr0 fr1 y0 y1
    go_wp2
    go_ret
    exact ⟨rfl, (unhide SH).1, unhide KX⟩)

end Go.Proofs.Ytlfjclnocbohbaa
