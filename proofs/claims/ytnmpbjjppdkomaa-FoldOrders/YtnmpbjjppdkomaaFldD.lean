
/- The contract of the document's own Tree. -/
import Derived.Test.YtnmpbjjppdkomaaFldC
import Derived.Test.YtnmpbjjppdkomaaRealD
import Derived.Deep.RegionWith
namespace Go.Proofs.Ytnmpbjjppdkomaa
open Go.RowKit

theorem laid_new8 {w0 w2 : World} {s : List Int} {n m1 c1 G b : Nat} {a1 : Option Addr} (O : Own w2 3 b (.slice a1 m1 c1) s) (hb : w0.heap.size ≤ b) (OG : OwnG w2 44 G n n (List.replicate n 0)) (hG : b ≤ G) (K : Kp w0 w2) :
    Laid w0 (w2.alloc (.cells #[.slice a1 m1 c1, .slice (some ⟨G, 0, none⟩) n n] 28)) s n w2.heap.size a1 m1 c1 G :=
  ⟨Bx.made w2 _ _, OG.keep (Kp.alloc _ _), (O.weak hb).keep (Kp.alloc _ _), K.trans (Kp.alloc _ _), Nat.le_trans hb hG, K.size⟩

theorem infoFlt8 : (Try.prog.info? 44).map (fun i => (i.zero, i.size, i.bytes)) = some (some (.float .f64 0), 1, 8) := by kernel_rfl

set_option maxHeartbeats 4000000 in
theorem rtree_none (v : Value) (ts : List Tn) (w : World) (h : Tens w v ts) (h0 : ts.length = 0) :
    Calls Try.prog 11 #[v] w fun e w' => ∃ ds, HandR e w' (trS ts) ds (trE ts) ∧ ds.map cn = trD ts ∧ Kp w w' := by
  obtain ⟨a, c, rfl, -⟩ := h.val
  have E := hide (tr_none h0)
  have h0' : ((ts.length : Int) == 0) = true := by rw [h0]; rfl
  have mr := h.room
  clear h h0
  generalize ts.length = m at *
  go_enter Try.func11, Try.ntmps11
  go_upto_region 1 with fail
  obtain ⟨W, hW, x2, k0⟩ := box_in w (.slice none 0 0) (.slice none 0 0)
  rw [← hW]
  clear hW
  generalize hR : w.heap.size = R at x2 ⊢
  obtain ⟨d0, d1, d2, d3, -⟩ := x2.o
  have hRS' : w.heap.size ≤ R := by omega
  obtain ⟨z0, z1, -, -, -⟩ := (x2.set (.slice none 0 0) (.slice none 0 0)).o
  have KF := hide ((k0.set hRS' (i := 0) (.slice none 0 0)).set hRS' (i := 1) (.slice none 0 0))
  clear x2 k0 hR
  go_wp2
  generalize ((W.setCell ⟨R, 0, none⟩ (.slice none 0 0)).setCell ⟨R, 1, none⟩ (.slice none 0 0)) = w9 at *
  refine bodyPost_ret (v := .tuple #[.agg #[.slice none 0 0, .slice none 0 0], .int .i64 1]) (by simp [results, Try.results11, go_sem, z0, z1]) rfl ⟨[], by rw [(unhide E).1, (unhide E).2.2]; exact HandR.nil _ _, (unhide E).2.1.symm, unhide KF⟩

set_option maxHeartbeats 4000000 in
theorem rtree_some (v : Value) (ts : List Tn) (w : World) (h : Tens w v ts) (hp : 0 < ts.length) :
    Calls Try.prog 11 #[v] w fun e w' => ∃ ds, HandR e w' (trS ts) ds (trE ts) ∧ ds.map cn = trD ts ∧ Kp w w' := by
  have mr := h.room
  have H := hide h
  obtain ⟨a, c, rfl, -⟩ := h.val
  have h0' : ((ts.length : Int) == 0) = false := beq_eq_false_iff_ne.2 (by omega)
  have hpI : (0 : Int) < (ts.length : Int) := by omega
  obtain ⟨b, off, rfl, hb, hT⟩ := h.one (Kp.refl w) (i := 0) hp
  obtain ⟨p, cp, p', cp', hc0, hc1, hs0, -⟩ := hT
  simp only [Nat.zero_mul, Nat.add_zero] at hc0 hc1
  have S0 := hide hs0
  clear h hs0
  generalize hm : ts.length = m at *
  have HM := hide hm
  clear hm
  generalize hs : (ts.getD 0 tnil).s = s at *
  have HS := hide hs
  clear hs
  go_enter Try.func11, Try.ntmps11
  go_upto_region 1 with fail
  obtain ⟨W, hW, x2, k0⟩ := box_in w (.slice none 0 0) (.slice none 0 0)
  rw [← hW]
  clear hW
  generalize hR : w.heap.size = R at x2 ⊢
  have hRS : w.heap.size ≤ R := by omega
  have X2 := hide x2
  have K0 := hide k0
  have q0 := (Below.cell k0 (p := ⟨b, off, none⟩) hb).trans hc0
  have hbW : b < W.heap.size := Nat.lt_of_lt_of_le hb k0.size
  clear hc0 hc1 hR x2 k0
  generalize s.length = ls at S0 q0 ⊢
  have Q0 := hide q0
  clear q0
  go_wp2
  go_loopw [4] (fun i wr => ∃ k : Nat, k ≤ m ∧ i = .int .i64 k ∧ Hid (∀ j, j < k → ofB s (ts.getD j tnil) = true) ∧ Hid (Kp W wr)) (fun i _ => m - (intOf i).toNat)
  case atStart => exact ⟨0, Nat.zero_le _, rfl, by unfold Hid; omega, Kp.refl _⟩
  case round =>
    obtain ⟨k, hk, rfl, HA, KR⟩ := hrel
    generalize wr = w5 at *
    by_cases hlt : k < m
    · have hltI : (k : Int) < (m : Int) := by omega
      obtain ⟨b0, o0, e0, hb', hT⟩ := (unhide H).one ((unhide K0).trans (unhide KR)) (i := k) (by rw [unhide HM]; exact hlt)
      cases e0
      obtain ⟨p5, cp5, p5', cp5', hc0, hc1, hi, hf⟩ := hT
      have HI := hide hi
      have HF := hide hf
      have HC0 := hide hc0
      have HC1 := hide hc1
      have hq0 := (Below.cell (unhide KR) (p := ⟨b, off, none⟩) hbW).trans (unhide Q0)
      have HB5 := hide hb'
      clear hi hf
      generalize htk : ts.getD k tnil = tk at *
      have HTK := hide htk
      clear htk
      have KEEP : Hid (∀ w', Kp w5 w' → w'.cell? ⟨b, off + k * 2, none⟩ = some (.slice p5 tk.s.length cp5) ∧ w'.cell? ⟨b, off + k * 2 + 1, none⟩ = some (.slice p5' tk.d.length cp5') ∧ w'.cell? ⟨b, off, none⟩ = some (.slice p ls cp)) := fun w' k' =>
        ⟨(Below.cell k' (p := ⟨b, off + k * 2, none⟩) (unhide HB5)).trans (unhide HC0), (Below.cell k' (p := ⟨b, off + k * 2 + 1, none⟩) (unhide HB5)).trans (unhide HC1), (Below.cell k' (p := ⟨b, off, none⟩) (unhide HB5)).trans hq0⟩
      have C1 := hide (fun w0 (k0 : Kp w5 w0) => (rmayT_any (.slice p5 tk.s.length cp5) (.slice p5' tk.d.length cp5') tk.s tk.d w0 ((unhide HI).keep k0) ((unhide HF).keep k0)).mono (R' := fun e w' => e = .returned (.bool (mayT tk.s tk.d)) ∧ Hid (Kp w5 w') ∧ w'.cell? ⟨b, off + k * 2, none⟩ = some (.slice p5 tk.s.length cp5) ∧ w'.cell? ⟨b, off + k * 2 + 1, none⟩ = some (.slice p5' tk.d.length cp5') ∧ w'.cell? ⟨b, off, none⟩ = some (.slice p ls cp)) (by
        rintro e w' ⟨rfl, k'⟩
        exact ⟨rfl, k0.trans k', unhide KEEP _ (k0.trans k')⟩))
      have C2 := hide (fun w0 (k0 : Kp w5 w0) => (rsame_any (.slice p5 tk.s.length cp5) (.slice p ls cp) tk.s s w0 ((unhide HI).keep k0) ((unhide S0).keep ((unhide K0).trans ((unhide KR).trans k0)))).mono (R' := fun e w' => e = .returned (.bool (sameB tk.s s)) ∧ Hid (Kp w5 w') ∧ w'.cell? ⟨b, off + k * 2, none⟩ = some (.slice p5 tk.s.length cp5) ∧ w'.cell? ⟨b, off + k * 2 + 1, none⟩ = some (.slice p5' tk.d.length cp5') ∧ w'.cell? ⟨b, off, none⟩ = some (.slice p ls cp)) (by
        rintro e w' ⟨rfl, k'⟩
        exact ⟨rfl, k0.trans k', unhide KEEP _ (k0.trans k')⟩))
      generalize hs1 : tk.s.length = l1 at *
      generalize hs2 : tk.d.length = l2 at *
      clear hs1 hs2
      cases hof : ofB s tk
      · have E : Hid (trS ts = [] ∧ trD ts = [] ∧ trE ts = 2) := tr_no (by rw [unhide HM]; omega) (k := k) (by rw [unhide HM]; exact hlt) (by rw [unhide HS, unhide HTK]; exact hof)
        cases hmt : mayT tk.s tk.d
        · rw [hmt] at C1
          clear hof hmt
          go_wp2_with fail
          refine wp_region_any (by kernel_rfl) ?_
          try (change wpAny _ _ _ _ _ _ _ (World.drew _))
          refine wpAny_take (i := 0) (v := ?_) rfl (by kernel_rfl) (by kernel_rfl) (by kernel_rfl) (fun _ _ _ h => h) (Or.inl ⟨by kernel_rfl, ?_⟩) ?_
          rotate_left
          focus (intro w; go_simp; try with_reducible rfl)
          simp only [List.getElem_toArray, List.getElem_cons_zero, Act.put, List.setIfInBounds_toArray, List.set_cons_zero, List.set_cons_succ]
          refine wpAny_take (i := 1) (v := ?_) rfl (by kernel_rfl) (by kernel_rfl) (by kernel_rfl) (fun _ _ _ h => h) (Or.inl ⟨by kernel_rfl, ?_⟩) ?_
          rotate_left
          focus (intro w; go_simp; try with_reducible rfl)
          simp only [List.getElem_toArray, List.getElem_cons_succ, List.getElem_cons_zero, Act.put, List.setIfInBounds_toArray, List.set_cons_zero, List.set_cons_succ]
          refine wpAny_ready (rs := [2]) (by kernel_rfl) (by simp) ?_
          refine AllReady.cons rfl (fun K hK => ?_) AllReady.nil
          go_simp
          refine hK _ _ ?_
          clear hK K
          refine wpAny_ready (rs := [3]) (by kernel_rfl) (by simp) ?_
          refine AllReady.cons rfl (fun K hK => ?_) AllReady.nil
          go_simp
          refine hK _ _ ?_
          clear hK K
          refine wpAny_ready (rs := [4]) (by kernel_rfl) (by simp) ?_
          refine AllReady.cons rfl (fun K hK => ?_) AllReady.nil
          go_simp
          go_wp2_with (go_at_call 23; refine ((unhide C1) _ ?_).mono ?_; (first | (exact unhide (by assumption)) | exact Kp.drew w5); rintro e w7 ⟨rfl, K7, hc0, hc1, hq0⟩)
          refine wpAny_take (i := 5) (v := ?_) rfl (by kernel_rfl) (by kernel_rfl) (by kernel_rfl) (fun _ _ _ h => h) (Or.inl ⟨by kernel_rfl, ?_⟩) ?_
          rotate_left
          focus (intro w; go_simp; try with_reducible rfl)
          simp only [List.getElem_toArray, List.getElem_cons_succ, List.getElem_cons_zero, Act.put, List.setIfInBounds_toArray, List.set_cons_zero, List.set_cons_succ]
          refine wpAny_take (i := 6) (v := ?_) rfl (by kernel_rfl) (by kernel_rfl) (by kernel_rfl) (fun _ _ _ h => h) (Or.inl ⟨by kernel_rfl, ?_⟩) ?_
          rotate_left
          focus (intro w; go_simp; try with_reducible rfl)
          simp only [List.getElem_toArray, List.getElem_cons_succ, List.getElem_cons_zero, Act.put, List.setIfInBounds_toArray, List.set_cons_zero, List.set_cons_succ]
          refine wpAny_take (i := 7) (v := undef) rfl (by kernel_rfl) (by kernel_rfl) (by kernel_rfl) (fun _ _ _ h => h) (Or.inr ⟨by kernel_rfl, rfl⟩) ?_
          simp only [List.getElem_toArray, List.getElem_cons_succ, List.getElem_cons_zero, Act.put, List.setIfInBounds_toArray, List.set_cons_zero, List.set_cons_succ]
          refine wpAny_take (i := 8) (v := undef) rfl (by kernel_rfl) (by kernel_rfl) (by kernel_rfl) (fun _ _ _ h => h) (Or.inr ⟨by kernel_rfl, rfl⟩) ?_
          simp only [List.getElem_toArray, List.getElem_cons_succ, List.getElem_cons_zero, Act.put, List.setIfInBounds_toArray, List.set_cons_zero, List.set_cons_succ]
          refine wpAny_take (i := 9) (v := undef) rfl (by kernel_rfl) (by kernel_rfl) (by kernel_rfl) (fun _ _ _ h => h) (Or.inr ⟨by kernel_rfl, rfl⟩) ?_
          simp only [List.getElem_toArray, List.getElem_cons_succ, List.getElem_cons_zero, Act.put, List.setIfInBounds_toArray, List.set_cons_zero, List.set_cons_succ]
          refine wpAny_take (i := 10) (v := undef) rfl (by kernel_rfl) (by kernel_rfl) (by kernel_rfl) (fun _ _ _ h => h) (Or.inr ⟨by kernel_rfl, rfl⟩) ?_
          simp only [List.getElem_toArray, List.getElem_cons_succ, List.getElem_cons_zero, Act.put, List.setIfInBounds_toArray, List.set_cons_zero, List.set_cons_succ]
          refine wpAny_take (i := 11) (v := undef) rfl (by kernel_rfl) (by kernel_rfl) (by kernel_rfl) (fun _ _ _ h => h) (Or.inr ⟨by kernel_rfl, rfl⟩) ?_
          simp only [List.getElem_toArray, List.getElem_cons_succ, List.getElem_cons_zero, Act.put, List.setIfInBounds_toArray, List.set_cons_zero, List.set_cons_succ]
          refine wpAny_take (i := 12) (v := undef) rfl (by kernel_rfl) (by kernel_rfl) (by kernel_rfl) (fun _ _ _ h => h) (Or.inr ⟨by kernel_rfl, rfl⟩) ?_
          simp only [List.getElem_toArray, List.getElem_cons_succ, List.getElem_cons_zero, Act.put, List.setIfInBounds_toArray, List.set_cons_zero, List.set_cons_succ]
          refine wpAny_take (i := 13) (v := undef) rfl (by kernel_rfl) (by kernel_rfl) (by kernel_rfl) (fun _ _ _ h => h) (Or.inr ⟨by kernel_rfl, rfl⟩) ?_
          simp only [List.getElem_toArray, List.getElem_cons_succ, List.getElem_cons_zero, Act.put, List.setIfInBounds_toArray, List.set_cons_zero, List.set_cons_succ]
          refine wpAny_take (i := 14) (v := undef) rfl (by kernel_rfl) (by kernel_rfl) (by kernel_rfl) (fun _ _ _ h => h) (Or.inr ⟨by kernel_rfl, rfl⟩) ?_
          simp only [List.getElem_toArray, List.getElem_cons_succ, List.getElem_cons_zero, Act.put, List.setIfInBounds_toArray, List.set_cons_zero, List.set_cons_succ]
          refine wpAny_take (i := 15) (v := undef) rfl (by kernel_rfl) (by kernel_rfl) (by kernel_rfl) (fun _ _ _ h => h) (Or.inr ⟨by kernel_rfl, rfl⟩) ?_
          simp only [List.getElem_toArray, List.getElem_cons_succ, List.getElem_cons_zero, Act.put, List.setIfInBounds_toArray, List.set_cons_zero, List.set_cons_succ]
          refine wpAny_take (i := 16) (v := undef) rfl (by kernel_rfl) (by kernel_rfl) (by kernel_rfl) (fun _ _ _ h => h) (Or.inr ⟨by kernel_rfl, rfl⟩) ?_
          simp only [List.getElem_toArray, List.getElem_cons_succ, List.getElem_cons_zero, Act.put, List.setIfInBounds_toArray, List.set_cons_zero, List.set_cons_succ]
          refine wpAny_take (i := 17) (v := undef) rfl (by kernel_rfl) (by kernel_rfl) (by kernel_rfl) (fun _ _ _ h => h) (Or.inr ⟨by kernel_rfl, rfl⟩) ?_
          simp only [List.getElem_toArray, List.getElem_cons_succ, List.getElem_cons_zero, Act.put, List.setIfInBounds_toArray, List.set_cons_zero, List.set_cons_succ]
          refine wpAny_take (i := 18) (v := ?_) rfl (by kernel_rfl) (by kernel_rfl) (by kernel_rfl) (fun _ _ _ h => h) (Or.inl ⟨by kernel_rfl, ?_⟩) ?_
          rotate_left
          focus (intro w; go_simp; try with_reducible rfl)
          simp only [List.getElem_toArray, List.getElem_cons_succ, List.getElem_cons_zero, Act.put, List.setIfInBounds_toArray, List.set_cons_zero, List.set_cons_succ]
          refine wpAny_done (by kernel_rfl) ?_ _
          all_goals (
            have x2 := (unhide X2).keep ((unhide KR).trans (unhide K7))
            obtain ⟨d0, d1, d2, d3, -⟩ := x2.o
            obtain ⟨z0, z1, -, -, -⟩ := (x2.set (.slice none 0 0) (.slice none 0 0)).o
            have KF := hide ((((unhide K0).trans ((unhide KR).trans (unhide K7))).set hRS (i := 0) (.slice none 0 0)).set hRS (i := 1) (.slice none 0 0))
            clear x2
            go_wp2
            generalize ((w7.setCell ⟨R, 0, none⟩ (.slice none 0 0)).setCell ⟨R, 1, none⟩ (.slice none 0 0)) = w9 at *
            refine bodyPost_ret (v := .tuple #[.agg #[.slice none 0 0, .slice none 0 0], .int .i64 2]) (by simp [results, Try.results11, go_sem, z0, z1]) rfl ⟨[], by rw [(unhide E).1, (unhide E).2.2]; exact HandR.nil _ _, (unhide E).2.1.symm, unhide KF⟩)
        · have hsb : sameB tk.s s = false := by rw [← ofB_yes hmt]; exact hof
          rw [hmt] at C1
          rw [hsb] at C2
          clear hof hmt hsb
          go_wp2_with fail
          go_region_held3 (fun w' => w'.cell? ⟨b, off + k * 2, none⟩ = some (.slice p5 l1 cp5) ∧ w'.cell? ⟨b, off + k * 2 + 1, none⟩ = some (.slice p5' l2 cp5') ∧ w'.cell? ⟨b, off, none⟩ = some (.slice p ls cp)) (go_keep)
            (first
            | (go_at_call 23; refine ((unhide C1) _ ?_).mono ?_; (first | (exact unhide (by assumption)) | exact Kp.drew w5); rintro e w6 ⟨rfl, K6, hc0, hc1, hq0⟩)
            | (go_at_call 24; refine ((unhide C2) _ ?_).mono ?_; (first | (exact unhide (by assumption)) | exact Kp.drew w5); rintro e w7 ⟨rfl, K7, hc0, hc1, hq0⟩))
          all_goals (
            have x2 := (unhide X2).keep ((unhide KR).trans (unhide K7))
            obtain ⟨d0, d1, d2, d3, -⟩ := x2.o
            obtain ⟨z0, z1, -, -, -⟩ := (x2.set (.slice none 0 0) (.slice none 0 0)).o
            have KF := hide ((((unhide K0).trans ((unhide KR).trans (unhide K7))).set hRS (i := 0) (.slice none 0 0)).set hRS (i := 1) (.slice none 0 0))
            clear x2
            go_wp2
            generalize ((w7.setCell ⟨R, 0, none⟩ (.slice none 0 0)).setCell ⟨R, 1, none⟩ (.slice none 0 0)) = w9 at *
            refine bodyPost_ret (v := .tuple #[.agg #[.slice none 0 0, .slice none 0 0], .int .i64 2]) (by simp [results, Try.results11, go_sem, z0, z1]) rfl ⟨[], by rw [(unhide E).1, (unhide E).2.2]; exact HandR.nil _ _, (unhide E).2.1.symm, unhide KF⟩)
      · have hmt := (ofB_may hof).1
        have hsb : sameB tk.s s = true := by rw [← ofB_yes hmt]; exact hof
        rw [hmt] at C1
        rw [hsb] at C2
        have HA2 : Hid (∀ j, j < k + 1 → ofB s (ts.getD j tnil) = true) := by
          intro j hj
          by_cases e : j = k
          · subst e; rw [unhide HTK]; exact hof
          · exact unhide HA j (by omega)
        clear hof hmt hsb
        go_wp2_with fail
        go_region_held3 (fun w' => w'.cell? ⟨b, off + k * 2, none⟩ = some (.slice p5 l1 cp5) ∧ w'.cell? ⟨b, off + k * 2 + 1, none⟩ = some (.slice p5' l2 cp5') ∧ w'.cell? ⟨b, off, none⟩ = some (.slice p ls cp)) (go_keep)
            (first
            | (go_at_call 23; refine ((unhide C1) _ ?_).mono ?_; (first | (exact unhide (by assumption)) | exact Kp.drew w5); rintro e w6 ⟨rfl, K6, hc0, hc1, hq0⟩)
            | (go_at_call 24; refine ((unhide C2) _ ?_).mono ?_; (first | (exact unhide (by assumption)) | exact Kp.drew w5); rintro e w7 ⟨rfl, K7, hc0, hc1, hq0⟩))
        all_goals (
          have K8 := hide ((unhide KR).trans (unhide K7))
          clear hc0 hc1 hq0
          go_wp2
          go_roundw
          case rel => exact ⟨k + 1, by omega, by go_num, unhide HA2, unhide K8⟩
          case measure => simp [intOf]; omega)
    · obtain rfl : k = m := by omega
      have E : Hid (trS ts = (ts.getD 0 tnil).s ∧ trD ts = (List.range (ts.getD 0 tnil).d.length).map (fun j => foldC (colL ts j)) ∧ trE ts = 0) := tr_yes (by rw [unhide HM]; omega) (by rw [unhide HM, unhide HS]; exact unhide HA)
      have HT0 := unhide HA 0 (by omega)
      obtain ⟨hmt, hse⟩ := ofB_may HT0
      have hn1 : (ts.getD 0 tnil).d.length ≤ 4096 := by have := mayT_len hmt; have := may_prod (mayT_may hmt); omega
      have HN : Hid (∀ i, i < k → (ts.getD i tnil).d.length = (ts.getD 0 tnil).d.length) := fun i hi => of_len_eq (unhide HA i hi) HT0
      have HML := hide (mayT_len hmt)
      have HMT := hide hmt
      rw [unhide HS] at E HMT HML
      clear HT0 hmt hse
      generalize hn : (ts.getD 0 tnil).d.length = n at *
      have HMB := hide (mayT_may (unhide HMT))
      have hq0 := (Below.cell (unhide KR) (p := ⟨b, off, none⟩) hbW).trans (unhide Q0)
      have HND := hide hn
      clear hn
      go_wp2_with fail
      refine (rnew_yes _ s 0 w5 ((unhide S0).keep ((unhide K0).trans (unhide KR))) (unhide HMB)).mono ?_
      rintro e w6 ⟨a1, m1, c1, G, n', rfl, hn', o1, hG, og, k6⟩
      obtain rfl : n' = n := by have := unhide HML; omega
      have L := hide (laid_new8 o1 (Nat.le_refl _) og hG k6)
      have Y2 := hide ((unhide X2).keep ((unhide KR).trans (k6.trans (Kp.alloc _ (.cells #[.slice a1 m1 c1, .slice (some ⟨G, 0, none⟩) n' n'] 28)))))
      clear hn' o1 hG og k6 hq0
      go_upto_region 9 with fail
      generalize (w6.alloc (.cells #[.slice a1 m1 c1, .slice (some ⟨G, 0, none⟩) n' n'] 28)) = w7 at *
      generalize w6.heap.size = TB at *
      have hTG : ¬ TB = G := (unhide L).bx.neG (unhide L).og (by decide)
      have hRG : ¬ R = G := (unhide Y2).neG (unhide L).og (by decide)
      have K05 := hide ((unhide K0).trans (unhide KR))
      have K07 := hide ((unhide K05).trans (unhide L).kp)
      have GW : Hid (w.heap.size ≤ G) := Nat.le_trans (unhide K05).size (unhide L).gG
      have INFO := hide infoFlt8
      have hst : ∀ (a : Addr) (x : Nat) (w : World), (store a (.float .f64 x)).run Try.prog w = stored Try.prog w a (.float .f64 x) .plain := fun a x w => run_store _ w a _ _ rfl
      clear HA KR X2 Q0 HMB
      go_wp2
      go_loopw [7] (fun i wr => ∃ (j : Nat) (ms : List Nat), j ≤ n' ∧ i = .int .i64 j ∧ Hid (ms.length = j) ∧ Hid (OwnG wr 44 G n' n' (ms ++ List.replicate (n' - j) 0)) ∧ Hid (∀ x ∈ ms, W64 x) ∧ Hid (∀ q, q < j → cn (ms.getD q 0) = foldC (colL ts q)) ∧ Hid (Kx G w7 wr)) (fun i _ => n' - (intOf i).toNat)
      case atStart => exact ⟨0, [], Nat.zero_le _, rfl, rfl, (unhide L).og, by simp [Hid], by unfold Hid; omega, Kx.refl _ _⟩
      case round =>
        obtain ⟨j, ms, hj, rfl, HL, OG, HW, HF, KX⟩ := hrel
        generalize wr = w8 at *
        have tb := (unhide L).bx.keepx (unhide KX) hTG
        by_cases hlj : j < n'
        · have hljI : (j : Int) < (n' : Int) := by omega
          obtain ⟨t0, t1, -, -, -⟩ := tb.o
          have K08 : Hid (Kp w w8) := Kx.after (unhide K07) (unhide KX) (unhide GW)
          have TB8 := hide tb
          clear tb
          go_wp2
          clear t0 t1
          go_loopw [9, 8] (fun i v wr => ∃ q : Nat, q ≤ k ∧ i = .int .i64 q ∧ Hid (OwnF wr 44 w8.heap.size v ((colL ts j).take q)) ∧ Hid (Kp w8 wr)) (fun i _ _ => k - (intOf i).toNat)
          case atStart => exact ⟨0, Nat.zero_le _, rfl, OwnF.nil _ _ _, Kp.refl _⟩
          case round =>
            obtain ⟨q, hq, rfl, OV, KV⟩ := hrel
            generalize wr = w9 at *
            by_cases hlq : q < k
            · have hlqI : (q : Int) < (k : Int) := by omega
              obtain ⟨b0, o0, e0, hb', hT⟩ := (unhide H).one ((unhide K08).trans (unhide KV)) (i := q) (by rw [unhide HM]; exact hlq)
              cases e0
              obtain ⟨p5, cp5, p5', cp5', hc0, hc1, -, hf⟩ := hT
              obtain ⟨b1, o1, rfl, hb1, hcn⟩ := flts_at' hf (by rw [unhide HN q hlq]; omega)
              have hck := hcn j (by rw [unhide HN q hlq]; omega)
              have WX := hide (hf.getD (k := j) (by rw [unhide HN q hlq]; omega))
              rw [← colL_getD] at hck WX
              rw [unhide HN q hlq] at hc1
              clear hf hcn hc0
              have E2 := hide (takeN_snoc (xs := colL ts j) (k := q) (by rw [colL_length, unhide HM]; exact hlq))
              have LN : Hid (((colL ts j).take q).length = q) := by unfold Hid; rw [List.length_take, colL_length, unhide HM]; omega
              generalize (colL ts j).getD q 0 = x at *
              have qa := Kp.alloc w9 (.cells #[.float .f64 x] 44)
              have OW := hide ((unhide OV).keep qa)
              have AP := hide (lit_one w9 x (unhide WX))
              have RM : Hid ((((colL ts j).take q).length + [x].length) * 8 ≤ 140737488351232) := by unfold Hid; rw [unhide LN, List.length_singleton]; omega
              have BS : Hid (w8.heap.size ≤ (w9.alloc (.cells #[.float .f64 x] 44)).heap.size) := ((unhide KV).trans qa).size
              have QA := hide ((unhide KV).trans qa)
              clear qa
              go_wp2_with (at_builtin; go_must (refine wpList_append_flts_at _ rfl (.tmp 61) (.tmp 70) 26 rfl w8.heap.size 44 (unhide INFO) Try.underlying26 _ _ ((colL ts j).take q) [x] rfl rfl (unhide OW) (unhide AP) (unhide RM) (unhide BS) ?_); intro v2 w10 o2 g2)
              have q2 : Kp w8 w10 := Kp.of_grown (unhide QA) g2 (fun k hk => (unhide OW).block k hk)
              have O2 := hide o2
              have Q2 := hide q2
              clear o2 q2 g2 OW AP RM BS QA hc1 hck
              go_wp2
              go_roundw
              case rel => exact ⟨q + 1, by omega, by go_num, by rw [unhide E2]; exact unhide O2, unhide Q2⟩
              case measure => simp [intOf]; omega
            · obtain rfl : q = k := by omega
              have E2 : Hid ((colL ts j).take q = colL ts j) := List.take_of_length_le (by rw [colL_length, unhide HM]; exact Nat.le_refl _)
              rw [unhide E2] at OV
              have FL := hide ((unhide OV).flts ((unhide H).w64 j) (by rw [colL_length, unhide HM]; omega))
              have RU : Hid (Roomy _) := (unhide OV).lens
              obtain ⟨a0, n0, cc0, rfl⟩ := (unhide OV).sl
              clear E2
              have hlen : (ms ++ List.replicate (n' - j) 0).length = n' := by have := unhide HL; rw [List.length_append, List.length_replicate]; omega
              have T9 := hide ((unhide TB8).keep (unhide KV))
              have O9 := hide ((unhide OG).keep (unhide KV))
              have hgc := (unhide O9).cell (i := j) hlj
              have hgf := (unhide O9).frozen j
              have CC := hide (fun w0 (kp : Kp w9 w0) => (rfold_any (colL ts j).length (.slice a0 n0 cc0) (colL ts j) w0 (Nat.le_refl _) ((unhide FL).keep kp) (unhide RU)).mono (R' := fun e w' => ∃ r, e = .returned (.float .f64 r) ∧ Hid (cn r = foldC (colL ts j) ∧ W64 r) ∧ Hid (Kp w9 w') ∧ w'.cell? ⟨TB, 1, none⟩ = some (.slice (some ⟨G, 0, none⟩) n' n') ∧ w'.cell? ⟨G, j, none⟩ = some (.float .f64 ((ms ++ List.replicate (n' - j) 0).getD j 0)) ∧ w'.frozen? ⟨G, j, none⟩ = false) (by
                rintro e w' ⟨r, rfl, hr, -, k'⟩
                exact ⟨r, rfl, hr, kp.trans k', ((unhide T9).keep (kp.trans k')).c1, ((unhide O9).keep (kp.trans k')).cell hlj, ((unhide O9).keep (kp.trans k')).frozen j⟩))
              obtain ⟨t0, t1, -, -, -⟩ := (unhide T9).o
              have hs1 : ∀ (w : World) (v : Value) (o : Nat), (w.setCell ⟨G, j, none⟩ v).cell? ⟨TB, o, none⟩ = w.cell? ⟨TB, o, none⟩ := fun w v o => cell_other hTG w v
              have HD : Hid (∀ r, (ms ++ List.replicate (n' - j) 0).set j r = (ms ++ [r]) ++ List.replicate (n' - (j + 1)) 0) := by
                intro r
                have e1 := unhide HL
                rw [List.set_append_right _ _ (by omega), e1, Nat.sub_self, show n' - j = (n' - (j + 1)) + 1 by omega, List.replicate_succ, List.set_cons_zero, List.append_assoc]
                rfl
              clear hlen
              generalize (ms ++ List.replicate (n' - j) 0).getD j 0 = old at *
              go_wp2_with fail
              go_region_held3 (fun w' => w'.cell? ⟨TB, 1, none⟩ = some (.slice (some ⟨G, 0, none⟩) n' n')) (go_keep)
                (first
                  | (go_at_call 26; refine ((unhide CC) _ ?_).mono ?_; (first | (exact unhide (by assumption)) | exact Kp.drew w9); rintro e w10 ⟨r, rfl, HR, K10, e1, e2, e3⟩))
              all_goals (
                have OG' := hide (((unhide O9).keep (unhide K10)).set j r)
                rw [unhide HD r] at OG'
                have KX' := hide (((unhide KX).kp ((unhide KV).trans (unhide K10))).set j (.float .f64 r))
                have HL2 : Hid ((ms ++ [r]).length = j + 1) := by unfold Hid; simp [unhide HL]
                have HW2 : Hid (∀ x ∈ ms ++ [r], W64 x) := by
                  intro y hy
                  rcases List.mem_append.1 hy with h | h
                  · exact unhide HW y h
                  · rw [List.mem_singleton.1 h]
                    exact (unhide HR).2
                have HF2 : Hid (∀ q, q < j + 1 → cn ((ms ++ [r]).getD q 0) = foldC (colL ts q)) := by
                  intro q hq
                  have e1 := unhide HL
                  by_cases e : q = j
                  · subst e
                    have : (ms ++ [r]).getD q 0 = r := by rw [← e1]; simp
                    rw [this]
                    exact (unhide HR).1
                  · rw [List.getD_eq_getElem?_getD, List.getElem?_append_left (by omega), ← List.getD_eq_getElem?_getD]
                    exact unhide HF q (by omega)
                clear e1 e2 e3 hgc hgf t0 t1 hs1
                generalize w10.setCell ⟨G, j, none⟩ (.float .f64 r) = w11 at *)
              all_goals (
                go_wp2
                go_roundw
                case rel => exact ⟨j + 1, ms ++ [r], by omega, by go_num, unhide HL2, unhide OG', unhide HW2, unhide HF2, unhide KX'⟩
                case measure => simp [intOf]; omega)
        · obtain rfl : j = n' := by omega
          rw [Nat.sub_self, List.replicate_zero, List.append_nil] at OG
          have y2 := (unhide Y2).keepx (unhide KX) hRG
          obtain ⟨d0, d1, d2, d3, -⟩ := y2.o
          have z := y2.set (.slice a1 m1 c1) (.slice (some ⟨G, 0, none⟩) j j)
          obtain ⟨z0, z1, -, -, -⟩ := z.o
          obtain ⟨t0, t1, -, -, -⟩ := tb.o
          have O3 := ((((unhide L).ow.keepx (unhide L).og (by decide) (unhide KX)).setBx y2 (by decide) (.slice a1 m1 c1) (.slice (some ⟨G, 0, none⟩) j j)).weak (unhide K05).size)
          have G3 := ((unhide OG).setBx y2 (by decide) (.slice a1 m1 c1) (.slice (some ⟨G, 0, none⟩) j j))
          have K3 := (((Kx.after (unhide K07) (unhide KX) (unhide GW)).set hRS (i := 0) (.slice a1 m1 c1)).set hRS (i := 1) (.slice (some ⟨G, 0, none⟩) j j))
          have FI : Hid (Fin w _ s a1 m1 c1 G j ms) := ⟨O3, unhide GW, by rw [unhide HL]; exact G3, K3⟩
          have SW := hide (unhide S0).wf
          have MT : Hid (mayT s ms = true) := by
            have := unhide HMT
            unfold mayT at this ⊢
            rw [unhide HND] at this
            unfold Hid
            rw [unhide HL]
            exact this
          have DC := hide (cn_list (n := j) (unhide HL) (fun q hq => unhide HF q (by rw [← unhide HL]; exact hq)))
          clear z y2 O3 G3 K3 tb
          go_wp2
          generalize ((w8.setCell ⟨R, 0, none⟩ (.slice a1 m1 c1)).setCell ⟨R, 1, none⟩ (.slice (some ⟨G, 0, none⟩) j j)) = w9 at *
          refine bodyPost_ret (v := .tuple #[.agg #[.slice a1 m1 c1, .slice (some ⟨G, 0, none⟩) j j], .int .i64 0]) (by simp [results, Try.results11, go_sem, z0, z1]) rfl ⟨ms, ?_, by rw [(unhide E).2.1]; exact unhide DC, (unhide FI).kp⟩
          rw [(unhide E).1, (unhide E).2.2]
          have := HandR.fin (unhide FI) (unhide MT) (unhide SW) (unhide HW)
          rw [unhide HL] at this
          exact this

theorem rtree_all (v : Value) (ts : List Tn) (w : World) (h : Tens w v ts) :
    Calls Try.prog 11 #[v] w fun e w' => ∃ ds, HandR e w' (trS ts) ds (trE ts) ∧ ds.map cn = trD ts ∧ Kp w w' := by
  by_cases h0 : ts.length = 0
  · exact rtree_none v ts w h h0
  · exact rtree_some v ts w h (by omega)

end Go.Proofs.Ytnmpbjjppdkomaa
