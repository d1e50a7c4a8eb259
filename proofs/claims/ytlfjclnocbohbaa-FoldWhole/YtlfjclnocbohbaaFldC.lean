
/- The contract of Tree. -/
import Derived.Test.YtlfjclnocbohbaaFldB
namespace Go.Proofs.Ytlfjclnocbohbaa
open Go.RowKit

set_option maxHeartbeats 4000000 in
theorem tree_all (v : Value) (ts : List Tn) (w : World) (h : Tens w v ts) :
    Calls Try.prog 9 #[v] w fun e w' => ∃ ds, HandR e w' (trS ts) ds (trE ts) ∧ ds.map cn = trD ts ∧ Kp w w' := by
  have mr := h.room
  have H := hide h
  obtain ⟨a, c, rfl, -⟩ := h.val
  by_cases h0 : ts.length = 0
  · have E := hide (tr_none h0)
    have h0' : ((ts.length : Int) == 0) = true := by rw [h0]; rfl
    clear h H h0
    generalize ts.length = m at *
    go_enter Try.func9, Try.ntmps9
    go_upto_region 1 with fail
    obtain ⟨W, hW, x2, k0⟩ := box_in w (.slice none 0 0) (.slice none 0 0)
    rw [← hW]
    clear hW
    have hRS : Hid (w.heap.size ≤ w.heap.size) := Nat.le_refl _
    generalize hR : w.heap.size = R at x2 ⊢
    obtain ⟨d0, d1, d2, d3, -⟩ := x2.o
    have hRS' : w.heap.size ≤ R := by omega
    obtain ⟨z0, z1, -, -, -⟩ := (x2.set (.slice none 0 0) (.slice none 0 0)).o
    have KF := hide ((k0.set hRS' (i := 0) (.slice none 0 0)).set hRS' (i := 1) (.slice none 0 0))
    clear x2 k0 hR hRS
    go_wp2
    generalize ((W.setCell ⟨R, 0, none⟩ (.slice none 0 0)).setCell ⟨R, 1, none⟩ (.slice none 0 0)) = w9 at *
    refine bodyPost_ret (v := .tuple #[.agg #[.slice none 0 0, .slice none 0 0], .int .i64 1]) (by simp [results, Try.results9, go_sem, z0, z1]) rfl ⟨[], by rw [(unhide E).1, (unhide E).2.2]; exact HandR.nil _ _, (unhide E).2.1.symm, unhide KF⟩
  · have h0' : ((ts.length : Int) == 0) = false := beq_eq_false_iff_ne.2 (by omega)
    have hp : 0 < ts.length := by omega
    have hpI : (0 : Int) < (ts.length : Int) := by omega
    obtain ⟨b, off, rfl, hb, hT⟩ := h.one (Kp.refl w) (i := 0) hp
    obtain ⟨p, cp, p', cp', hc0, hc1, hs0, -⟩ := hT
    simp only [Nat.zero_mul, Nat.add_zero] at hc0 hc1
    have S0 := hide hs0
    have hmlen := h0
    clear h h0 hs0
    generalize hm : ts.length = m at *
    have HM := hide hm
    clear hm hmlen
    generalize hs : (ts.getD 0 tnil).s = s at *
    have HS := hide hs
    clear hs
    have SL : Hid (s.length = s.length) := rfl
    go_enter Try.func9, Try.ntmps9
    go_upto_region 1 with fail
    obtain ⟨W, hW, x2, k0⟩ := box_in w (.slice none 0 0) (.slice none 0 0)
    rw [← hW]
    clear hW
    generalize hR : w.heap.size = R at x2 ⊢
    have hRS : w.heap.size ≤ R := by omega
    have X2 := hide x2
    have K0 := hide k0
    have q0 := (Below.cell k0 (p := ⟨b, off, none⟩) hb).trans hc0
    clear hc0 hc1 hR x2 k0
    generalize s.length = ls at S0 q0 ⊢
    go_wp2
    go_loopw [17] (fun i wr => ∃ k : Nat, k ≤ m ∧ i = .int .i64 k ∧ Hid (∀ j, j < k → ofB s (ts.getD j tnil) = true) ∧ Hid (Kp W wr)) (fun i _ => m - (intOf i).toNat)
    case atStart => exact ⟨0, Nat.zero_le _, rfl, by unfold Hid; omega, Kp.refl _⟩
    case round =>
      obtain ⟨k, hk, rfl, HA, KR⟩ := hrel
      generalize wr = w5 at *
      by_cases hlt : k < m
      · have hltI : (k : Int) < (m : Int) := by omega
        obtain ⟨b0, o0, e0, hb', hT⟩ := (unhide H).one ((unhide K0).trans (unhide KR)) (i := k) (by rw [unhide HM]; exact hlt)
        cases e0
        obtain ⟨p5, cp5, p5', cp5', hc0, hc1, hi, hf⟩ := hT
        have HI := hide hi
        have HF := hide hf
        clear hi hf
        generalize htk : ts.getD k tnil = tk at *
        have HTK := hide htk
        clear htk
        go_upto_region 7 with fail
        have X5 := hide (Bx.made w5 (.slice p5 tk.s.length cp5) (.slice p5' tk.d.length cp5'))
        have KA := hide (Kp.alloc w5 (.cells #[.slice p5 tk.s.length cp5, .slice p5' tk.d.length cp5'] 31))
        generalize (w5.alloc (.cells #[.slice p5 tk.s.length cp5, .slice p5' tk.d.length cp5'] 31)) = w6 at *
        generalize w5.heap.size = X6 at *
        obtain ⟨x0, x1, -, -, -⟩ := (unhide X5).o
        clear hc0 hc1
        go_wp2_with fail
        refine (isof_any _ _ _ s tk w6 ((unhide S0).keep ((unhide K0).trans ((unhide KR).trans (unhide KA)))) ((unhide HI).keep (unhide KA)) ((unhide HF).keep (unhide KA))).mono ?_
        rintro e w7 ⟨rfl, k7⟩
        have K7 := hide (((unhide KR).trans (unhide KA)).trans k7)
        clear k7 x0 x1
        cases hof : ofB s tk
        · have E : Hid (trS ts = [] ∧ trD ts = [] ∧ trE ts = 2) := tr_no (by rw [unhide HM]; omega) (k := k) (by rw [unhide HM]; exact hlt) (by rw [unhide HS, unhide HTK]; exact hof)
          clear hof
          have x2 := (unhide X2).keep (unhide K7)
          obtain ⟨d0, d1, d2, d3, -⟩ := x2.o
          obtain ⟨z0, z1, -, -, -⟩ := (x2.set (.slice none 0 0) (.slice none 0 0)).o
          have KF := hide ((((unhide K0).trans (unhide K7)).set hRS (i := 0) (.slice none 0 0)).set hRS (i := 1) (.slice none 0 0))
          clear x2
          go_wp2
          generalize ((w7.setCell ⟨R, 0, none⟩ (.slice none 0 0)).setCell ⟨R, 1, none⟩ (.slice none 0 0)) = w9 at *
          refine bodyPost_ret (v := .tuple #[.agg #[.slice none 0 0, .slice none 0 0], .int .i64 2]) (by simp [results, Try.results9, go_sem, z0, z1]) rfl ⟨[], by rw [(unhide E).1, (unhide E).2.2]; exact HandR.nil _ _, (unhide E).2.1.symm, unhide KF⟩
        · have HA2 : Hid (∀ j, j < k + 1 → ofB s (ts.getD j tnil) = true) := by
            intro j hj
            by_cases e : j = k
            · subst e; rw [unhide HTK]; exact hof
            · exact unhide HA j (by omega)
          clear hof
          go_wp2
          go_roundw
          case rel => exact ⟨k + 1, by omega, by go_num, unhide HA2, unhide K7⟩
          case measure => simp [intOf]; omega
      · obtain rfl : k = m := by omega
        have E : Hid (trS ts = (ts.getD 0 tnil).s ∧ trD ts = (List.range (ts.getD 0 tnil).d.length).map (fun j => foldC (colL ts j)) ∧ trE ts = 0) := tr_yes (by rw [unhide HM]; omega) (by rw [unhide HM, unhide HS]; exact unhide HA)
        have HT0 := unhide HA 0 (by omega)
        obtain ⟨hmt, hse⟩ := ofB_may HT0
        have hn1 : (ts.getD 0 tnil).d.length ≤ 4096 := by have := mayT_len hmt; have := may_prod (mayT_may hmt); omega
        have HN : Hid (∀ i, i < k → (ts.getD i tnil).d.length = (ts.getD 0 tnil).d.length) := fun i hi => of_len_eq (unhide HA i hi) HT0
        have HMT := hide hmt
        rw [unhide HS] at E HMT
        clear HT0 hmt hse
        generalize hn : (ts.getD 0 tnil).d.length = n at *
        go_wp2_with fail
        refine (folds_any _ c k n ts w5 ((unhide H).keep ((unhide K0).trans (unhide KR))) (unhide HM) (by omega) (unhide HN) hn1).mono ?_
        rintro e w6 ⟨G, ds, rfl, hG, bg, dl, dw, df, k6⟩
        have FL := hide (bg.flts (n := n) (cap := n) dl dw (by omega))
        have DW := hide dw
        have DC := hide (cn_list (n := n) dl (fun j hj => df j (by rw [← dl]; exact hj)))
        have MT : Hid (mayT s ds = true) := by
          have := unhide HMT
          unfold mayT at this ⊢
          rw [hn] at this
          unfold Hid
          rw [dl]
          exact this
        have DL := hide dl
        have K6 := hide ((unhide KR).trans k6)
        have IS := hide ((unhide S0).keep ((unhide K0).trans (unhide K6)))
        have Y2 := hide ((unhide X2).keep (unhide K6))
        have SW := hide (unhide IS).wf
        have K06 := hide ((unhide K0).trans (unhide K6))
        clear bg dl dw df k6 hG hn K6 KR K0 X2
        go_wp2_with fail
        refine (of_yes _ _ s ds w6 (unhide IS) (unhide FL) (unhide MT)).mono ?_
        rintro e w7 ⟨a1, n1, c1, G2, c2, rfl, o1, hG2, og, k7⟩
        have FI := hide (Fin.mk' o1 hG2 og (unhide K06) k7 (unhide Y2) hRS)
        have x2 := (unhide Y2).keep k7
        obtain ⟨d0, d1, d2, d3, -⟩ := x2.o
        obtain ⟨z0, z1, -, -, -⟩ := (x2.set (.slice a1 n1 c1) (.slice (some ⟨G2, 0, none⟩) ds.length c2)).o
        clear x2 o1 hG2 og k7
        go_wp2
        generalize ((w7.setCell ⟨R, 0, none⟩ (.slice a1 n1 c1)).setCell ⟨R, 1, none⟩ (.slice (some ⟨G2, 0, none⟩) ds.length c2)) = w9 at *
        refine bodyPost_ret (v := .tuple #[.agg #[.slice a1 n1 c1, .slice (some ⟨G2, 0, none⟩) ds.length c2], .int .i64 0]) (by simp [results, Try.results9, go_sem, z0, z1]) rfl ⟨ds, by rw [(unhide E).1, (unhide E).2.2]; exact HandR.fin (unhide FI) (unhide MT) (unhide SW) (unhide DW), by rw [(unhide E).2.1]; exact unhide DC, (unhide FI).kp⟩

end Go.Proofs.Ytlfjclnocbohbaa
