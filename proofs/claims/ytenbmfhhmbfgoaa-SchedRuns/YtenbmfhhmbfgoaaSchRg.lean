
/- The document's scheduler: a task steps. -/
import Derived.Test.YtenbmfhhmbfgoaaSchRe
namespace Go.Proofs.Ytenbmfhhmbfgoaa
open Go.RowKit

theorem told_pushed {W0 w : World} {M : Nat} {pv : Value} {ps : List Int} {Bs : List Nat} {Lv : Nat → Value} {K : Nat} {told : List Int} {an : Nat → Nat} {A : SS} {G : Nat → Prop} (h : MW W0 w M pv ps Bs Lv K told an A G) (k0 : Kp W0 w) (hl : told.length + 1 ≤ 1000000000) (x : Int) :
    ∃ oa oc g cap w', w.cell? ⟨M, 3, none⟩ = some (.slice oa told.length oc) ∧ (∀ ty, Sem.run Try.prog (Builtin.append_ #[31, 31] ty #[.slice oa told.length oc, .slice (some ⟨w.heap.size, 0, none⟩) 1 1]) (w.alloc (.cells #[.int .i64 x] 3)) = .ok (.slice (some ⟨g, 0, none⟩) (told.length + 1) cap) w') ∧ w'.cell? ⟨M, 3, none⟩ = some (.slice oa told.length oc) ∧ w'.frozen? ⟨M, 3, none⟩ = false ∧
      ∃ G', MW W0 (w'.setCell ⟨M, 3, none⟩ (.slice (some ⟨g, 0, none⟩) (told.length + 1) cap)) M pv ps Bs Lv K (told ++ [x]) an A G' ∧ Wd G G' w (w'.setCell ⟨M, 3, none⟩ (.slice (some ⟨g, 0, none⟩) (told.length + 1) cap)) := by
  obtain ⟨wk, tv, ov, m, hf⟩ := h.at_
  have k1 := Kp.alloc w (.cells #[.int .i64 x] 3)
  have m1 := m.keep k1
  obtain ⟨g, cap, w', hr, r1, r2, r3⟩ := run_push1 (w.alloc (.cells #[.int .i64 x] 3)) 31 Try.underlying31 ov told x w.heap.size 1 m1.ow hl (cell_lit1 w _ _ _ rfl)
  obtain ⟨m2, d2⟩ := m1.push r1 r2 r3 (Nat.le_trans k0.size k1.size)
  obtain ⟨oa, oc, rfl, -⟩ := m.ow.shape
  obtain ⟨-, -, -, c3⟩ := m.ms.cells
  have ms1 := m1.ms.of (r2.block M m1.ms.lt (fun e => own_ne_blk m1.ms m1.ow (by decide) e.symm))
  exact ⟨oa, oc, g, cap, w', c3, hr, ms1.cells.2.2.2, ms1.frozen 3, _, ⟨h.ok, h.ln, wk, _, _, m2, hf⟩, (Wd.of_kp k1).trans d2⟩

set_option maxRecDepth 20000 in
set_option maxHeartbeats 8000000 in
theorem mstep_any (W0 : World) (M : Nat) (pv : Value) (ps : List Int) (Bs : List Nat) (Lv : Nat → Value) (K : Nat) (told : List Int) (an : Nat → Nat) (A : SS) (G : Nat → Prop) (i : Nat) (l : List (Value × List Int × Int)) (w : World) (h : MW W0 w M pv ps Bs Lv K told an A G) (k0 : Kp W0 w) (hG : ∀ k, G k → W0.heap.size ≤ k) (hi : i < Bs.length) (ha : (i : Int) ∈ A.ab) (hl : told.length + 1 ≤ 1000000000) (hn : an i ≤ 1000000000000) (hd : DeedsAt W0 (Lv i) l) :
    Calls Try.prog 35 #[.pointer (some ⟨M, 0, none⟩), .int .i64 (i : Int)] w fun e w' => e = .returned (.tuple #[]) ∧ Hid (∃ G', MW W0 w' M pv ps Bs Lv K (told ++ [(i : Int)]) (upd an i (an i + 1)) (settleS (wakesS A (l.getD (an i) d0).2.1) i (l.getD (an i) d0).2.2) G' ∧ Wd G G' w w') := by
  have hn8 : Bs.length ≤ 128 := by rw [← h.ln]; exact h.ok.lts
  obtain ⟨a, cap, c1, hr⟩ := h.reads
  obtain ⟨g, rfl, hg⟩ := hr (by omega)
  obtain ⟨B, p1, p2⟩ := hg i hi
  have hB : Bs.getD i 0 = B := by
    obtain ⟨wk, tv, ov, m, -⟩ := h.at_
    obtain ⟨a', cap', rfl, hr'⟩ := m.row
    obtain ⟨-, c1', -, -⟩ := m.ms.cells
    rw [c1] at c1'
    simp at c1'
    obtain ⟨g', e, hg'⟩ := hr' (by omega)
    rw [← c1'.1] at e
    cases e
    have := hg' i hi
    rw [p1] at this
    unfold pV at this
    simp at this
    exact this.symm
  obtain ⟨oa, oc, g1, cap1, w1, c3, hrun, c4, f4, G1, m1, d1⟩ := told_pushed h k0 hl (i : Int)
  have hG1 : ∀ k, G1 k → W0.heap.size ≤ k := fun k e => by
    rcases d1.new k e with e | e
    · exact hG k e
    · exact Nat.le_trans k0.size e
  have HM := hide (MD.made m1 d1 (.slice none 0 0) 3)
  have HHB := hide hB
  have HH := hide hi
  have HA := hide ha
  have HOK := hide h.ok
  have HD := hide hd
  -- a deed is read in whatever world
  have HK := hide (fun (w' : World) (G' : Nat → Prop) (d : Wd G G' w w') => (show Kp W0 w' from Wd.kp k0 d hG))
  have hiI : (i : Int) < (Bs.length : Int) := by omega
  clear h hr hg p2 m1 d1 hG1 hB hi ha hd k0 hG
  generalize Bs.length = nb at c1 hiI hn8
  generalize hml : told.length = ml at *
  go_enter Try.func35, Try.ntmps35
  go_upto_region 2 with (at_builtin; refine wpList_append_eq _ rfl _ _ 31 31 rfl _ _ rfl rfl (hrun _) ?_)
  generalize (w1.setCell ⟨M, 3, none⟩ (.slice (some ⟨g1, 0, none⟩) (ml + 1) cap1)) = W at *
  go_upto_if 34 with fail
  generalize W.alloc (.cells #[.slice none 0 0, .int .u8 3] 58) = W2 at *
  generalize W.heap.size = D at *
  clear c1 c3 c4 f4 p1 hrun
  -- the deed
  obtain ⟨t0, t1, tf⟩ := (unhide HM).m.task (unhide HH) (unhide HHB)
  obtain ⟨z0, z1, zf⟩ := (unhide HM).d.cells
  have f0 := zf 0
  have f1 := zf 1
  have tf1 := tf 1
  have dw := (unhide HD).keep (unhide HK W2 G1 (unhide HM).fr)
  obtain ⟨hb1, hb2, hb3⟩ := (unhide HD).bys (an i)
  obtain ⟨ll, la, lc, eL, hcell⟩ := dw
  rw [eL] at t0
  have hdd : ∃ wa wl wc' dl da, l.getD (an i) d0 = (.slice wa wl wc', dl, da) ∧ dl.length = wl := by
    obtain ⟨_, _, a, c, e, _⟩ := hb1
    refine ⟨a, _, c, (l.getD (an i) d0).2.1, (l.getD (an i) d0).2.2, ?_, rfl⟩
    rw [← e]
  obtain ⟨wa, wl, wc', dl, da, hdd, hwl⟩ := hdd
  have HBy := hide hb1
  have HE := hide hdd
  rw [hdd] at hb1 hb2 hb3 HBy
  have HWL := hide hwl
  simp only at hb2 hb3
  generalize hann : an i = n at *
  have HAN := hide hann
  generalize hnl : l.length = nl at *
  go_quiet (fail)
  go_upto_if 34 with fail
  have HM2 := hide ((unhide HM).keep (Kp.drewN W2 nq))
  go_cut [5] (fun p wx => p = .pointer (some ⟨D, 0, none⟩) ∧ Hid (MD W0 w G wx M pv ps Bs Lv K (told ++ [(i : Int)]) an A G1 D (.slice wa wl wc') da))
  case first =>
    by_cases hlt : n < nl
    · have hltI : (n : Int) < (nl : Int) := by omega
      obtain ⟨lb, lo, rfl, hlb, hc⟩ := hcell (by omega)
      obtain ⟨x0, x1, -, -⟩ := hc n (by omega)
      rw [hdd] at x0 x1
      simp only at x0 x1
      have HS := hide (((unhide HM).keep (Kp.drewN W2 (nq + 1))).set (.slice wa wl wc') da)
      clear hcell hc hb1 hdd
      go_wp2_with fail
      go_region
      all_goals (go_wp2_with fail; go_meet)
      all_goals exact ⟨rfl, unhide HS⟩
    · have hltI : ¬ (n : Int) < (nl : Int) := by omega
      have e0 : l.getD n d0 = d0 := by rw [List.getD_eq_getElem?_getD, List.getElem?_eq_none (by omega)]; rfl
      have e1 : (Value.slice wa wl wc', dl, da) = d0 := hdd.symm.trans e0
      have HS : Hid (MD W0 w G (W2.drewN nq) M pv ps Bs Lv K (told ++ [(i : Int)]) an A G1 D (.slice wa wl wc') da) := by
        unfold d0 at e1
        simp only [Prod.mk.injEq] at e1
        rw [e1.1, e1.2.2]
        exact unhide HM2
      clear hcell hb1 hdd e0 e1
      go_wp2_with fail
      go_meet
      exact ⟨rfl, unhide HS⟩
  case rest =>
    obtain ⟨rfl, HM3⟩ := hcut
    clear z0 z1 zf f0 f1 tf1 tf t0 t1 hcell HM HM2 hdd
    generalize wc = W3 at *
    obtain ⟨t0, t1, tf⟩ := (unhide HM3).m.task (unhide HH) (unhide HHB)
    have tf1 := tf 1
    rw [unhide HAN] at t1
    obtain ⟨m5, d5⟩ := (unhide HM3).m.stepAt (unhide HH) (unhide HHB) (n + 1)
    have HM4 := hide ((unhide HM3).turn m5 d5)
    rw [show ((n + 1 : Nat) : Int) = (n : Int) + 1 by omega] at HM4
    clear m5 d5 tf HM3
    go_wp2_with fail
    generalize W3.setCell ⟨B, 1, none⟩ (.int .i64 ((n : Int) + 1)) = W4 at *
    clear t0 t1 tf1
    go_loopw [6] (fun j wr => ∃ k : Nat, k ≤ wl ∧ j = .int .i64 k ∧ Hid (MD W0 w G wr M pv ps Bs Lv K (told ++ [(i : Int)]) (upd an i (n + 1)) (wakesS A (dl.take k)) G1 D (.slice wa wl wc') da)) (fun j _ => wl - (intOf j).toNat)
    case atStart => exact ⟨0, Nat.zero_le _, rfl, unhide HM4⟩
    case round =>
      obtain ⟨k, hk, rfl, HR⟩ := hrel
      obtain ⟨z0, z1, -⟩ := (unhide HR).d.cells
      by_cases hkl : k < wl
      · have hkI : (k : Int) < (wl : Int) := by omega
        have by1 := (unhide HBy).keep (unhide HK wr G1 (unhide HR).fr)
        have hx := by1.1 (dl.getD k 0) (by rw [List.getD_eq_getElem?_getD, List.getElem?_eq_getElem (by rw [unhide HWL]; exact hkl)]; exact List.getElem_mem _)
        obtain ⟨-, hlen, xa, xc, exa, hcx⟩ := by1
        rw [unhide HWL] at exa hcx hlen
        injection exa with exa1 exa2 exa3
        clear exa2 exa3
        obtain ⟨xb, xo, rfl, hxb, hcx⟩ := hcx (by omega)
        subst exa1
        have y0 := hcx k hkl
        have ET : Hid (wakesS A (dl.take (k + 1)) = (wakeS (wakesS A (dl.take k)) (dl.getD k 0)).2) := by
          unfold Hid
          have hkd : k < dl.length := by rw [unhide HWL]; exact hkl
          rw [← wakesS_snoc, List.take_succ_eq_append_getElem hkd]
          congr 3
          simp [hkd]
        have CW := hide (mwake_any W0 M pv ps Bs Lv K (told ++ [(i : Int)]) (upd an i (n + 1)) (wakesS A (dl.take k)) G1 (dl.getD k 0) wr (unhide HR).m)
        obtain ⟨x, hx2⟩ : ∃ x : Nat, dl.getD k 0 = (x : Int) := ⟨(dl.getD k 0).toNat, by omega⟩
        rw [hx2] at y0 hx CW ET
        clear hcx hxb hx2
        go_wp2_with fail
        refine (unhide CW).mono ?_
        clear CW
        rintro e w6 ⟨rfl, HW⟩
        have HR2 := hide ((unhide HR).turn (unhide HW).1 (unhide HW).2)
        rw [← unhide ET] at HR2
        clear HW HR ET z0 z1 y0
        go_wp2_with fail
        go_roundw
        case rel => exact ⟨k + 1, by omega, by go_num, unhide HR2⟩
        case measure => simp [intOf]; omega
      · have hkw : k = wl := by omega
        have HR2 : Hid (MD W0 w G wr M pv ps Bs Lv K (told ++ [(i : Int)]) (upd an i (n + 1)) (wakesS A dl) G1 D (.slice wa wl wc') da) := by
          have := unhide HR
          rw [List.take_of_length_le (by rw [unhide HWL]; omega)] at this
          exact this
        have haW : (i : Int) ∈ (wakesS A dl).ab := (Wk.wakes dl (unhide HOK)).1.ab _ (unhide HA)
        obtain ⟨q3, q2, qf⟩ := (unhide HR2).m.flag (unhide HH) haW (unhide HHB)
        have qf2 := qf 2
        have qf3 := qf 3
        have HaW := hide haW
        clear HR qf haW
        have HE2 : Hid (∀ w' A', MW W0 w' M pv ps Bs Lv K (told ++ [(i : Int)]) (upd an i (n + 1)) A' G1 → Wd G1 G1 wr w' → A' = settleS (wakesS A dl) i da → Hid (∃ G', MW W0 w' M pv ps Bs Lv K (told ++ [(i : Int)]) (upd an i (an i + 1)) (settleS (wakesS A (l.getD (an i) d0).2.1) i (l.getD (an i) d0).2.2) G' ∧ Wd G G' w w')) := fun w' A' m d e => by
          rw [unhide HAN, unhide HE]
          exact ⟨G1, e ▸ m, (unhide HR2).fr.trans d⟩
        obtain ⟨r, hrr⟩ : ∃ r : Nat, da = (r : Int) := ⟨da.toNat, by omega⟩
        subst hrr
        by_cases h3 : r = 3
        · subst h3
          obtain ⟨m7, d7⟩ := (unhide HR2).m.done (unhide HH) (unhide HaW) (unhide HHB)
          have HF := hide (unhide HE2 _ _ m7 d7 rfl)
          clear m7 d7 HE2 HR2
          go_wp2_with fail
          refine bodyPost_end (v := .tuple #[]) (results_none Try.results35 _ _ _) rfl ⟨rfl, unhide HF⟩
        · have h3I : ¬ (r : Int) = 3 := by omega
          by_cases h2 : r = 2
          · subst h2
            by_cases hfl : flA (wakesS A dl) i = true
            · obtain ⟨m7, d7⟩ := (unhide HR2).m.pass (unhide HH) (unhide HaW) (unhide HHB) hfl
              have HF := hide (unhide HE2 _ _ m7 d7 rfl)
              rw [hfl] at q3
              clear m7 d7 HE2 HR2 hfl
              go_wp2_with fail
              refine bodyPost_end (v := .tuple #[]) (results_none Try.results35 _ _ _) rfl ⟨rfl, unhide HF⟩
            · have hfl' : flA (wakesS A dl) i = false := by simpa using hfl
              obtain ⟨m7, d7⟩ := (unhide HR2).m.wait (unhide HH) (unhide HaW) (unhide HHB) hfl'
              have HF := hide (unhide HE2 _ _ m7 d7 rfl)
              rw [hfl'] at q3
              clear m7 d7 HE2 HR2 hfl hfl'
              go_wp2_with fail
              refine bodyPost_end (v := .tuple #[]) (results_none Try.results35 _ _ _) rfl ⟨rfl, unhide HF⟩
          · have h2I : ¬ (r : Int) = 2 := by omega
            have HF := hide (unhide HE2 _ _ (unhide HR2).m (Wd.refl _ _) (settle_else _ _ h3I h2I).symm)
            clear HE2 HR2
            go_wp2_with fail
            refine bodyPost_end (v := .tuple #[]) (results_none Try.results35 _ _ _) rfl ⟨rfl, unhide HF⟩

end Go.Proofs.Ytenbmfhhmbfgoaa
