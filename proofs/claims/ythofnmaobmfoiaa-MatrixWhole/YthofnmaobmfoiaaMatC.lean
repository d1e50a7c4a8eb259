
/- The contract of the numbers of a product. -/
import Derived.Test.YthofnmaobmfoiaaMatB
namespace Go.Proofs.Ythofnmaobmfoiaa
open Go.RowKit

theorem Kx.of_grown {P : Nat} {a w w' : World} {row : Option Nat} (h : Kx P a w) (g : w.grownBy w' row) (hr : ∀ k, row = some k → a.heap.size ≤ k) : Kx P a w' :=
  ⟨g.os.trans h.os, g.tape.trans h.tape, g.output.trans h.output, Nat.le_trans h.size g.size, fun i hi hne => (g.block i (Nat.lt_of_lt_of_le hi h.size) (fun e => by have := hr i e.symm; omega)).trans (h.block i hi hne)⟩
theorem Kx.trans {P : Nat} {a b c : World} (h : Kx P a b) (k : Kx P b c) : Kx P a c :=
  ⟨k.os.trans h.os, k.tape.trans h.tape, k.output.trans h.output, Nat.le_trans h.size k.size, fun i hi hne => (k.block i (Nat.lt_of_lt_of_le hi h.size) hne).trans (h.block i hi hne)⟩
theorem OwnF.keepx {w w' : World} {e : TypeId} {base P : Nat} {v : Value} {xs : List Nat} (h : OwnF w e base v xs) (k : Kx P w w') (hP : P < base) : OwnF w' e base v xs := by
  obtain ⟨h0, h | ⟨g, cap, cur, rfl, hg, hh, r⟩⟩ := h
  · exact ⟨h0, .inl h⟩
  · exact ⟨h0, .inr ⟨g, cap, cur, rfl, hg, by rw [k.block g (Array.getElem?_eq_some_iff.1 hh).1 (fun e => by cases e; omega)]; exact hh, r⟩⟩
theorem OwnG.keepx {w w' : World} {e : TypeId} {G n c P : Nat} {xs : List Nat} (h : OwnG w e G n c xs) (k : Kx P w w') (hP : ¬ G = P) : OwnG w' e G n c xs := by
  have hl := h.lt
  obtain ⟨h0, h1, cur, hh, h3, h4⟩ := h
  exact ⟨h0, h1, cur, by rw [k.block G hl (fun e => hP (by cases e; rfl))]; exact hh, h3, h4⟩
theorem BlkF.grown {w w' : World} {e : TypeId} {B : Nat} {xs : List Nat} {row : Option Nat} (h : BlkF w e B xs) (g : w.grownBy w' row) (hr : ∀ k, row = some k → B < k) : BlkF w' e B xs := by
  unfold BlkF
  rw [g.block B h.lt (fun e => by have := hr B e.symm; omega)]
  exact h
theorem Flts.keepx {w w' : World} {P : Nat} {b off n c : Nat} {xs : List Nat} (h : Flts w (.slice (some ⟨b, off, none⟩) n c) xs) (k : Kx P w w') (hP : ¬ b = P) : Flts w' (.slice (some ⟨b, off, none⟩) n c) xs := by
  obtain ⟨h1, h2, h0, a, cap, e, h3⟩ := h
  refine ⟨h1, h2, h0, a, cap, e, fun hp => ?_⟩
  obtain ⟨b', off', rfl, hb, hc⟩ := h3 hp
  cases e
  exact ⟨b, off, rfl, Nat.lt_of_lt_of_le hb k.size, fun i hi => (k.cell (p := ⟨b, off + i, none⟩) hb hP).trans (hc i hi)⟩

set_option maxHeartbeats 4000000 in
theorem mults_any (sv dv sv2 dv2 : Value) (p m n : Nat) (d e : List Nat) (w : World) (hs : Ints w sv [(p : Int), (m : Int)]) (hd : Flts w dv d) (hr : Roomy dv) (hs2 : Ints w sv2 [(m : Int), (n : Int)]) (hd2 : Flts w dv2 e)
    (hl : d.length = p * m) (hm : p * m ≤ 4096) (hl2 : e.length = m * n) (hm2 : m * n ≤ 4096) (p1 : 1 ≤ p) (m1 : 1 ≤ m) (n1 : 1 ≤ n) (hpn : p * n ≤ 4096) :
    Calls Try.prog 12 #[.agg #[sv, dv], .agg #[sv2, dv2]] w fun ee w' => ∃ u ds, ee = .returned u ∧ OwnF w' 36 w.heap.size u ds ∧ ds.map cn = mulL p m n d e ∧ (∀ x ∈ ds, W64 x) ∧ Kp w w' := by
  have INFO := hide Try.infoFlt
  have S2 := hide hs2
  have D1 := hide hd
  have D2 := hide hd2
  have WE := hide hd2.wf
  have pm : p ≤ 4096 := le_mul_l m1 hm
  have mm : m ≤ 4096 := le_mul_r p1 hm
  have nm : n ≤ 4096 := le_mul_r m1 hm2
  obtain ⟨bs, os, cs, rfl, hbs, ha0, ha1⟩ := hs.two
  obtain ⟨bt, ot, ct, rfl, hbt, hb0, hb1⟩ := hs2.two
  obtain ⟨a, cap, rfl, hv⟩ := hd.val
  obtain ⟨b, off, rfl, hb, -⟩ := hv (by rw [hl]; have := Nat.mul_le_mul p1 m1; omega)
  obtain ⟨a2, cap2, rfl, -⟩ := hd2.val
  have hcap := hr _ _ _ rfl
  have HL := hide hl
  have HL2 := hide hl2
  have HM := hide hm
  have HM2 := hide hm2
  have HPN := hide hpn
  have hdl : d.length ≤ 4096 := by omega
  have hmk := mk_flts m (by omega)
  have hq1 : (p : Int) * (n : Int) = ((p * n : Nat) : Int) := by simp
  have hq2 : 0 ≤ (p : Int) * (n : Int) := by rw [hq1]; omega
  have hq3 : (p : Int) * (n : Int) ≤ 4096 := by rw [hq1]; omega
  have hmk2 : ∀ w, (Instr.makeSlice 26 (.int .i64 0) (.int .i64 ((p : Int) * (n : Int)))).run Try.prog w = .ok (.slice (some ⟨w.heap.size, 0, none⟩) 0 (p * n)) (w.alloc (.cells (madeCells #[.float .f64 0] (p * n)) 36)) := fun w => by rw [hq1]; exact mk_roomF _ (by omega) w
  clear hs hd hs2 hd2 hv hr hl hl2 hm hm2 hpn hq1
  go_enter Try.func12, Try.ntmps12
  go_wp2_with fail
  obtain ⟨W, hW, x1, x2, k0⟩ := boxes_in w (.slice (some ⟨bs, os, none⟩) 2 cs) (.slice (some ⟨b, off, none⟩) d.length cap) (.slice (some ⟨bt, ot, none⟩) 2 ct) (.slice a2 e.length cap2)
  rw [← hW]
  clear hW
  have X1 := hide x1
  have X2 := hide x2
  have K0 := hide k0
  clear x1 x2 k0
  generalize w.heap.size + 1 = R at X2 ⊢
  generalize hB : w.heap.size = B at X1 ⊢
  have HB := hide hB
  clear hB
  obtain ⟨c0, c1, -, -, -⟩ := (unhide X1).o
  obtain ⟨f0, f1, -, -, -⟩ := (unhide X2).o
  have ha0' := (Below.cell (unhide K0) (p := ⟨bs, os, none⟩) hbs).trans ha0
  have ha1' := (Below.cell (unhide K0) (p := ⟨bs, os + 1, none⟩) hbs).trans ha1
  have hb0' := (Below.cell (unhide K0) (p := ⟨bt, ot, none⟩) hbt).trans hb0
  have hb1' := (Below.cell (unhide K0) (p := ⟨bt, ot + 1, none⟩) hbt).trans hb1
  try go_wp2_with fail
  go_quiet (fail)
  have KD := hide ((unhide K0).trans (Kp.drewN W nq))
  have Y1 := hide ((unhide X1).keep (Kp.drewN W nq))
  have Y2 := hide ((unhide X2).keep (Kp.drewN W nq))
  clear ha0' ha1' hb0' hb1' c0 c1 f0 f1 X1 X2 K0
  generalize W.drewN nq = W2 at *
  obtain ⟨c0, c1, -, -, -⟩ := (unhide Y1).o
  obtain ⟨f0, f1, -, -, -⟩ := (unhide Y2).o
  have ha1' := (Below.cell (unhide KD) (p := ⟨bs, os + 1, none⟩) hbs).trans ha1
  clear ha0 ha1 hb0 hb1
  go_wp2_with fail
  refine (bycols_any _ _ m n e W2 ((unhide S2).keep (unhide KD)) ((unhide D2).keep (unhide KD)) (unhide HL2) (unhide HM2) m1 n1).mono ?_
  rintro ee w3 ⟨u3, rfl, o3, k3⟩
  obtain ⟨D, cD, hD, rfl, og⟩ := o3.g (by rw [turnD_length]; have := Nat.mul_le_mul n1 m1; omega)
  rw [turnD_length] at og ⊢
  have cDm := og.room
  have hD2 : Hid (w.heap.size ≤ D) := Nat.le_trans (unhide KD).size hD
  have Z1 := hide ((unhide Y1).keep k3)
  have K3 := hide ((unhide KD).trans k3)
  have OG := hide og
  clear k3 o3 og hD c0 c1 f0 f1 ha1' Y1 Y2 KD
  go_upto_region 4 with fail
  go_upto_region 5 with fail
  have BP0 := hide (BlkF.made w3 36 m)
  have qa := Kp.alloc w3 (.cells (madeCells #[.float .f64 0] m) 36)
  have K4 := hide ((unhide K3).trans qa)
  have Z4 := hide ((unhide Z1).keep qa)
  have OG4 := hide ((unhide OG).keep qa)
  have hDP : ¬ D = w3.heap.size := by have := (unhide OG).lt; omega
  have hBP : ¬ B = w3.heap.size := by have := (unhide Z1).lt; omega
  have hbP : ¬ b = w3.heap.size := by have := (unhide K3).size; omega
  have PS : Hid (w.heap.size ≤ w3.heap.size) := (unhide K3).size
  clear qa K3 Z1 OG hmk
  generalize w3.alloc (.cells (madeCells #[.float .f64 0] m) 36) = w4 at *
  generalize w3.heap.size = P at *
  have hPl : P < w4.heap.size := (unhide BP0).lt
  go_wp2
  have OL0 := hide (OwnF.made w4 36 (p * n) w4.heap.size (Nat.le_refl _) (by have := unhide HPN; unfold maxLen; omega))
  have qa := Kp.alloc w4 (.cells (madeCells #[.float .f64 0] (p * n)) 36)
  have BP1 := hide ((unhide BP0).keep qa)
  have KX0 : Hid (Kx P w4 (w4.alloc (.cells (madeCells #[.float .f64 0] (p * n)) 36))) := (Kx.refl P w4).kp qa
  clear qa BP0 hmk2 hq2 hq3
  generalize w4.alloc (.cells (madeCells #[.float .f64 0] (p * n)) 36) = w5 at *
  generalize hbase : w4.heap.size = base at OL0 hPl ⊢
  have HBS := hide hbase
  clear hbase
  go_loopw [10, 35] (fun u i wr => ∃ (k : Nat) (ls ps : List Nat), k ≤ p ∧ i = .int .i64 k ∧ Hid (OwnF wr 36 base u ls ∧ ls.map cn = (List.range (k * n)).map (mulAt m n d e) ∧ ∀ x ∈ ls, W64 x) ∧ Hid (BlkF wr 36 P ps ∧ ps.length = m) ∧ Hid (Kx P w4 wr)) (fun _ i _ => p - (intOf i).toNat)
  case atStart => exact ⟨0, [], List.replicate m 0, Nat.zero_le _, rfl, ⟨unhide OL0, by simp, by simp⟩, ⟨unhide BP1, by simp⟩, unhide KX0⟩
  case round =>
    obtain ⟨k, ls, ps, hk, rfl, OL, BP, KX⟩ := hrel
    generalize wr = w6 at *
    by_cases hlt : k < p
    · obtain ⟨c0, c1, -, -, -⟩ := ((unhide Z4).keepx (unhide KX) hBP).o
      have i0 : (k : Int) * (m : Int) = ((k * m : Nat) : Int) := by simp
      have j0 : ((k : Int) + 1) * (m : Int) = ((k * m + m : Nat) : Int) := by rw [Int.add_mul, i0]; omega
      have hb1 : (k + 1) * m ≤ p * m := Nat.mul_le_mul_right m hlt
      rw [Nat.add_mul, Nat.one_mul] at hb1
      have hb2 : k * m + m ≤ d.length := by have := unhide HL; omega
      have i1 : 0 ≤ (k : Int) * (m : Int) := by rw [i0]; omega
      have i2 : (k : Int) * (m : Int) ≤ 4096 := by rw [i0]; omega
      have j1 : 0 ≤ ((k : Int) + 1) * (m : Int) := by rw [j0]; omega
      have j2 : ((k : Int) + 1) * (m : Int) ≤ 4096 := by rw [j0]; omega
      have ij : (k : Int) * (m : Int) ≤ ((k : Int) + 1) * (m : Int) := by rw [i0, j0]; omega
      have jN : ((k : Int) + 1) * (m : Int) ≤ (cap : Int) := by rw [j0]; omega
      have hne : ¬ cap = k * m := by omega
      clear i0 j0 hb1
      have HB2 := hide hb2
      clear hb2
      go_wp2
      have EM : (k + 1) * m - k * m = m := by rw [Nat.add_mul]; omega
      rw [EM]
      clear EM i1 i2 j1 j2 ij jN hne c0 c1
      go_loopw [10, 49] (fun u i wr => ∃ (j : Nat) (ls ps : List Nat), j ≤ n ∧ i = .int .i64 j ∧ Hid (OwnF wr 36 base u ls ∧ ls.map cn = (List.range (k * n + j)).map (mulAt m n d e) ∧ ∀ x ∈ ls, W64 x) ∧ Hid (BlkF wr 36 P ps ∧ ps.length = m) ∧ Hid (Kx P w4 wr)) (fun _ i _ => n - (intOf i).toNat)
      case atStart => exact ⟨0, ls, ps, Nat.zero_le _, rfl, unhide OL, unhide BP, unhide KX⟩
      case round =>
        clear OL BP KX
        obtain ⟨j, ls, ps, hj, rfl, OL, BP, KX⟩ := hrel
        generalize wr = w7 at *
        by_cases hlj : j < n
        · have i0 : (j : Int) * (m : Int) = ((j * m : Nat) : Int) := by simp
          have j0 : ((j : Int) + 1) * (m : Int) = ((j * m + m : Nat) : Int) := by rw [Int.add_mul, i0]; omega
          have hb1 : (j + 1) * m ≤ n * m := Nat.mul_le_mul_right m hlj
          rw [Nat.add_mul, Nat.one_mul] at hb1
          have HB3 := hide hb1
          have hnm : n * m ≤ 4096 := by have := unhide HM2; rw [Nat.mul_comm]; exact this
          have i1 : 0 ≤ (j : Int) * (m : Int) := by rw [i0]; omega
          have i2 : (j : Int) * (m : Int) ≤ 4096 := by rw [i0]; omega
          have j1 : 0 ≤ ((j : Int) + 1) * (m : Int) := by rw [j0]; omega
          have j2 : ((j : Int) + 1) * (m : Int) ≤ 4096 := by rw [j0]; omega
          have ij : (j : Int) * (m : Int) ≤ ((j : Int) + 1) * (m : Int) := by rw [i0, j0]; omega
          have jN : ((j : Int) + 1) * (m : Int) ≤ (cD : Int) := by rw [j0]; omega
          have hne : ¬ cD = j * m := by omega
          clear i0 j0 hb1 hnm
          have FX : Hid (Flts w7 (.slice (some ⟨b, off + k * m, none⟩) m (cap - k * m)) ((d.drop (k * m)).take m)) := (((unhide D1).keep (unhide K4)).sub (unhide HB2) _).keepx (unhide KX) hbP
          have FY : Hid (Flts w7 (.slice (some ⟨D, j * m, none⟩) m (cD - j * m)) (((turnD m n e).drop (j * m)).take m)) := by
            have := (((unhide OG4).flts (turnD_wf (fun q => getD_w64 (unhide WE) q)) (by have := unhide HM2; rw [Nat.mul_comm n m]; omega)).sub (a := j * m) (m := m) (unhide HB3) (cD - j * m)).keepx (unhide KX) hDP
            rw [Nat.zero_add] at this
            exact this
          go_wp2_with fail
          have EM : (j + 1) * m - j * m = m := by rw [Nat.add_mul]; omega
          rw [EM]
          clear EM i1 i2 j1 j2 ij jN hne
          refine (rtimes_any _ _ P m _ _ ps w7 (unhide FX) (unhide FY) (sub_length (unhide HB2)) (sub_length (by rw [turnD_length]; exact unhide HB3)) (unhide BP).2 mm (unhide BP).1 (by intro b' o' n' c' ee; cases ee; exact hbP) (by intro b' o' n' c' ee; cases ee; exact hDP)).mono ?_
          rintro ee w8 ⟨qs, rfl, bq, ql, qw, qm, kx⟩
          have EQ : Hid (rowC qs = mulAt m n d e (k * n + j)) := by
            unfold Hid
            rw [mulAt_at hlj]
            refine rowC_of ?_
            unfold prodsL
            refine cn_list ql ?_
            intro i hi
            rw [ql] at hi
            rw [qm i hi, sub_getD hi, sub_getD hi, turnD_getD hi hlj]
          have BQ := hide (show BlkF w8 36 P qs ∧ qs.length = m from ⟨bq, ql⟩)
          have FQ := hide (bq.flts (cap := m) ql qw (by omega))
          have OL8 := hide ((unhide OL).1.keepx kx hPl)
          have KX8 := hide ((unhide KX).trans kx)
          clear bq ql qw qm kx FX FY BP KX
          go_wp2_with fail
          refine (row_any _ qs w8 (unhide FQ)).mono ?_
          rintro ee w9 ⟨x, rfl, hx, -, k9⟩
          have RX := hide hx
          have BQ9 := hide (show BlkF w9 36 P qs ∧ qs.length = m from ⟨(unhide BQ).1.keep k9, (unhide BQ).2⟩)
          have OL9 := hide ((unhide OL8).keep k9)
          have KX9 := hide ((unhide KX8).kp k9)
          clear hx k9 FQ OL8 KX8 BQ
          have qa := Kp.alloc w9 (.cells #[.float .f64 x] 36)
          have OW' := hide ((unhide OL9).keep qa)
          have AP : Hid (Flts (w9.alloc (.cells #[.float .f64 x] 36)) (.slice (some ⟨w9.heap.size, 0, none⟩) 1 1) [x]) := lit_flts w9 36 [x] #[.float .f64 x] w9.heap.size 1 rfl rfl rfl (by intro z hz; rw [List.mem_singleton.1 hz]; exact (unhide RX).2) (by decide)
          have RM : Hid ((ls.length + [x].length) * 8 ≤ 140737488351232) := by
            have h1 := congrArg List.length (unhide OL).2.1
            simp at h1
            have h2 := inrow hlt hlj
            have h3 := unhide HPN
            unfold Hid; rw [List.length_singleton]; omega
          have BS : Hid (base ≤ (w9.alloc (.cells #[.float .f64 x] 36)).heap.size) := by
            have := ((unhide KX9).kp qa).size
            have := unhide HBS
            unfold Hid; omega
          have QA := hide ((unhide KX9).kp qa)
          have BA := hide ((unhide BQ9).1.keep qa)
          clear qa
          go_wp2_with (at_builtin; go_must (refine wpList_append_flts_at _ rfl (.tmp 64) (.tmp 67) 26 rfl base 36 (unhide INFO) Try.underlying26 _ _ ls [x] rfl rfl (unhide OW') (unhide AP) (unhide RM) (unhide BS) ?_); intro v2 wA o2 g2)
          have KXA := hide ((unhide QA).of_grown g2 (fun k hk => by have := (unhide OW').block k hk; have := unhide HBS; omega))
          have BPA : Hid (BlkF wA 36 P qs ∧ qs.length = m) := ⟨(unhide BA).grown g2 (fun k hk => by have := (unhide OW').block k hk; omega), (unhide BQ9).2⟩
          have OLA : Hid (OwnF wA 36 base v2 (ls ++ [x]) ∧ (ls ++ [x]).map cn = (List.range (k * n + (j + 1))).map (mulAt m n d e) ∧ ∀ y ∈ ls ++ [x], W64 y) := by
            refine ⟨o2, ?_, ?_⟩
            · rw [← Nat.add_assoc, map_range_snoc, List.map_append, (unhide OL).2.1, ← unhide EQ, ← (unhide RX).1]
              rfl
            · intro y hy
              rcases List.mem_append.1 hy with h | h
              · exact (unhide OL).2.2 y h
              · rw [List.mem_singleton.1 h]
                exact (unhide RX).2
          clear o2 g2 OW' AP RM BS QA BA BQ9 OL9 KX9 OL
          go_wp2
          go_roundw
          case rel => exact ⟨j + 1, ls ++ [x], qs, by omega, by go_num, unhide OLA, unhide BPA, unhide KXA⟩
          case measure => simp [intOf]; omega
        · obtain rfl : j = n := by omega
          have ER : Hid (k * j + j = (k + 1) * j) := by unfold Hid; rw [Nat.add_mul, Nat.one_mul]
          rw [unhide ER] at OL
          go_wp2
          go_roundw
          case rel => exact ⟨k + 1, ls, ps, by omega, by go_num, unhide OL, unhide BP, unhide KX⟩
          case measure => simp [intOf]; omega
    · obtain rfl : k = p := by omega
      have KF := hide (Kx.after (unhide K4) (unhide KX) (unhide PS))
      have OF := hide ((unhide OL).1.weak (show w.heap.size ≤ base by have := (unhide K4).size; have := unhide HBS; omega))
      go_wp2
      go_ret
      exact ⟨_, ls, rfl, unhide OF, (unhide OL).2.1, (unhide OL).2.2, unhide KF⟩

end Go.Proofs.Ythofnmaobmfoiaa
