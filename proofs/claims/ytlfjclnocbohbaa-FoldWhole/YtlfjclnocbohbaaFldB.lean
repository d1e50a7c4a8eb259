
/- Contracts of the folds at each place, and of Tree. -/
import Derived.Test.YtlfjclnocbohbaaFldA
namespace Go.Proofs.Ytlfjclnocbohbaa
open Go.RowKit

set_option maxHeartbeats 4000000 in
theorem folds_any (a : Option Addr) (c m n : Nat) (ts : List Tn) (w : World) (h : Tens w (.slice a m c) ts) (hm : ts.length = m) (m0 : 0 < m) (hn : ∀ i, i < m → (ts.getD i tnil).d.length = n) (n1 : n ≤ 4096) :
    Calls Try.prog 29 #[.slice a m c] w fun e w' => ∃ G ds, e = .returned (.slice (some ⟨G, 0, none⟩) n n) ∧ w.heap.size ≤ G ∧ BlkF w' 23 G ds ∧ ds.length = n ∧ (∀ x ∈ ds, W64 x) ∧ (∀ j, j < n → cn (ds.getD j 0) = foldC (colL ts j)) ∧ Kp w w' := by
  have mr := h.room
  rw [hm] at mr
  have H := hide h
  have HN := hide hn
  have HM := hide hm
  obtain ⟨b, off, rfl, hb, hT0⟩ := h.one (Kp.refl w) (i := 0) (by omega)
  obtain ⟨p, cp, p', cp', hc0, hc1, -, -⟩ := hT0
  rw [hn 0 m0] at hc1
  simp only [Nat.zero_mul, Nat.add_zero] at hc0 hc1
  clear h hn hm
  have hmk := mk_flts n (by omega)
  have hmk2 := mk_flts m (by omega)
  have hst : ∀ (a : Addr) (x : Nat) (w : World), (store a (.float .f64 x)).run Try.prog w = stored Try.prog w a (.float .f64 x) .plain := fun a x w => run_store _ w a _ _ rfl
  go_enter Try.func29, Try.ntmps29
  go_upto_region 3 with fail
  have G0 := hide ((BlkF.made w 23 n).keep (Kp.alloc _ (.cells (madeCells #[.float .f64 0] m) 23)))
  have H0 := hide (BlkF.made (w.alloc (.cells (madeCells #[.float .f64 0] n) 23)) 23 m)
  have K0 := hide ((Kp.alloc w (.cells (madeCells #[.float .f64 0] n) 23)).trans (Kp.alloc _ (.cells (madeCells #[.float .f64 0] m) 23)))
  rw [World.size_alloc] at H0
  have hne : ¬ w.heap.size + 1 = w.heap.size := by omega
  have hBw : Hid (w.heap.size ≤ w.heap.size + 1) := Nat.le_succ _
  generalize ((w.alloc (.cells (madeCells #[.float .f64 0] n) 23)).alloc (.cells (madeCells #[.float .f64 0] m) 23)) = w1 at *
  generalize w.heap.size + 1 = Q at H0 hne hBw ⊢
  generalize hG : w.heap.size = G at G0 hne ⊢
  have hGw : Hid (w.heap.size ≤ G) := Nat.le_of_eq hG
  clear hmk hmk2 hc0 hc1
  go_wp2
  go_loopw [19] (fun i wr => ∃ (k : Nat) (ms hs : List Nat), k ≤ n ∧ i = .int .i64 k ∧ Hid (ms.length = k ∧ hs.length = m) ∧ Hid (BlkF wr 23 G (ms ++ List.replicate (n - k) 0)) ∧ Hid (BlkF wr 23 Q hs) ∧ Hid (∀ x ∈ ms, W64 x) ∧ Hid (∀ j, j < k → cn (ms.getD j 0) = foldC (colL ts j)) ∧ Hid (Kp w wr)) (fun i _ => n - (intOf i).toNat)
  case atStart => exact ⟨0, [], List.replicate m 0, Nat.zero_le _, rfl, ⟨rfl, by simp⟩, unhide G0, unhide H0, by simp [Hid], by unfold Hid; omega, unhide K0⟩
  case round =>
    obtain ⟨k, ms, hs, hk, rfl, HL, BG, BQ, HW, HF, KR⟩ := hrel
    generalize wr = w5 at *
    by_cases hlt : k < n
    · have hltI : (k : Int) < (n : Int) := by omega
      go_wp2
      go_loopw [24] (fun i wr => ∃ q : Nat, q ≤ m ∧ i = .int .i64 q ∧ Hid (BlkF wr 23 Q ((colL ts k).take q ++ hs.drop q)) ∧ Hid (BlkF wr 23 G (ms ++ List.replicate (n - k) 0)) ∧ Hid (Kp w wr)) (fun i _ => m - (intOf i).toNat)
      case atStart => exact ⟨0, Nat.zero_le _, rfl, by simpa using BQ, BG, KR⟩
      case round =>
        obtain ⟨q, hq, rfl, BQ', BG', KR'⟩ := hrel
        by_cases hlq : q < m
        · have hlqI : (q : Int) < (m : Int) := by omega
          obtain ⟨b0, o0, e0, hb', hT⟩ := (unhide H).one (unhide KR') (i := q) (by rw [unhide HM]; exact hlq)
          cases e0
          obtain ⟨p, cp, p', cp', hc0, hc1, -, hf⟩ := hT
          obtain ⟨b1, o1, rfl, hb1, hcn⟩ := flts_at' hf (by rw [unhide HN q hlq]; omega)
          have hck := hcn k (by rw [unhide HN q hlq]; omega)
          have WX := hide (hf.getD (k := k) (by rw [unhide HN q hlq]; omega))
          rw [← colL_getD] at hck WX
          rw [unhide HN q hlq] at hc1
          clear hf hcn
          generalize (ts.getD q tnil).s.length = l0 at *
          have hlen : ((colL ts k).take q ++ hs.drop q).length = m := by
            have := (unhide HL).2
            rw [List.length_append, List.length_take, List.length_drop, colL_length, unhide HM]
            omega
          have HS := hide (col_set (xs := colL ts k) (hs := hs) (k := q) (by rw [colL_length, unhide HM]; exact hlq) (by rw [colL_length, unhide HM]; exact (unhide HL).2))
          go_upto_region 9 with fail
          have X := hide (Bx.made wr (.slice p l0 cp) (.slice (some ⟨b1, o1, none⟩) n cp'))
          have KA := hide (Kp.alloc wr (.cells #[.slice p l0 cp, .slice (some ⟨b1, o1, none⟩) n cp'] 31))
          generalize (wr.alloc (.cells #[.slice p l0 cp, .slice (some ⟨b1, o1, none⟩) n cp'] 31)) = w6 at *
          have hcx := (Below.cell (unhide KA) (p := ⟨b1, o1 + k, none⟩) hb1).trans hck
          generalize wr.heap.size = X6 at *
          obtain ⟨x0, x1, -, -, -⟩ := (unhide X).o
          have hcell := ((unhide BQ').keep (unhide KA)).cell (i := q) (by omega)
          have hfro := ((unhide BQ').keep (unhide KA)).frozen q
          have BS := hide (((unhide BQ').keep (unhide KA)).set q ((colL ts k).getD q 0))
          rw [unhide HS] at BS
          have GS := hide (((unhide BG').keep (unhide KA)).setO hne q (.float .f64 ((colL ts k).getD q 0)))
          have KS := hide (((unhide KR').trans (unhide KA)).set (unhide hBw) (i := q) (.float .f64 ((colL ts k).getD q 0)))
          clear hc0 hc1 hck
          generalize ((colL ts k).take q ++ hs.drop q).getD q 0 = old at *
          generalize (colL ts k).getD q 0 = x at *
          go_wp2
          generalize w6.setCell ⟨Q, q, none⟩ (.float .f64 x) = w7 at *
          go_roundw
          case rel => exact ⟨q + 1, by omega, by go_num, unhide BS, unhide GS, unhide KS⟩
          case measure => simp [intOf]; omega
        · obtain rfl : q = m := by omega
          generalize wr = w6 at *
          have hcol : (colL ts k).take q ++ hs.drop q = colL ts k := by
            have := (unhide HL).2
            rw [List.take_of_length_le (by rw [colL_length, unhide HM]; exact Nat.le_refl _), List.drop_of_length_le (by omega), List.append_nil]
          rw [hcol] at BQ'
          have FL := hide ((unhide BQ').flts (n := q) (cap := q) (by rw [colL_length, unhide HM]) ((unhide H).w64 k) (by omega))
          have hlen : (ms ++ List.replicate (n - k) 0).length = n := by have := (unhide HL).1; rw [List.length_append, List.length_replicate]; omega
          have HD : Hid (∀ r, (ms ++ List.replicate (n - k) 0).set k r = (ms ++ [r]) ++ List.replicate (n - (k + 1)) 0) := by
            intro r
            have e1 := (unhide HL).1
            rw [List.set_append_right _ _ (by omega), e1, Nat.sub_self, show n - k = (n - (k + 1)) + 1 by omega, List.replicate_succ, List.set_cons_zero, List.append_assoc]
            rfl
          go_wp2_with fail
          refine (fold_any _ (colL ts k) w6 (unhide FL) (roomy _ _ _ (Nat.le_refl _) (by omega))).mono ?_
          rintro e w7 ⟨r, rfl, hr, -, k7⟩
          have HR := hide hr
          have hcell := ((unhide BG').keep k7).cell (i := k) (by omega)
          have hfro := ((unhide BG').keep k7).frozen k
          have GS := hide (((unhide BG').keep k7).set k r)
          rw [unhide HD] at GS
          have QS := hide (((unhide BQ').keep k7).setO (fun e => hne e.symm) k (.float .f64 r))
          have KS := hide (((unhide KR').trans k7).set (unhide hGw) (i := k) (.float .f64 r))
          have HL2 : Hid ((ms ++ [r]).length = k + 1 ∧ (colL ts k).length = q) := ⟨by simp [(unhide HL).1], by rw [colL_length, unhide HM]⟩
          have HW2 : Hid (∀ x ∈ ms ++ [r], W64 x) := by
            intro y hy
            rcases List.mem_append.1 hy with h | h
            · exact unhide HW y h
            · rw [List.mem_singleton.1 h]
              exact (unhide HR).2
          have HF2 : Hid (∀ j, j < k + 1 → cn ((ms ++ [r]).getD j 0) = foldC (colL ts j)) := by
            intro j hj
            have e1 := (unhide HL).1
            by_cases e : j = k
            · subst e
              have : (ms ++ [r]).getD j 0 = r := by rw [← e1]; simp
              rw [this]
              exact (unhide HR).1
            · rw [List.getD_eq_getElem?_getD, List.getElem?_append_left (by omega), ← List.getD_eq_getElem?_getD]
              exact unhide HF j (by omega)
          clear k7 hr hcol hlen
          generalize (ms ++ List.replicate (n - k) 0).getD k 0 = old at *
          go_wp2
          generalize w7.setCell ⟨G, k, none⟩ (.float .f64 r) = w8 at *
          go_roundw
          case rel => exact ⟨k + 1, ms ++ [r], colL ts k, by omega, by go_num, unhide HL2, unhide GS, unhide QS, unhide HW2, unhide HF2, unhide KS⟩
          case measure => simp [intOf]; omega
    · obtain rfl : k = n := by omega
      rw [Nat.sub_self, List.replicate_zero, List.append_nil] at BG
      go_wp2
      go_ret
      exact ⟨G, ms, rfl, unhide hGw, unhide BG, (unhide HL).1, unhide HW, unhide HF, unhide KR⟩

/-- what Tree says of the tensors -/
def trS (ts : List Tn) : List Int := if ts.length ≠ 0 ∧ ts.all (ofB (ts.getD 0 tnil).s) = true then (ts.getD 0 tnil).s else []
def trE (ts : List Tn) : Int := if ts.length = 0 then 1 else if ts.all (ofB (ts.getD 0 tnil).s) = true then 0 else 2
def trD (ts : List Tn) : List Nat := if ts.length ≠ 0 ∧ ts.all (ofB (ts.getD 0 tnil).s) = true then (List.range (ts.getD 0 tnil).d.length).map (fun j => foldC (colL ts j)) else []
theorem tr_none {ts : List Tn} (h : ts.length = 0) : trS ts = [] ∧ trD ts = [] ∧ trE ts = 1 := ⟨if_neg (fun e => e.1 h), if_neg (fun e => e.1 h), if_pos h⟩
theorem tr_no {ts : List Tn} (h0 : 0 < ts.length) {k : Nat} (hk : k < ts.length) (h : ofB (ts.getD 0 tnil).s (ts.getD k tnil) = false) : trS ts = [] ∧ trD ts = [] ∧ trE ts = 2 := by
  have hn : ¬ ts.all (ofB (ts.getD 0 tnil).s) = true := by
    intro e
    have e1 : ts.getD k tnil = ts[k] := by simp [hk]
    have := List.all_eq_true.1 e ts[k] (List.getElem_mem hk)
    rw [e1] at h
    rw [h] at this
    cases this
  exact ⟨if_neg (fun e => hn e.2), if_neg (fun e => hn e.2), (if_neg (by omega)).trans (if_neg hn)⟩
theorem all_ix {ts : List Tn} {s : List Int} (h : ∀ k, k < ts.length → ofB s (ts.getD k tnil) = true) : ts.all (ofB s) = true := by
  apply List.all_eq_true.2
  intro x hx
  obtain ⟨i, hi, rfl⟩ := List.getElem_of_mem hx
  have := h i hi
  have e1 : ts.getD i tnil = ts[i] := by simp [hi]
  rwa [e1] at this
theorem tr_yes {ts : List Tn} (h0 : 0 < ts.length) (h : ∀ k, k < ts.length → ofB (ts.getD 0 tnil).s (ts.getD k tnil) = true) : trS ts = (ts.getD 0 tnil).s ∧ trD ts = (List.range (ts.getD 0 tnil).d.length).map (fun j => foldC (colL ts j)) ∧ trE ts = 0 :=
  ⟨if_pos ⟨by omega, all_ix h⟩, if_pos ⟨by omega, all_ix h⟩, (if_neg (by omega)).trans (if_pos (all_ix h))⟩
theorem of_len_eq {s : List Int} {t u : Tn} (h : ofB s t = true) (h' : ofB s u = true) : t.d.length = u.d.length := by
  have a := mayT_len (ofB_may h).1
  have b := mayT_len (ofB_may h').1
  rw [(ofB_may h).2] at a
  rw [(ofB_may h').2] at b
  omega

end Go.Proofs.Ytlfjclnocbohbaa
