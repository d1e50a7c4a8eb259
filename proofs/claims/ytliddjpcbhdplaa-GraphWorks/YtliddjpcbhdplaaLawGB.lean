
/- The law GraphWorks: the work of a graph is its nodes and the work of all that it Calls; nodes more are so much more work. -/
import Derived.Test.YtliddjpcbhdplaaGrZ
import Derived.Test.YtliddjpcbhdplaaGrI
namespace Go.Proofs.Ytliddjpcbhdplaa
open Go.RowKit

theorem u8G {a : Int} (h : (Lit.int .u8 a).wf = true) : ∃ n : Nat, a = n ∧ n < 256 := by
  have h2 := bounds_u8 h
  exact ⟨a.toNat, by omega, by omega⟩
theorem inGraphs_noneB {w : World} {a : Option Addr} {len cap : Nat} (h : InGraphs w a len cap) : a = none → len = 0 ∧ cap = 0 := by
  rcases h with ⟨_, h1, h2⟩ | ⟨x, rfl, _⟩
  · exact fun _ => ⟨h1, h2⟩
  · exact fun e => by cases e
theorem sumT_app (gs : List (List Nd)) : ∀ a b : List Int, sumT gs (a ++ b) = sumT gs a + sumT gs b
  | [], b => by show sumT gs b = 0 + sumT gs b; omega
  | t :: a, b => by
    show wk gs t 9 + sumT gs (a ++ b) = wk gs t 9 + sumT gs a + sumT gs b
    rw [sumT_app gs a b]
    omega
/-- the sum so far -/
def sumK (gs : List (List Nd)) (ns : List Nd) (k : Nat) : Nat := sumT gs (callsL (ns.take k))
theorem sumK_zero (gs : List (List Nd)) (ns : List Nd) : sumK gs ns 0 = 0 := rfl
theorem sumK_all (gs : List (List Nd)) (ns : List Nd) : sumK gs ns ns.length = sumT gs (callsL ns) := by unfold sumK; rw [List.take_length]
theorem sumK_le (gs : List (List Nd)) (ns : List Nd) (k : Nat) : sumK gs ns k ≤ sumT gs (callsL ns) := by
  have h : callsL ns = callsL (ns.take k) ++ callsL (ns.drop k) := by rw [← callsL_append, List.take_append_drop]
  rw [h, sumT_app]
  unfold sumK
  omega
theorem sumK_yes {gs : List (List Nd)} {ns : List Nd} {k : Nat} (hk : k < ns.length) (h : (ns.getD k ndnil).op = 16) : sumK gs ns (k + 1) = sumK gs ns k + wk gs (ns.getD k ndnil).no 9 := by
  unfold sumK
  rw [callsL_yes hk h, sumT_append]
theorem sumK_no {gs : List (List Nd)} {ns : List Nd} {k : Nat} (hk : k < ns.length) (h : (ns.getD k ndnil).op ≠ 16) : sumK gs ns (k + 1) = sumK gs ns k := by
  unfold sumK
  rw [callsL_no hk h]
theorem calls_mem {ns : List Nd} {k : Nat} (hk : k < ns.length) (h : (ns.getD k ndnil).op = 16) : (ns.getD k ndnil).no ∈ callsL ns := by
  have h1 : callsL ns = callsL (ns.take (k + 1)) ++ callsL (ns.drop (k + 1)) := by rw [← callsL_append, List.take_append_drop]
  rw [h1, callsL_yes hk h]
  simp

theorem graph_none {w : World} {bb off len cap i : Nat} (h : InGraphs w (some ⟨bb, off, none⟩) len cap) (hi : i < len) {a' : Option Addr} {l' c' : Nat} (hc : w.cell? ⟨bb, off + i, none⟩ = some (.slice a' l' c')) (e : a' = none) : l' = 0 ∧ c' = 0 := by
  subst e
  rcases h with ⟨h1, _⟩ | ⟨x, h1, h2, h3, h4⟩
  · cases h1
  · obtain ⟨b, off', e2, hb, hcc⟩ := h4 (by omega)
    cases h1
    cases e2
    obtain ⟨a2, l2, c2, h5, h6⟩ := hcc i hi
    rw [hc] at h5
    simp at h5
    obtain ⟨rfl, rfl, rfl⟩ := h5
    rcases h6 with ⟨_, h7, h8⟩ | ⟨y, h7, _⟩
    · exact ⟨h7, h8⟩
    · cases h7
theorem Wks.start {wr w7 w8 : World} {g7 k7 gN len0 g8 k8 nl : Nat} {xs ys : List Value} (ho7 : w7.ownsRow wr.heap.size 34 1 (.slice (some ⟨g7, 0, none⟩) len0 k7) len0 xs) (hk7 : Kp wr w7)
    (ho8 : w8.ownsRow w7.heap.size 41 7 (.slice (some ⟨g8, 0, none⟩) nl k8) nl ys) (hg8 : (w7.alloc (.cells #[] 41)).grownBy w8 (some w7.heap.size)) (hgN : gN < len0) :
    (∃ u, w8.cell? ⟨g7, gN, none⟩ = some u) ∧ w8.frozen? ⟨g7, gN, none⟩ = false ∧ Wks wr (w8.setCell ⟨g7, gN, none⟩ (.slice (some ⟨g8, 0, none⟩) nl k8)) g7 k7 gN len0 wr.heap.size w7.heap.size xs ys g8 k8 nl 0 := by
  obtain ⟨hq1, hq2⟩ := ho7.lt g7 rfl
  have hr := (ho7.alloc (.cells #[] 41)).kept hg8 (.inr (by simp only [Value.ownBlock]; intro e; have e := Option.some.inj e; omega))
  obtain ⟨s1, s2⟩ := hr.stored gN (.slice (some ⟨g8, 0, none⟩) nl k8)
  have hs := hk7.size
  have hk := (hk7.trans (Kp.alloc w7 (.cells #[] 41))).of_grown hg8 (fun k e => by cases e; exact hs)
  have hxl := hr.1
  refine ⟨?_, hr.frozenAt gN, hk.of_grown s2 (fun k e => by cases e; exact hq1), s1, ?_, ?_⟩
  · rw [hr.cellAt gN (by omega), List.getElem?_eq_getElem (by omega)]
    exact ⟨_, rfl⟩
  · have := ownsRow_setCell_below ho8 (a := ⟨g7, gN, none⟩) hq2 (.slice (some ⟨g8, 0, none⟩) nl k8)
    show World.ownsRow _ _ _ _ _ _ (ys ++ [])
    rw [List.append_nil]
    exact this
  · have e1 := hg8.size
    have e2 := s2.size
    rw [sz_alloc] at e1
    omega
theorem Wks.cells {w wr w4 : World} {Bk kk g len0 B1 B2 : Nat} {xs ys : List Value} {q kq nl i : Nat} (h : Wks w wr Bk kk g len0 B1 B2 xs ys q kq nl i) (hg : g < len0) : wr.cell? ⟨Bk, g, none⟩ = some (.slice (some ⟨q, 0, none⟩) (nl + i) kq) ∧
    (Bk < B2 → (wr.alloc (.cells leafC.toArray 41)).grownBy w4 (some q) → (∃ u, w4.cell? ⟨Bk, g, none⟩ = some u) ∧ w4.frozen? ⟨Bk, g, none⟩ = false) := by
  have hxl := h.row.1
  rw [List.length_set] at hxl
  refine ⟨?_, fun h2 hgr => ?_⟩
  · rw [h.row.cellAt g (by omega), List.getElem?_set_self (by omega)]
  · have hq : B2 ≤ q := (h.nod.lt q rfl).1
    have hr := (h.row.alloc (.cells leafC.toArray 41)).kept hgr (.inr (by simp only [Value.ownBlock]; intro e; have e := Option.some.inj e; omega))
    refine ⟨?_, hr.frozenAt g⟩
    rw [hr.cellAt g (by omega), List.getElem?_set_self (by omega)]
    exact ⟨_, rfl⟩

theorem cells_new2 (w : World) (cs : List Value) (e : TypeId) (j : Nat) (u : Value) (h : cs[j]? = some u) : (w.alloc (.cells cs.toArray e)).cell? ((⟨w.heap.size, 0, none⟩ : Addr).add j) = some u := by
  rw [Addr.add_lit, Nat.zero_add, Blk.cells (heap_new w (.cells cs.toArray e) _ rfl)]
  simpa using h

set_option maxRecDepth 20000 in
set_option maxHeartbeats 8000000 in
theorem works_walk (a0 : Option Addr) (len0 cap0 : Nat) (g : Int) (n0 : Nat) (hn0 : n0 < 256) (hg64 : I64 g) (w : World) (h0 : InGraphs w a0 len0 cap0) (y0 : ZGraphs w a0 len0) :
    Calls Try.prog 6 #[.slice a0 len0 cap0, .int .i64 g, .int .u8 n0] w fun e w' => e = .returned (.bool true) ∧ Kp w w' := by
  have hk0 : ((n0 : Int)).tmod 20 = ((n0 % 20 : Nat) : Int) := by rw [Int.tmod_eq_emod_of_nonneg (by omega)]; omega
  have hm1 := Nat.mod_lt n0 (show 0 < 20 by decide)
  generalize hM : n0 % 20 = mm at *
  have H0 := hide h0
  have Y0 := hide y0
  have N0 := hide (inGraphs_noneB h0)
  clear h0 y0
  go_enter Try.func6, Try.ntmps6
  go_wp2_with fail
  refine (awake10_any w).mono ?_
  rintro e w1 ⟨rfl, k1⟩
  have K1 := hide k1
  clear k1
  go_wp2_with fail
  refine (smallL_any len0 cap0 a0 w1 ((unhide H0).keepW (unhide K1)) ((unhide Y0).keepW (unhide H0) (unhide K1))).mono ?_
  rintro e w2 ⟨⟨b0, rfl, hs0⟩, k2⟩
  have K2 := hide ((unhide K1).trans k2)
  have K12 := hide k2
  have HS0 := hide hs0
  clear k2 hs0
  cases b0 with
  | false =>
    go_wp2
    go_ret
    exact ⟨rfl, unhide K2⟩
  | true =>
    obtain ⟨hl0, _⟩ := unhide HS0 rfl
    have HG0 : Hid (∃ gs : List (List Nd), gs.length = len0 ∧ Graphs w1 (.slice a0 len0 cap0) gs) := graphs_of ((unhide H0).keepW (unhide K1)) hl0 (unhide HS0 rfl).2
    have HSS := hide (unhide HS0 rfl).2
    clear HS0
    by_cases hg0 : g < 0
    · go_wp2
      go_ret
      exact ⟨rfl, unhide K2⟩
    · by_cases hgl : (len0 : Int) ≤ g
      · go_wp2
        go_ret
        exact ⟨rfl, unhide K2⟩
      · obtain ⟨gN, rfl⟩ : ∃ gN : Nat, g = (gN : Int) := ⟨g.toNat, by omega⟩
        have hgN : gN < len0 := by omega
        obtain ⟨gs, hgsl, hgs⟩ := unhide HG0
        have HG : Hid (Graphs w2 (.slice a0 len0 cap0) gs) := hgs.keep (unhide K12)
        have HWK := work_any a0 cap0 gs (gN : Int) w2 (by rw [hgsl]; exact unhide HG) hg64
        rw [hgsl] at HWK
        have HC := hide HWK
        clear HWK hgs HG0 Y0 K1 K12 HSS
        go_wp2_with fail
        refine (unhide HC).mono ?_
        rintro e w3 ⟨v, r, rfl, hwr, k3⟩
        have HWR := hide hwr
        have K3 := hide ((unhide K2).trans k3)
        have HG3 := hide ((unhide HG).keep k3)
        clear k3 hwr HC HG K2
        by_cases hr : r = 0
        · subst hr
          have WL := works_law (by rw [hgsl]; exact hgN) (unhide HWR)
          obtain ⟨rfl, hle, hsum, hcal, hmore⟩ := WL
          obtain ⟨bb, off, a', c', rfl, hbb, hcell, hnodes⟩ := (unhide HG3).one (Kp.refl w3) (i := gN) (by rw [hgsl]; exact hgN)
          have hroom := hnodes.room
          have HNS : Hid (∃ ns : List Nd, ns = gs.getD gN [] ∧ Nodes w3 (.slice a' ns.length c') ns) := ⟨_, rfl, hnodes⟩
          have HCL := hide hcal
          have HMO := hide hmore
          have HGL := hide hgsl
          obtain ⟨ns, hnse, hnN⟩ := unhide HNS
          rw [← hnse] at hcell hroom hsum hcal
          have hlen : lenG gs gN = ns.length := by unfold lenG; rw [hnse]
          rw [hlen] at hsum
          have HN := hide hnN
          have HCA := hide hcal
          have HCE := hide hcell
          have hbb2 := hide hbb
          have HSA := hide (sumK_all gs ns)
          have HKL := hide (sumK_le gs ns)
          have HNE := hide hnse
          have HNO : Hid (a' = none → ns.length = 0 ∧ c' = 0) := fun e => graph_none ((unhide H0).keepW (unhide K3)) hgN hcell e
          clear hnodes HNS hnN hcal hmore HCL hnse hlen HWR hbb H0
          have hwk : wk gs (gN : Int) 9 ≤ 4096 := hle
          generalize hTT : sumT gs (callsL ns) = TT at *
          generalize hWW : wk gs (gN : Int) 9 = WW at *
          generalize hnl : ns.length = nl at *
          subst hsum
          go_wp2
          go_loopw [10, 9] (fun i s wr => ∃ k : Nat, k ≤ nl ∧ i = .int .i64 k ∧ s = .int .i64 ((nl : Int) + (sumK gs ns k : Int)) ∧ Hid (Kp w3 wr)) (fun i _ _ => nl - (intOf i).toNat)
          case atStart => exact ⟨0, Nat.zero_le _, rfl, by rw [sumK_zero]; go_num, Kp.refl w3⟩
          case round =>
            obtain ⟨k, hk, rfl, rfl, HK⟩ := hrel
            have hce := (unhide HK).cellT (unhide HCE)
            have hkl := unhide HKL k
            generalize hS : sumK gs ns k = SS at *
            by_cases hlt : k < nl
            · have hkI : (k : Int) < (nl : Int) := by omega
              have hkn : k < ns.length := by rw [hnl]; exact hlt
              obtain ⟨b2, off2, rfl, hb2, hnd⟩ := (unhide HN).one (unhide HK) hkn
              have hop := hnd.op
              have hno := hnd.no
              have wno := hnd.wno
              clear hnd
              by_cases h16 : (ns.getD k ndnil).op = 16
              · rw [h16] at hop
                have HT := hide (unhide HCA _ (calls_mem hkn h16))
                have HSY := sumK_yes (gs := gs) hkn h16
                rw [hS] at HSY
                have hkl2 := unhide HKL (k + 1)
                rw [HSY] at hkl2
                have HSY := hide HSY
                generalize (ns.getD k ndnil).no = t at *
                have HWK := work_any (some ⟨bb, off, none⟩) cap0 gs t wr (by rw [hgsl]; exact (unhide HG3).keep (unhide HK)) wno
                rw [hgsl] at HWK
                have HC := hide HWK
                clear HWK h16
                go_wp2_with fail
                refine (unhide HC).mono ?_
                rintro e w4 ⟨v, r, rfl, hwr, k4⟩
                obtain ⟨rfl, rfl⟩ := unhide HT _ _ hwr
                have HK4 := hide ((unhide HK).trans k4)
                clear hwr k4 HC
                generalize wk gs t 9 = W9 at *
                go_wp2
                go_roundw
                case rel => exact ⟨k + 1, by omega, by go_num, by rw [unhide HSY]; go_num, unhide HK4⟩
                case measure => simp [intOf]; omega
              · have h16b : ((ns.getD k ndnil).op == 16) = false := beq_eq_false_iff_ne.2 h16
                have HSY := sumK_no (gs := gs) hkn h16
                rw [hS] at HSY
                have HSY := hide HSY
                generalize (ns.getD k ndnil).op = o at *
                go_wp2
                go_roundw
                case rel => exact ⟨k + 1, by omega, by go_num, by rw [unhide HSY], unhide HK⟩
                case measure => simp [intOf]; omega
            · obtain rfl : k = nl := by omega
              have hST : SS = TT := by rw [← hS, ← unhide HSA]
              subst hST
              obtain ⟨xs, hxv, hxl, hxc⟩ := ((unhide HG3).keep (unhide HK)).vals hgsl
              have HNr := (unhide HN).keep (unhide HK)
              obtain ⟨ys, hyv, hyl, hyc⟩ := HNr.vals hnl
              have HX := hide hxv
              have HY := hide hyv
              have HXC : Hid (∀ ad : Addr, some (⟨bb, off, none⟩ : Addr) = some ad → ∀ j u, xs[j]? = some u → (wr.alloc (.cells #[] 34)).cell? (ad.add j) = some u) := fun ad e j u hj => (Kp.alloc _ _).cellT (hxc ad e j u hj)
              have HYC := hide hyc
              have F0 : Hid (xs.length = len0 * 1) := by rw [Nat.mul_one]; exact hxl
              have F1 : Hid (ys.length = k * 7) := hyl
              have KR := hide ((unhide K3).trans (unhide HK))
              have hce7 := hce
              clear hxv hyv hxc hyc HNr HCA HSA HKL hkl hS
              go_wp2_with (first
                | (have hq7 := HO7; clear hq7; at_builtin; go_must (refine wpList_append_list _ rfl _ _ 32 41 rfl (.agg #[.int .i64 0, .slice none 0 0, .slice none 0 0, .int .i64 0, .slice none 0 0, .slice none 0 0, .slice none 0 0]) 7 136 infoNo rfl (by decide) (by decide) Try.underlying32 w7 w7.heap.size w7.heap.size 0 0 [] rfl own_none a' k c' ys rfl (unhide F1) (unhide HNO) (fun ad e j u hj => ((unhide K7).trans (Kp.alloc _ _)).cellT (unhide HYC ad e j u hj)) (NVals.one (unhide HY)) (by omega) (by simp) (Kp.alloc _ _) (Nat.le_refl _) ?_); intro g8 k8 w8 ho8 hg8 hk8 hb8; rw [Nat.zero_add, List.nil_append] at ho8; obtain ⟨⟨u8, c8⟩, f8, hw8⟩ := Wks.start (unhide HO7) (unhide K7) ho8 hg8 hgN; have HW8 := hide hw8; clear ho8 hg8 hk8 hb8 hw8)
                | (at_builtin; go_must (refine wpList_append_list _ rfl _ _ 22 34 rfl (.agg #[.slice none 0 0]) 1 24 infoGr rfl (by decide) (by decide) Try.underlying22 wr wr.heap.size wr.heap.size 0 0 [] rfl own_none (some ⟨bb, off, none⟩) len0 cap0 xs rfl (unhide F0) (unhide N0) (unhide HXC) (GVals.one (unhide HX)) (by omega) (by simp) (Kp.alloc _ _) (Nat.le_refl _) ?_); intro g7 k7 w7 ho7 hg7 hk7 hb7; rw [Nat.zero_add, List.nil_append] at ho7; have HO7 := hide ho7; have K7 := hide hk7; have ce7 := (hk7.trans (Kp.alloc w7 (.cells #[] 41))).cellT hce7; clear ho7 hg7 hk7 hb7))
              have hB12 : g7 < w7.heap.size := ((unhide HO7).lt g7 rfl).2
              have hB11 : wr.heap.size ≤ g7 := ((unhide HO7).lt g7 rfl).1
              have HB12 := hide hB12
              have HB11 := hide hB11
              have HB2 : Hid (wr.heap.size ≤ w7.heap.size) := (unhide K7).size
              generalize hW9 : w8.setCell ⟨g7, gN, none⟩ (.slice (some ⟨g8, 0, none⟩) k k8) = w9
              rw [hW9] at HW8
              have HGr : Hid (Graphs wr (.slice (some ⟨bb, off, none⟩) len0 cap0) gs) := (unhide HG3).keep (unhide HK)
              clear hW9 c8 f8 HO7 K7 hB12 hB11 HXC HYC F0 F1 hce hce7 ce7 HN HCE HNO HG3 hyl hxl hcell HK K3
              generalize w7.heap.size = B2 at *
              obtain ⟨wR, hwR⟩ : ∃ x, x = wr := ⟨_, rfl⟩
              subst hwR
              go_loopw [14] (fun i wq => ∃ j : Nat, j ≤ mm ∧ i = .int .i64 j ∧ ∃ q kq, Hid (Wks wR wq g7 k7 gN len0 wR.heap.size B2 xs ys q kq k j)) (fun i _ => mm - (intOf i).toNat)
              case atStart => exact ⟨0, Nat.zero_le _, rfl, g8, k8, unhide HW8⟩
              case round =>
                obtain ⟨j, hj, rfl, q, kq, HW⟩ := hrel
                by_cases hjm : j < mm
                · have hjI : (j : Int) < (mm : Int) := by omega
                  have cq := ((unhide HW).cells (w4 := wr) hgN).1
                  have cq2 : (wr.alloc (.cells leafC.toArray 41)).cell? ⟨g7, gN, none⟩ = some (.slice (some ⟨q, 0, none⟩) (k + j) kq) := (Kp.alloc _ _).cellT cq
                  have HL := hide ((unhide HW).nod.alloc (.cells leafC.toArray 41))
                  have HLE := hide (unhide HW).le
                  go_wp2_with (at_builtin; go_must (refine wpList_append_list _ rfl _ _ 32 41 rfl (.agg #[.int .i64 0, .slice none 0 0, .slice none 0 0, .int .i64 0, .slice none 0 0, .slice none 0 0, .slice none 0 0]) 7 136 infoNo rfl (by decide) (by decide) Try.underlying32 wR B2 q (k + j) kq (ys ++ leafs j) rfl (unhide HL) (some ⟨wr.heap.size, 0, none⟩) 1 1 leafC rfl rfl (fun e => by cases e) (fun ad e i u hu => by cases e; exact cells_new2 wr leafC 41 i u hu) (NVals.one (leafC_vals wr)) (by omega) (by rw [sz_alloc]; have := unhide HLE; omega) ((unhide HW).kp.trans (Kp.alloc _ _)) (unhide HB2) ?_); intro g9 k9 w9 ho9 hg9 hk9 hb9; obtain ⟨⟨u9, c9⟩, f9⟩ := ((unhide HW).cells hgN).2 (unhide HB12) hg9; have HW9 := hide ((unhide HW).next (Nat.le_refl _) (unhide HB11) (unhide HB12) ho9 hg9); clear ho9 hg9 hk9 hb9)
                  go_roundw
                  case rel => exact ⟨j + 1, by omega, by go_num, g9, k9, unhide HW9⟩
                  case measure => simp [intOf]; omega
                · obtain rfl : j = mm := by omega
                  have HGM := (unhide HW).graphs (by rw [hgsl]; exact hgN) (unhide HX) (by rw [← unhide HNE]; exact unhide HY) hgsl (by rw [← unhide HNE]; exact hnl) (by omega) (by omega)
                  have HWK := work_any (some ⟨g7, 0, none⟩) k7 (moreG gs gN j) (gN : Int) wr (by rw [moreG_length, hgsl]; exact HGM) hg64
                  rw [moreG_length, hgsl] at HWK
                  have HC := hide HWK
                  have KQ := hide ((unhide KR).trans (unhide HW).kp)
                  clear HWK HGM HW HW8
                  go_wp2_with fail
                  refine (unhide HC).mono ?_
                  rintro e wz ⟨v', r', rfl, hwr, kz⟩
                  have KZ := hide ((unhide KQ).trans kz)
                  rcases unhide HMO j v' r' hwr with ⟨h4, rfl, rfl⟩ | ⟨h4, rfl, rfl⟩
                  · clear hwr kz HC HMO hTT hWW
                    go_wp2
                    go_ret
                    exact ⟨rfl, unhide KZ⟩
                  · clear hwr kz HC HMO hTT hWW
                    have h4I : (4096 : Int) < (k : Int) + (SS : Int) + (j : Int) := by omega
                    go_wp2
                    go_ret
                    exact ⟨rfl, unhide KZ⟩
        · have hrb : (r == 0) = false := beq_eq_false_iff_ne.2 hr
          have hrn : (r != 0) = true := bne_iff_ne.2 hr
          obtain rfl := works_no (unhide HWR) hr
          go_wp2
          go_ret
          exact ⟨rfl, unhide K3⟩

end Go.Proofs.Ytliddjpcbhdplaa
