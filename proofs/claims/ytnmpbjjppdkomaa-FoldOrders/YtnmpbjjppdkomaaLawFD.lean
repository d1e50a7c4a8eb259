
/- The law FoldOrders, walked. -/
import Derived.Test.YtnmpbjjppdkomaaLawFA
import Derived.Test.YtnmpbjjppdkomaaFldM
import Derived.Deep.DeepCutAuto
namespace Go.Proofs.Ytnmpbjjppdkomaa
open Go.RowKit

theorem InRowK.cellAt {k : IntKind} {w w' : World} {a : Option Addr} {len cap : Nat} {zs : List Int} (h : InRowK k w a len cap zs) (kp : Kp w w') {i : Nat} (hi : i < len) : ∃ b off, a = some ⟨b, off, none⟩ ∧ w'.cell? ⟨b, off + i, none⟩ = some (.int k (zs.getD i 0)) ∧ (Lit.int k (zs.getD i 0)).wf = true := by
  rcases h with ⟨_, rfl, _, _⟩ | ⟨x, rfl, h1, _, h3, h4, h5⟩
  · omega
  · obtain ⟨b, off, rfl, hb, hc⟩ := cells_at h4 (by omega)
    have hz : i < zs.length := by omega
    have e : zs.getD i 0 = zs[i] := by simp [hz]
    exact ⟨b, off, rfl, kp.cellS (hc i hz), by rw [e]; exact h5 _ (List.getElem_mem hz)⟩

theorem tr_all {ts : List Tn} (h : trE ts = 0) : 0 < ts.length ∧ ∀ k, k < ts.length → ofB (ts.getD 0 tnil).s (ts.getD k tnil) = true := by
  have h0 : 0 < ts.length := by
    apply Nat.pos_of_ne_zero
    intro e
    rw [(tr_none e).2.2] at h
    omega
  have hall : ts.all (ofB (ts.getD 0 tnil).s) = true := by
    by_cases e : ts.all (ofB (ts.getD 0 tnil).s) = true
    · exact e
    · have : trE ts = 2 := (if_neg (by omega)).trans (if_neg e)
      omega
  refine ⟨h0, fun k hk => ?_⟩
  have e : ts.getD k tnil = ts[k] := by simp [hk]
  rw [e]
  exact List.all_eq_true.1 hall _ (List.getElem_mem hk)

/-- ints that are numbers of slots -/
def asI (ls : List Nat) : List Int := ls.map (fun x : Nat => (x : Int))
theorem asI_length (ls : List Nat) : (asI ls).length = ls.length := by simp [asI]
theorem asI_snoc (k : Nat) : asI (List.range k) ++ [(k : Int)] = asI (List.range (k + 1)) := by
  unfold asI
  rw [List.range_succ, List.map_append]
  rfl
theorem asI_wf {ls : List Nat} (h : ∀ x ∈ ls, x < 1000) : ∀ x ∈ asI ls, I64 x := by
  intro x hx
  obtain ⟨y, hy, rfl⟩ := List.mem_map.1 hx
  have := h y hy
  unfold I64
  omega
theorem asI_getD {ls : List Nat} {k : Nat} (h : k < ls.length) : (asI ls).getD k 0 = (ls[k] : Int) := by
  unfold asI
  simp [h]

theorem Own.lens8 {w : World} {e : TypeId} {base : Nat} {v : Value} {xs : List Int} (h : Own w e base v xs) : Roomy v := by
  intro a n c hv
  obtain ⟨_, ⟨rfl, _⟩ | ⟨g, cap, cur, rfl, _, _, h1, h2, _⟩⟩ := h
  · cases hv; omega
  · cases hv
    unfold maxLen at h2
    omega
theorem Ints.take8 {w : World} {b off n cap : Nat} {xs : List Int} (h : Ints w (.slice (some ⟨b, off, none⟩) n cap) xs) {m : Nat} (hm : m ≤ n) (cap' : Nat) : Ints w (.slice (some ⟨b, off, none⟩) m cap') (xs.take m) := by
  obtain ⟨h1, h2, h0, a, c, e, h3⟩ := h
  cases e
  have hl : (xs.take m).length = m := by rw [List.length_take]; omega
  refine ⟨fun x hx => h1 x (List.mem_of_mem_take hx), by omega, (by intro n c h; cases h), some ⟨b, off, none⟩, cap', by rw [hl], fun hp => ?_⟩
  obtain ⟨b', off', e, hb, hc⟩ := h3 (by omega)
  cases e
  refine ⟨b, off, rfl, hb, fun i hi => ?_⟩
  have hi' : i < m := by omega
  have := hc i (by omega)
  simpa [List.getD_eq_getElem?_getD, List.getElem?_take, hi'] using this
theorem Ints.drop8 {w : World} {b off n cap : Nat} {xs : List Int} (h : Ints w (.slice (some ⟨b, off, none⟩) n cap) xs) {m : Nat} (hm : m ≤ n) (cap' : Nat) : Ints w (.slice (some ⟨b, off + m, none⟩) (n - m) cap') (xs.drop m) := by
  obtain ⟨h1, h2, h0, a, c, e, h3⟩ := h
  cases e
  have hl : (xs.drop m).length = xs.length - m := by rw [List.length_drop]
  refine ⟨fun x hx => h1 x (List.mem_of_mem_drop hx), by omega, (by intro n c h; cases h), some ⟨b, off + m, none⟩, cap', by rw [hl], fun hp => ?_⟩
  obtain ⟨b', off', e, hb, hc⟩ := h3 (by omega)
  cases e
  refine ⟨b, off + m, rfl, hb, fun i hi => ?_⟩
  have := hc (m + i) (by omega)
  rw [← Nat.add_assoc] at this
  rw [this]
  simp [List.getD_eq_getElem?_getD]

/-- 'append(own, s...)' as one step of a region that draws -/
theorem step_append_own8 {P : Program} {ops : Array Oper} {o : Oper} {a : Act} {w : World} {K : Act → World → Prop} {Q : Exit → Act → World → Prop} {E : Prop}
    (hg : o.guard = none) (s x : Operand) (t : TypeId) (hop : o.op = Op.call { callee := Callee.builtin Builtin.append, args := #[s, x], argTypes := #[t, t] })
    (e : TypeId) (hin : (P.info? e).map (fun i => (i.zero, i.size, i.bytes)) = some (some (.int .i64 0), 1, 8)) (ht : P.underlying t = some (.slice e))
    (base : Nat) (v u : Value) (xs ys : List Int) (hs : a.eval s = v) (hx : a.eval x = u) (hv : Own w e base v xs) (hu : Ints w u ys) (hroom : (xs.length + ys.length) * 8 ≤ 140737488351232) (hbase : base ≤ w.heap.size)
    (h : ∀ b n c w', Own w' e base (.slice b n c) (xs ++ ys) → w.grownBy w' v.ownBlock → K (a.put o.dst (.slice b n c)) w') :
    if Region.wanted o (yielded ops a.tmps) = true then Oper.wp P o a w K Q else E := by
  have hw : Region.wanted o (yielded ops a.tmps) = true := by simp [Region.wanted, hg]
  rw [if_pos hw]
  obtain ⟨v', w', hrun, h1, h2⟩ := run_append_ints (P := P) w base t o.type e hin ht v u xs ys hv hu hroom hbase
  obtain ⟨b, n, c, rfl⟩ := h1.sl
  unfold Oper.wp
  simp [execOp, hop, resolve, invoke, builtin, hs, hx, hrun, Result.andThen]
  exact h b n c w' h1 h2

set_option maxRecDepth 20000 in
set_option maxHeartbeats 8000000 in
theorem orders_walk (a : Option Addr) (len cap : Nat) (a1 : Option Addr) (len1 cap1 : Nat) (z1 : List Int) (w : World) (h : InTens w a len cap) (h1 : InRowK .u8 w a1 len1 cap1 z1) :
    Calls Try.prog 4 #[.slice a len cap, .slice a1 len1 cap1] w fun e w' => e = .returned (.bool true) ∧ Kp w w' := by
  have H := hide h
  have HO := hide h1
  have hmax := h.max
  have hmax1 := h1.max
  clear h h1
  go_enter Try.func4, Try.ntmps4
  go_wp2_with fail
  refine (awake8_any w).mono ?_
  rintro e w1 ⟨rfl, k1⟩
  have K1 := hide k1
  have H1 := hide ((unhide H).keep k1)
  clear k1
  go_wp2_with fail
  refine (few_any a len cap w1 (unhide H1)).mono ?_
  rintro e w2 ⟨r, rfl, hr, k2⟩
  have HR := hide hr
  have K2 := hide ((unhide K1).trans k2)
  have KK := hide k2
  clear hr k2
  cases r
  · clear HR
    go_wp2
    go_ret
    exact ⟨rfl, unhide K2⟩
  obtain ⟨hl, ts, hts, ht⟩ := unhide HR rfl
  have HT := hide (ht.keep (unhide KK))
  have HTS := hide hts
  clear HR ht hts KK H1 K1
  by_cases g0 : len = 0
  · have g0' : ((len : Int) == 0) = true := by rw [g0]; rfl
    go_wp2
    go_ret
    exact ⟨rfl, unhide K2⟩
  have g0' : ((len : Int) == 0) = false := beq_eq_false_iff_ne.2 (by omega)
  by_cases g1 : 100 < len1
  · have g1' : decide ((100 : Int) < (len1 : Int)) = true := decide_eq_true (by omega)
    go_wp2
    go_ret
    exact ⟨rfl, unhide K2⟩
  have g1' : decide ((100 : Int) < (len1 : Int)) = false := decide_eq_false (by omega)
  go_wp2_with fail
  refine (rtree_all _ ts w2 (unhide HT)).mono ?_
  generalize hS : trS ts = S at *
  generalize hE : trE ts = E at *
  generalize hD : trD ts = D at *
  have HQ := hide (And.intro hS (And.intro hE hD))
  clear hS hE hD
  rintro e w3 ⟨ds, ⟨p1, c1, p2, c2, rfl, i1, f1, -, -⟩, hc, k3⟩
  have ka3 := Kp.alloc w3 (.cells #[.slice p1 S.length c1, .slice p2 ds.length c2] 28)
  have I3 := hide (i1.keep ka3)
  have F3 := hide (f1.keep ka3)
  have HT3 := hide ((unhide HT).keep (k3.trans ka3))
  have K3 := hide ((unhide K2).trans (k3.trans ka3))
  have X3 := hide (Bx.made w3 (.slice p1 S.length c1) (.slice p2 ds.length c2))
  have HC := hide hc
  clear hc i1 f1 k3 ka3 K2 HT
  go_upto_region 6 with fail
  generalize w3.alloc (.cells #[.slice p1 S.length c1, .slice p2 ds.length c2] 28) = w4 at *
  generalize w3.heap.size = X at *
  by_cases hE0 : E = 0
  case neg =>
    have hE1 : (E != 0) = true := by simpa using hE0
    go_wp2
    go_ret
    exact ⟨rfl, unhide K3⟩
  subst hE0
  obtain ⟨tp, ta⟩ := tr_all (ts := ts) (unhide HQ).2.1
  have HA := hide ta
  have HMB : Hid (mayB (ts.getD 0 tnil).s = true) := mayT_may (ofB_may (ta 0 tp)).1
  have HFL : Hid (∀ i, i < len → (ts.getD i tnil).d.length ≠ 0) := by
    intro i hi
    have := mayT_pos (ofB_may (ta i (by rw [unhide HTS]; exact hi))).1
    omega
  clear ta
  obtain ⟨b, off, rfl, hb, hT0⟩ := (unhide HT3).one (Kp.refl w4) (i := 0) tp
  obtain ⟨q, cq, q', cq', hc0, -, hs0, -⟩ := hT0
  simp only [Nat.zero_mul, Nat.add_zero] at hc0
  have S0 := hide hs0
  have tpI : (0 : Int) < (len : Int) := by omega
  clear hs0 tp
  generalize hs : (ts.getD 0 tnil).s = s at *
  have HS := hide hs
  clear hs
  go_wp2_with fail
  refine (fnew_yes _ s len w4 (unhide S0) (unhide HMB) (by omega)).mono ?_
  rintro e w5 ⟨B, C, rfl, sl, hC, -, k5⟩
  have SL := hide sl
  have HCW : Hid (w4.heap.size ≤ C) := hC
  have K5 := hide ((unhide K3).trans k5)
  have K45 := hide k5
  clear sl hC k5 hc0
  have INFO := hide Try.infoInt
  go_wp2
  go_loopw [10, 9] (fun i v wr => ∃ k : Nat, k ≤ len ∧ i = .int .i64 k ∧ Hid (Own wr 3 w5.heap.size v (asI (List.range k))) ∧ Hid (Kp w5 wr)) (fun i _ _ => len - (intOf i).toNat)
  case atStart => exact ⟨0, Nat.zero_le _, rfl, (by rw [List.range_zero]; exact Own.nil _ _ _), Kp.refl _⟩
  case round =>
    obtain ⟨k, hk, rfl, OV, KV⟩ := hrel
    generalize wr = w6 at *
    by_cases hlt : k < len
    · have hltI : (k : Int) < (len : Int) := by omega
      have qa := Kp.alloc w6 (.cells #[.int .i64 (k : Int)] 3)
      have OW := hide ((unhide OV).keep qa)
      have AP := hide (lit_ints w6 3 [(k : Int)] #[.int .i64 (k : Int)] w6.heap.size 1 rfl rfl rfl (by intro x hx; rw [List.mem_singleton.1 hx]; unfold I64; omega) (by decide))
      have RM : Hid (((asI (List.range k)).length + [(k : Int)].length) * 8 ≤ 140737488351232) := by unfold Hid; rw [asI_length, List.length_range, List.length_singleton]; omega
      have BS : Hid (w5.heap.size ≤ (w6.alloc (.cells #[.int .i64 (k : Int)] 3)).heap.size) := ((unhide KV).trans qa).size
      have QA := hide ((unhide KV).trans qa)
      clear qa
      go_wp2_with (at_builtin; go_must (refine wpList_append_ints _ rfl (.tmp 61) (.tmp 63) 25 rfl w5.heap.size 3 (unhide INFO) Try.underlying25 _ _ (asI (List.range k)) [(k : Int)] rfl rfl (unhide OW) (unhide AP) (unhide RM) (unhide BS) ?_); intro v2 w7 o2 g2)
      have q2 : Kp w5 w7 := Kp.of_grown (unhide QA) g2 (fun k hk => (unhide OW).block k hk)
      have O2 := hide o2
      have Q2 := hide q2
      clear o2 q2 g2 OW AP RM BS QA
      go_wp2
      go_roundw
      case rel => exact ⟨k + 1, by omega, by go_num, by rw [← asI_snoc]; exact unhide O2, unhide Q2⟩
      case measure => simp [intOf]; omega
    · obtain rfl : k = len := by omega
      have L6 := hide ((unhide OV).ints (asI_wf (fun x hx => by have := List.mem_range.1 hx; omega)) (by rw [asI_length, List.length_range]; omega))
      have SL6 := hide ((unhide SL).keep (unhide KV))
      have OR6 := hide (Ord.start (unhide HTS) (unhide HFL))
      have K46 := hide ((unhide K45).trans (unhide KV))
      have R6 : Hid (Roomy _) := (unhide OV).lens8
      clear OV SL
      obtain ⟨al, cl, rfl, -⟩ := (unhide L6).val
      rw [asI_length, List.length_range] at L6 R6 ⊢
      go_wp2
      go_loopw [11, 9] (fun i v wr => ∃ (ls : List Nat) (us : List Tn) (j : Nat), i = .int .i64 j ∧ Hid (j + ls.length = k) ∧ Hid (Ints wr v (asI ls)) ∧ Hid (Roomy v) ∧ Hid (Slots wr B C k s us) ∧ Hid (Ord ts us ls k) ∧ Hid (Kp w4 wr)) (fun i _ _ => k + 1 - (intOf i).toNat)
      case atStart => exact ⟨List.range k, List.replicate k tnil, 0, rfl, by unfold Hid; simp, unhide L6, unhide R6, unhide SL6, unhide OR6, unhide K46⟩
      case round =>
        obtain ⟨ls, us, j, rfl, HJ, LV, RV, SLr, ORr, KR⟩ := hrel
        generalize wr = w7 at *
        obtain ⟨al2, cl2, rfl, hv⟩ := (unhide LV).val
        rw [asI_length] at LV RV hv ⊢
        have HV := hide hv
        obtain ⟨hroom1, hroom2⟩ := unhide RV _ _ _ rfl
        clear hv L6 SL6 OR6 K46 RV R6
        by_cases hn : ls.length = 0
        · have hls : ls = [] := List.eq_nil_of_length_eq_zero hn
          have eu : us = ts := by rw [hls] at ORr; exact (unhide ORr).done
          have hv0 : Hid (vacN ts = 0) := by unfold Hid; rw [← eu, (unhide ORr).vc, hn]
          rw [eu] at SLr
          rw [hn]
          clear hls eu ORr HV LV HJ hn
          go_wp2_with fail
          refine (value_all B C k s ts w7 (unhide SLr) (by omega) (unhide hv0)).mono ?_
          rw [(unhide HQ).1, (unhide HQ).2.1, (unhide HQ).2.2]
          rintro e w8 ⟨ds2, ⟨b1, e1, b2, e2, rfl, i1, f1, -, -⟩, hc, k8⟩
          have ka := Kp.alloc w8 (.cells #[.slice b1 S.length e1, .slice b2 ds2.length e2] 28)
          have kk8 := k8.trans ka
          have I8 := hide (i1.keep ka)
          have F8 := hide (f1.keep ka)
          have Y8 := hide (Bx.made w8 (.slice b1 S.length e1) (.slice b2 ds2.length e2))
          have SL8 := hide ((unhide SLr).keep kk8)
          have K48 := hide ((unhide KR).trans kk8)
          have HSM : Hid (sameT S ds2 S ds = true) := sameT_cn8 (hc.trans (unhide HC).symm)
          clear hc i1 f1 k8 ka kk8 SLr KR
          go_upto_region 27 with fail
          generalize w8.alloc (.cells #[.slice b1 S.length e1, .slice b2 ds2.length e2] 28) = w9 at *
          generalize w8.heap.size = Z at *
          go_wp2_with fail
          refine (left_any B C k s ts w9 (unhide SL8)).mono ?_
          rw [unhide hv0]
          rintro e w10 ⟨rfl, k10⟩
          have K410 := hide ((unhide K48).trans k10)
          obtain ⟨y0, y1, -, -, -⟩ := ((unhide Y8).keep k10).o
          obtain ⟨x0, x1, -, -, -⟩ := ((unhide X3).keep (unhide K410)).o
          have I10 := hide ((unhide I8).keep k10)
          have F10 := hide ((unhide F8).keep k10)
          clear k10
          go_wp2_with fail
          refine (rsameT_any _ _ _ _ S ds2 S ds w10 (unhide I10) (unhide F10) ((unhide I3).keep (unhide K410)) ((unhide F3).keep (unhide K410))).mono ?_
          rw [unhide HSM]
          rintro e w11 ⟨rfl, k11⟩
          have KF := hide ((unhide K3).trans ((unhide K410).trans k11))
          clear x0 x1 y0 y1 k11
          go_wp2
          go_ret
          exact ⟨rfl, unhide KF⟩
        · have hnp : 0 < ls.length := by omega
          have hnI : decide ((0 : Int) < (ls.length : Int)) = true := decide_eq_true (by omega)
          have hnI' : (0 : Int) < (ls.length : Int) := by omega
          have hjk : j < k ∧ ls.length ≤ k := by have := unhide HJ; omega
          obtain ⟨hjk1, hjk2⟩ := hjk
          generalize hnn : ls.length = n at *
          have HNN := hide hnn
          clear hnn hn
          go_upto_if 73 with fail
          go_cut [12] (fun kv wx => ∃ kk : Nat, kk < n ∧ kv = .int .i64 kk ∧ wx = w7)
          case first =>
            by_cases hjo : j < len1
            · obtain ⟨b1, off1, rfl, hoc, hwf⟩ := (unhide HO).cellAt ((unhide K3).trans (unhide KR)) hjo
              have hz := bounds_u8 hwf
              generalize z1.getD j 0 = z at *
              obtain ⟨zn, rfl⟩ : ∃ zn : Nat, z = (zn : Int) := ⟨z.toNat, by omega⟩
              have hjo' : (j : Int) < (len1 : Int) := by omega
              have hjo2 : decide ((j : Int) < (len1 : Int)) = true := decide_eq_true hjo'
              have hm1 : (zn : Int).tmod (n : Int) = ((zn % n : Nat) : Int) := by rw [Int.tmod_eq_emod_of_nonneg (by omega)]; simp
              have hm2 : zn % n < n := Nat.mod_lt _ hnp
              have hn0 : ¬ (n : Int) = 0 := by omega
              have hn0' : ¬ n = 0 := by omega
              clear hwf
              go_wp2
              go_meet
              exact ⟨zn % n, hm2, by first | rfl | go_num | (simp [hm1]), rfl⟩
            · have hjo2 : decide ((j : Int) < (len1 : Int)) = false := decide_eq_false (by omega)
              have hjo' : ¬ (j : Int) < (len1 : Int) := by omega
              go_wp2
              go_meet
              exact ⟨0, hnp, rfl, rfl⟩
          case rest =>
            obtain ⟨kk, hkk, rfl, hw7⟩ := hcut
            subst hw7
            have hkl : kk < ls.length := by rw [unhide HNN]; exact hkk
            have hkkI : (kk : Int) < (n : Int) := by omega
            have hkkc : (kk : Int) ≤ (cl2 : Int) := by omega
            have hkkc' : ¬ (cl2 : Int) < (kk : Int) := by omega
            have hkk1 : (kk : Int) + 1 ≤ (n : Int) := by omega
            have hnc : (n : Int) ≤ (cl2 : Int) := by omega
            have hwr : IntKind.i64.wrap ((kk : Int) + 1) = (kk : Int) + 1 := by rw [IntKind.wrap_i64]; omega
            have hk10 : 0 ≤ (kk : Int) + 1 := by omega
            have htn : ((kk : Int) + 1).toNat = kk + 1 := by omega
            have hkk0 : ¬ (kk : Int) < 0 := by omega
            obtain ⟨hx, hvac⟩ := (unhide ORr).next hkl
            have ORS := hide ((unhide ORr).step hkl)
            have HFU := hide ((unhide ORr).filled hkl)
            have HVN : Hid (vacN us = n) := (unhide ORr).vc.trans (unhide HNN)
            obtain ⟨bl, ol, rfl, hbl, hlc⟩ := unhide HV hnp
            have hlk := hlc kk hkk
            rw [asI_getD hkl] at hlk
            clear hlc
            generalize ls[kk] = x at *
            have hxI : (x : Int) < (k : Int) := by omega
            have hx0 : ¬ (x : Int) < 0 := by omega
            have hof : Hid (ofB s (ts.getD x tnil) = true) := unhide HA x (by rw [unhide HTS]; exact hx)
            generalize htx : ts.getD x tnil = t at *
            have HTX := hide htx
            clear htx hkl
            go_wp2_with fail
            refine (value_left B C k s us wc (unhide SLr) (by rw [unhide HVN]; exact hnp)).mono ?_
            rintro e w8 ⟨rfl, k8⟩
            have ka8 := Kp.alloc w8 (.cells #[.slice none 0 0, .slice none 0 0] 28)
            have KC9 := hide (k8.trans ka8)
            clear k8 ka8
            go_upto_region 23 with fail
            generalize w8.alloc (.cells #[.slice none 0 0, .slice none 0 0] 28) = w9 at *
            generalize w8.heap.size = Y8 at *
            have SL9 := hide ((unhide SLr).keep (unhide KC9))
            have K49 := hide ((unhide KR).trans (unhide KC9))
            have LV9 := hide ((unhide LV).keep (unhide KC9))
            have hl9 := (Below.cell (unhide KC9) (p := ⟨bl, ol + kk, none⟩) hbl).trans hlk
            have hbl9 : bl < w9.heap.size := Nat.lt_of_lt_of_le hbl (unhide KC9).size
            obtain ⟨b0, o0, e0, hb9, hT⟩ := (unhide HT3).one (unhide K49) (i := x) (by rw [unhide HTS]; exact hx)
            cases e0
            rw [unhide HTX] at hT
            obtain ⟨p5, cp5, p5', cp5', h50, h51, hi5, hf5⟩ := hT
            have HI5 := hide hi5
            have HF5 := hide hf5
            have ALL := hide (unhide SL9).all
            have hbC : ¬ b = C := by have := unhide HCW; omega
            have hlC : ¬ bl = C := by
              rintro rfl
              obtain ⟨_, _, _, e⟩ := (unhide ALL).cell hl9
              cases e
            have KEEP : Hid (∀ w', Kx C w9 w' → w'.cell? ⟨bl, ol + kk, none⟩ = some (.int .i64 (x : Int)) ∧ w'.cell? ⟨b, off + x * 2, none⟩ = some (.slice p5 t.s.length cp5) ∧ w'.cell? ⟨b, off + x * 2 + 1, none⟩ = some (.slice p5' t.d.length cp5')) := fun w' kx =>
              ⟨(kx.cell (p := ⟨bl, ol + kk, none⟩) hbl9 hlC).trans hl9, (kx.cell (p := ⟨b, off + x * 2, none⟩) hb9 hbC).trans h50, (kx.cell (p := ⟨b, off + x * 2 + 1, none⟩) hb9 hbC).trans h51⟩
            have CL := hide (fun w0 (k0 : Kp w9 w0) => (left_any B C k s us w0 ((unhide SL9).keep k0)).mono (R' := fun e w' => e = .returned (.int .i64 (n : Int)) ∧ Hid (Kp w9 w') ∧ w'.cell? ⟨bl, ol + kk, none⟩ = some (.int .i64 (x : Int)) ∧ w'.cell? ⟨b, off + x * 2, none⟩ = some (.slice p5 t.s.length cp5) ∧ w'.cell? ⟨b, off + x * 2 + 1, none⟩ = some (.slice p5' t.d.length cp5')) (by
              rintro e w' ⟨rfl, k'⟩
              exact ⟨by rw [unhide HVN], k0.trans k', unhide KEEP _ ((Kx.refl C w9).kp (k0.trans k'))⟩))
            have CP1 := hide (fun w0 (k0 : Kp w9 w0) => (put_yes B C k s us x t (.slice p5 t.s.length cp5) (.slice p5' t.d.length cp5') w0 ((unhide SL9).keep k0) ((unhide HI5).keep k0) ((unhide HF5).keep k0) hx hvac (unhide hof)).mono (R' := fun e w' => e = .returned (.int .i64 0) ∧ Hid (Slots w' B C k s (us.set x t)) ∧ Hid (Kx C w9 w') ∧ w'.cell? ⟨bl, ol + kk, none⟩ = some (.int .i64 (x : Int)) ∧ w'.cell? ⟨b, off + x * 2, none⟩ = some (.slice p5 t.s.length cp5) ∧ w'.cell? ⟨b, off + x * 2 + 1, none⟩ = some (.slice p5' t.d.length cp5')) (by
              rintro e w' ⟨rfl, s', k'⟩
              exact ⟨rfl, s', Kp.kx k0 k', unhide KEEP _ (Kp.kx k0 k')⟩))
            have CP2 := hide (fun w0 (hs0 : Slots w0 B C k s (us.set x t)) (kx : Kx C w9 w0) => (put_full B C k s (us.set x t) x t (.slice p5 t.s.length cp5) (.slice p5' t.d.length cp5') w0 hs0 ((unhide HI5).keepS (unhide ALL) kx) ((unhide HF5).keepS (unhide ALL) kx) hx (unhide HFU)).mono (R' := fun e w' => e = .returned (.int .i64 1) ∧ Hid (Slots w' B C k s (us.set x t)) ∧ Hid (Kx C w9 w') ∧ w'.cell? ⟨bl, ol + kk, none⟩ = some (.int .i64 (x : Int)) ∧ w'.cell? ⟨b, off + x * 2, none⟩ = some (.slice p5 t.s.length cp5) ∧ w'.cell? ⟨b, off + x * 2 + 1, none⟩ = some (.slice p5' t.d.length cp5')) (by
              rintro e w' ⟨rfl, k'⟩
              exact ⟨rfl, hs0.keep k', kx.kp k', unhide KEEP _ (kx.kp k')⟩))
            clear hi5 hf5
            generalize hl1 : t.s.length = l1 at *
            generalize hl2 : t.d.length = l2 at *
            clear hl1 hl2 hlk
            go_wp2_with fail
            go_region_held3 (fun w' => w'.cell? ⟨bl, ol + kk, none⟩ = some (.int .i64 (x : Int)) ∧ w'.cell? ⟨b, off + x * 2, none⟩ = some (.slice p5 l1 cp5) ∧ w'.cell? ⟨b, off + x * 2 + 1, none⟩ = some (.slice p5' l2 cp5')) (go_keep)
              (first
                | (go_at_call 15; refine ((unhide CL) _ ?_).mono ?_; (first | (exact unhide (by assumption)) | exact Kp.drew w9); rintro e w10 ⟨rfl, K10, e1, e2, e3⟩)
                | (go_at_call 16; refine ((unhide CP1) _ (unhide K10)).mono ?_; rintro e w11 ⟨rfl, S11, K11, e1, e2, e3⟩)
                | (go_at_call 16; refine ((unhide CP2) _ (unhide S11) (unhide K11)).mono ?_; rintro e w12 ⟨rfl, S12, K12, e1, e2, e3⟩))
            all_goals (
              have K4C : Hid (Kp w4 w12) := Kx.after (unhide K49) (unhide K12) (unhide HCW)
              have LV12 := hide ((unhide LV9).keepS (unhide ALL) (unhide K12))
              have HDR : Hid (∀ w', Kp w12 w' → Ints w' (.slice (if cl2 = kk + 1 then some ⟨bl, ol, none⟩ else some ⟨bl, ol + (kk + 1), none⟩) (n - (kk + 1)) (cl2 - (kk + 1))) ((asI ls).drop (kk + 1))) := by
                intro w' k'
                by_cases hce : cl2 = kk + 1
                · have hnk : n = kk + 1 := by omega
                  rw [if_pos hce]
                  have e1 : (asI ls).drop (kk + 1) = [] := List.drop_of_length_le (by rw [asI_length, unhide HNN]; omega)
                  have e2 : n - (kk + 1) = 0 := by omega
                  rw [e1, e2]
                  exact ((unhide LV12).take8 (m := 0) (by omega) (cl2 - (kk + 1))).keep k'
                · rw [if_neg hce]
                  exact ((unhide LV12).drop8 (by omega) _).keep k'
              clear e1 e2 e3 hl9 h50 h51
              go_upto_region 25 with fail
              refine wp_region_any (by kernel_rfl) ?_
              try (change wpAny _ _ _ _ _ _ _ (World.drew _))
              refine wpAny_take (i := 1) (v := ?_) rfl (by kernel_rfl) (by kernel_rfl) (by kernel_rfl) (fun _ _ _ h => h) (Or.inl ⟨by kernel_rfl, ?_⟩) ?_
              rotate_left
              focus (intro w; go_simp; try with_reducible rfl)
              simp only [List.getElem_toArray, List.getElem_cons_succ, List.getElem_cons_zero, Act.put, List.setIfInBounds_toArray, List.set_cons_zero, List.set_cons_succ]
              refine wpAny_take (i := 2) (v := ?_) rfl (by kernel_rfl) (by kernel_rfl) (by kernel_rfl) (fun _ _ _ h => h) (Or.inl ⟨by kernel_rfl, ?_⟩) ?_
              rotate_left
              focus (intro w; go_simp; try with_reducible rfl)
              simp only [List.getElem_toArray, List.getElem_cons_succ, List.getElem_cons_zero, Act.put, List.setIfInBounds_toArray, List.set_cons_zero, List.set_cons_succ]
              refine wpAny_take (i := 5) (v := ?_) rfl (by kernel_rfl) (by kernel_rfl) (by kernel_rfl) (fun _ _ _ h => h) (Or.inl ⟨by kernel_rfl, ?_⟩) ?_
              rotate_left
              focus (intro w; go_simp; try with_reducible rfl)
              simp only [List.getElem_toArray, List.getElem_cons_succ, List.getElem_cons_zero, Act.put, List.setIfInBounds_toArray, List.set_cons_zero, List.set_cons_succ]
              refine wpAny_take (i := 6) (v := ?_) rfl (by kernel_rfl) (by kernel_rfl) (by kernel_rfl) (fun _ _ _ h => h) (Or.inl ⟨by kernel_rfl, ?_⟩) ?_
              rotate_left
              focus (intro w; go_simp; try with_reducible rfl)
              simp only [List.getElem_toArray, List.getElem_cons_succ, List.getElem_cons_zero, Act.put, List.setIfInBounds_toArray, List.set_cons_zero, List.set_cons_succ]
              refine wpAny_take (i := 7) (v := ?_) rfl (by kernel_rfl) (by kernel_rfl) (by kernel_rfl) (fun _ _ _ h => h) (Or.inl ⟨by kernel_rfl, ?_⟩) ?_
              rotate_left
              focus (intro w; go_simp; try with_reducible rfl)
              simp only [List.getElem_toArray, List.getElem_cons_succ, List.getElem_cons_zero, Act.put, List.setIfInBounds_toArray, List.set_cons_zero, List.set_cons_succ]
              refine wpAny_take (i := 3) (v := ?_) rfl (by kernel_rfl) (by kernel_rfl) (by kernel_rfl) (fun _ _ _ h => h) (Or.inl ⟨by kernel_rfl, ?_⟩) ?_
              rotate_left
              focus (intro w; go_simp; try with_reducible rfl)
              simp only [List.getElem_toArray, List.getElem_cons_succ, List.getElem_cons_zero, Act.put, List.setIfInBounds_toArray, List.set_cons_zero, List.set_cons_succ]
              refine wpAny_take (i := 8) (v := ?_) rfl (by kernel_rfl) (by kernel_rfl) (by kernel_rfl) (fun _ _ _ h => h) (Or.inl ⟨by kernel_rfl, ?_⟩) ?_
              rotate_left
              focus (intro w; go_simp; try with_reducible rfl)
              simp only [List.getElem_toArray, List.getElem_cons_succ, List.getElem_cons_zero, Act.put, List.setIfInBounds_toArray, List.set_cons_zero, List.set_cons_succ]
              refine wpAny_ready (rs := [0]) (by kernel_rfl) (by simp) ?_
              refine AllReady.cons rfl (fun K hK => ?_) AllReady.nil
              go_simp
              refine hK _ _ ?_
              clear hK K
              refine wpAny_ready (rs := [4]) (by kernel_rfl) (by simp) ?_
              refine AllReady.cons rfl (fun K hK => ?_) AllReady.nil
              refine step_append_own8 rfl (.tmp 128) (.tmp 131) 25 rfl 3 (unhide INFO) Try.underlying25 w12.heap.size (.slice (some ⟨w12.heap.size, 0, none⟩) 0 0) (.slice (some ⟨bl, ol, none⟩) kk cl2) [] ((asI ls).take kk) rfl rfl (Own.lit w12.drew 3 [] #[] w12.heap.size 0 w12.heap.size rfl rfl rfl (Nat.le_refl _) (by decide)) ((unhide LV12).take8 (by omega) cl2 |>.keep ((Kp.drew w12).trans (Kp.alloc _ _))) (by rw [List.length_take, asI_length, unhide HNN]; simp; omega) ((Kp.drew w12).trans (Kp.alloc _ _)).size ?_
              intro b2 n2 c2' w13 o2 g2
              have q2 : Kp w12 w13 := Kp.of_grown ((Kp.drew w12).trans (Kp.alloc _ _)) g2 (by intro k hk; cases hk; exact Nat.le_refl _)
              rw [List.nil_append] at o2
              refine hK _ _ ?_
              clear hK K
              refine wpAny_ready (rs := [9]) (by kernel_rfl) (by simp) ?_
              refine AllReady.cons rfl (fun K hK => ?_) AllReady.nil
              refine step_append_own8 rfl (.tmp 132) (.tmp 136) 25 rfl 3 (unhide INFO) Try.underlying25 w12.heap.size (.slice b2 n2 c2') (.slice (if cl2 = kk + 1 then some ⟨bl, ol, none⟩ else some ⟨bl, ol + (kk + 1), none⟩) (n - (kk + 1)) (cl2 - (kk + 1))) ((asI ls).take kk) ((asI ls).drop (kk + 1)) rfl rfl o2 (unhide HDR _ q2) (by rw [List.length_take, List.length_drop, asI_length, unhide HNN]; omega) q2.size ?_
              intro b3 n3 c3' w14 o3 g3
              have q3 : Kp w12 w14 := Kp.of_grown q2 g3 (fun k hk => o2.block k hk)
              refine hK _ _ ?_
              clear hK K
              refine wpAny_ready (rs := [10]) (by kernel_rfl) (by simp) ?_
              refine AllReady.cons rfl (fun K hK => ?_) AllReady.nil
              go_simp
              refine hK _ _ ?_
              clear hK K
              refine wpAny_done (by kernel_rfl) ?_ _
              have O3 : Hid (Own w14 3 w12.heap.size (.slice b3 n3 c3') (asI (ls.take kk ++ ls.drop (kk + 1)))) := by
                unfold Hid asI
                rw [List.map_append, List.map_take, List.map_drop]
                exact o3
              have Q3 := hide q3
              clear o2 o3 g2 g3 q2 q3
              go_wp2
              go_roundw
              case rel => exact ⟨ls.take kk ++ ls.drop (kk + 1), us.set x t, j + 1, by go_num, by unfold Hid; have := unhide HJ; rw [List.length_append, List.length_take, List.length_drop, unhide HNN]; omega, (unhide O3).ints (asI_wf (fun y hy => by have := (unhide ORS).lt y hy; omega)) (by rw [asI_length, List.length_append, List.length_take, List.length_drop, unhide HNN]; omega), (unhide O3).lens8, (unhide S12).keep (unhide Q3), unhide ORS, (unhide K4C).trans (unhide Q3)⟩
              case measure => simp [intOf]; omega)

end Go.Proofs.Ytnmpbjjppdkomaa
