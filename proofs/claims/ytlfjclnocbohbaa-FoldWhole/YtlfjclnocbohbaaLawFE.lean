
/- The law FoldWhole, walked. -/
import Derived.Test.YtlfjclnocbohbaaFldN
import Derived.Test.YtlfjclnocbohbaaOpnQ
import Derived.Deep.DeepCutAuto
namespace Go.Proofs.Ytlfjclnocbohbaa
open Go.RowKit

theorem sameT_cn9 {s : List Int} {d d' : List Nat} (h : d.map cn = d'.map cn) : sameT s d s d' = true := by
  have e : sameB s s = true := by simp [sameB]
  rw [sameT_yes e]
  have hl : d.length = d'.length := by have := congrArg List.length h; simpa using this
  refine allB_yes hl fun j hj => ?_
  rw [sameF_iff]
  have := congrArg (fun l => l[j]?) h
  simpa [List.getElem?_map, hj, show j < d'.length by omega] using this
/-- a literal slice of one tensor -/
theorem tens_lit (w : World) (p p' : Option Addr) (n c n' c' : Nat) (s : List Int) (d : List Nat) (hs : Ints (w.alloc (.cells #[.slice p n c, .slice p' n' c'] 31)) (.slice p n c) s) (hd : Flts (w.alloc (.cells #[.slice p n c, .slice p' n' c'] 31)) (.slice p' n' c') d) :
    Tens (w.alloc (.cells #[.slice p n c, .slice p' n' c'] 31)) (.slice (some ⟨w.heap.size, 0, none⟩) 1 1) [⟨s, d⟩] := by
  have e1 : n = s.length := by obtain ⟨a, cap, e, _⟩ := hs.val; cases e; rfl
  have e2 : n' = d.length := by obtain ⟨a, cap, e, _⟩ := hd.val; cases e; rfl
  subst e1 e2
  have hb := Bx.made w (.slice p s.length c) (.slice p' d.length c')
  refine ⟨by simp, some ⟨w.heap.size, 0, none⟩, 1, rfl, fun _ => ⟨w.heap.size, 0, rfl, hb.lt, fun i hi => ?_⟩⟩
  obtain rfl : i = 0 := by simpa using hi
  exact ⟨p, c, p', c', hb.c0, hb.c1, hs, hd⟩

set_option maxHeartbeats 8000000 in
theorem whole8_walk (a : Option Addr) (len cap : Nat) (z : Nat → Nat → Int) (x0 x1 x2 x3 : Nat) (w : World) (h : InQuad w a len z) (hx0 : W64 x0) (hx1 : W64 x1) (hx2 : W64 x2) (hx3 : W64 x3) :
    Calls Try.prog 3 #[.slice a len cap, .agg #[.float .f64 x0, .float .f64 x1, .float .f64 x2, .float .f64 x3]] w fun e w' => e = .returned (.bool true) ∧ Kp w w' := by
  have H := hide h
  have hmax := h.1
  have HX := hide (And.intro hx0 (And.intro hx1 (And.intro hx2 hx3)))
  clear h hx0 hx1 hx2 hx3
  go_enter Try.func3, Try.ntmps3
  go_wp2_with fail
  have BX : Hid (BlkF (w.alloc (.cells #[.float .f64 x0, .float .f64 x1, .float .f64 x2, .float .f64 x3] 24)) 24 w.heap.size [x0, x1, x2, x3]) := by
    unfold Hid BlkF
    simp only [World.alloc, Array.getElem?_push_size]
    rfl
  have K0 := hide (Kp.alloc w (.cells #[.float .f64 x0, .float .f64 x1, .float .f64 x2, .float .f64 x3] 24))
  generalize w.alloc (.cells #[.float .f64 x0, .float .f64 x1, .float .f64 x2, .float .f64 x3] 24) = w0 at *
  generalize w.heap.size = X at BX ⊢
  refine (awake8_any w0).mono ?_
  rintro e w1 ⟨rfl, k1⟩
  have K1 := hide ((unhide K0).trans k1)
  have BX1 := hide ((unhide BX).keep k1)
  clear k1 K0 BX
  by_cases g0 : 200 < len
  · have g0' : decide ((200 : Int) < (len : Int)) = true := decide_eq_true (by omega)
    have g0'' : (200 : Int) < (len : Int) := by omega
    go_wp2
    go_ret
    exact ⟨rfl, unhide K1⟩
  have g0' : ¬ (200 : Int) < (len : Int) := by omega
  have g1 : len ≤ 200 := by omega
  clear hmax g0
  go_upto_region 7 with fail
  have BS : Hid (Blk (w1.alloc (.cells #[.int .i64 0, .int .i64 0, .int .i64 0, .int .i64 0] 27)) 27 w1.heap.size (qsums z 0 0)) := by
    unfold Hid Blk
    simp only [World.alloc, Array.getElem?_push_size]
    rfl
  have K2 := hide (Kp.alloc w1 (.cells #[.int .i64 0, .int .i64 0, .int .i64 0, .int .i64 0] 27))
  have hS : w1.heap.size < (w1.alloc (.cells #[.int .i64 0, .int .i64 0, .int .i64 0, .int .i64 0] 27)).heap.size := by simp
  have HS := hide hS
  clear hS
  generalize w1.alloc (.cells #[.int .i64 0, .int .i64 0, .int .i64 0, .int .i64 0] 27) = w2 at *
  generalize hSS : w1.heap.size = S at BS HS ⊢
  have HSS := hide hSS
  clear hSS
  go_wp2
  go_loopw [5, 7] (fun l i wr => ∃ (j : Nat) (v : Value) (cs : List Value), j ≤ len ∧ l = v ∧ i = .int .i64 j ∧ Hid (OwnT wr w2.heap.size v j cs) ∧ Hid (Reads wr cs (qts z j)) ∧ Hid (∀ u ∈ cs, Tagd wr u) ∧ Hid (Blk wr 27 S (qsums z j 0)) ∧ Hid (Kx S w2 wr)) (fun _ i _ => len - (intOf i).toNat)
  case atStart => exact ⟨0, _, [], Nat.zero_le _, rfl, rfl, OwnT.nil _ _, Reads.nil _, by simp [Hid], unhide BS, Kx.refl _ _⟩
  case round =>
    obtain ⟨j, v, cs, hj, rfl, rfl, OT, RD, FR, SB, KR⟩ := hrel
    by_cases hlt : j < len
    · have hltI : (j : Int) < (len : Int) := by omega
      obtain ⟨qb, qo, rfl, hq⟩ := (unhide H).at (Kp.refl w) (by omega)
      have HQ : Hid (∀ w', Kp w w' → ∀ k, k < 4 → w'.cell? ⟨qb, qo + j * 4 + k, none⟩ = some (.int .i16 (z j k)) ∧ -32768 ≤ z j k ∧ z j k ≤ 32767) := by
        intro w' kk k hk
        obtain ⟨b', o', e', hc'⟩ := (unhide H).at kk (by omega)
        cases e'
        exact hc' j hlt k hk
      clear hq
      go_upto_region 11 with fail
      have hT0 : wr.heap.size + 1 = (wr.alloc (.cells #[.int .i64 2, .int .i64 2] 3)).heap.size := by simp
      rw [hT0]
      clear hT0
      have LI := hide (lit_ints wr 3 [2, 2] #[.int .i64 2, .int .i64 2] wr.heap.size 2 rfl rfl rfl (by unfold I64; decide) (by decide))
      have KL := hide (Kp.alloc wr (.cells #[.int .i64 2, .int .i64 2] 3))
      have FL : Hid (Tagd (wr.alloc (.cells #[.int .i64 2, .int .i64 2] 3)) (.slice (some ⟨wr.heap.size, 0, none⟩) 2 2)) := Tagd.lit wr _ _ _ _ rfl _ (.inl rfl)
      generalize wr.alloc (.cells #[.int .i64 2, .int .i64 2] 3) = wL at *
      generalize wr.heap.size = L at LI FL ⊢
      have KSL := hide ((unhide SB).keep (unhide KL))
      have KRL := hide ((unhide KR).kp (unhide KL))
      have XT := hide (Bx.made wL (.slice (some ⟨L, 0, none⟩) 2 2) (.slice none 0 0))
      have KT := hide (Kp.alloc wL (.cells #[.slice (some ⟨L, 0, none⟩) 2 2, .slice none 0 0] 31))
      have SBT := hide (((unhide SB).keep (unhide KL)).keep (unhide KT))
      have HSL : Hid (S < wL.heap.size) := Nat.lt_of_lt_of_le (unhide HS) (unhide KRL).size
      have KW : Hid (Kp w wL) := Kx.after ((unhide K1).trans (unhide K2)) (unhide KRL) (by have := (unhide K1).size; have := unhide HSS; omega)
      have HWS : Hid (w.heap.size ≤ S) := by have := (unhide K1).size; have := unhide HSS; unfold Hid; omega
      generalize wL.alloc (.cells #[.slice (some ⟨L, 0, none⟩) 2 2, .slice none 0 0] 31) = wT at *
      generalize hT : wL.heap.size = T at XT ⊢
      have HT : Hid (wL.heap.size ≤ T) := Nat.le_of_eq hT
      clear hT
      go_wp2
      go_loopw [9] (fun i wi => ∃ (m : Nat) (v : Value), m ≤ 4 ∧ i = .int .i64 m ∧ Hid (Bx wi T (.slice (some ⟨L, 0, none⟩) 2 2) v) ∧ Hid (OwnF wi 23 wL.heap.size v (qrow z j m)) ∧ Hid (Blk wi 27 S (qsums z j m)) ∧ Hid (Kx S wL wi)) (fun i _ => 4 - (intOf i).toNat)
      case atStart => exact ⟨0, _, Nat.zero_le _, rfl, unhide XT, OwnF.nil _ _ _, unhide SBT, (Kx.refl S wL).kp (unhide KT)⟩
      case round =>
        obtain ⟨m, v, hm, rfl, XI, OI, SI, KI⟩ := hrel
        generalize wr = w3 at *
        obtain ⟨av, nv, cv, rfl⟩ := (unhide OI).sl
        have KW3 : Hid (Kp w w3) := Kx.after (unhide KW) (unhide KI) (unhide HWS)
        by_cases hm4 : m < 4
        · have hm4I : (m : Int) < 4 := by omega
          obtain ⟨hck, hz1, hz2⟩ := unhide HQ w3 (unhide KW3) m hm4
          obtain ⟨p0, p1, p2, p3, p4⟩ := (unhide XI).o
          have ET := hide (qrow_snoc z j m)
          have LN : Hid ((qrow z j m).length + 1 ≤ 1000000) := by unfold Hid; rw [qrow_length]; omega
          have HCJ : Hid (∀ w', Kp w w' → w'.cell? ⟨qb, qo + j * 4 + m, none⟩ = some (.int .i16 (z j m))) := fun w' kk => (unhide HQ w' kk m hm4).1
          have ESU := hide (qsums_set z j m)
          have hsb := qsum_bound (z := z) (k := m) (j := j) (fun i hi => by
            obtain ⟨b', o', e', hc'⟩ := (unhide H).at (Kp.refl w) (by omega)
            exact (hc' i (by omega) m hm4).2) (by omega)
          have ESG := hide (qsums_getD (z := z) (j := j) (m := m) (q := m) hm4 (Nat.le_refl _))
          generalize z j m = zz at *
          generalize qsum z m j = ss at *
          have qa := (Kp.alloc w3 (.cells #[.float .f64 (floatOfInt .f64 zz)] 23)).trans (Kp.drew _)
          have OW := hide ((unhide OI).keep qa)
          have XA := hide ((unhide XI).keep qa)
          have SA := hide ((unhide SI).keep qa)
          have AP : Hid (Flts (w3.alloc (.cells #[.float .f64 (floatOfInt .f64 zz)] 23)).drew (.slice (some ⟨w3.heap.size, 0, none⟩) 1 1) [ofI zz]) := (lit_flts w3 23 [ofI zz] #[.float .f64 (ofI zz)] w3.heap.size 1 rfl rfl rfl (by intro y hy; cases List.mem_singleton.1 hy; exact ofI_w8 zz) (by decide)).keep (Kp.drew _)
          have BSZ : Hid (wL.heap.size ≤ (w3.alloc (.cells #[.float .f64 (floatOfInt .f64 zz)] 23)).drew.heap.size) := ((unhide KI).kp qa).size
          have QA := hide ((unhide KI).kp qa)
          clear qa
          go_upto_region 14 with fail
          go_region_law (refine step_append_box8 rfl (.tmp 34) (.tmp 42) rfl wL.heap.size (.slice av nv cv) (qrow z j m) ⟨w3.heap.size, 0, none⟩ (ofI zz) (by simp [Act.eval]) (by simp [Act.eval]) (unhide OW) (unhide AP) (unhide LN) (unhide BSZ) T _ (unhide XA) ?_; intro b2 n2 c2 w8 F8 g0 g1)
          all_goals (
            have FF := hide (box_after8 (unhide QA) (Nat.le_refl _) (unhide HT) (unhide OW) (unhide SA) (unhide HSL) (unhide F8))
            clear g0 g1 hck p0 p1 p2 p3 p4 OW XA SA AP BSZ QA F8
            generalize w8.setCell ⟨T, 1, none⟩ (.slice b2 n2 c2) = w9 at *)
          all_goals (
            have hck := unhide HCJ w9 (Kx.after (unhide KW) (unhide FF).2.2.2 (unhide HWS))
            have hcs := (unhide FF).2.2.1.cell (i := m) (by rw [qsums_length]; exact hm4)
            rw [unhide ESG] at hcs
            have hcf := (unhide FF).2.2.1.frozen m
            go_upto_region 15 with fail
            go_region)
          all_goals (
            have GG : Hid (Bx (w9.setCell ⟨S, m, none⟩ (.int .i64 (ss + zz))).drew T (.slice (some ⟨L, 0, none⟩) 2 2) (.slice b2 n2 c2) ∧ OwnF (w9.setCell ⟨S, m, none⟩ (.int .i64 (ss + zz))).drew 23 wL.heap.size (.slice b2 n2 c2) (qrow z j (m + 1)) ∧ Blk (w9.setCell ⟨S, m, none⟩ (.int .i64 (ss + zz))).drew 27 S (qsums z j (m + 1)) ∧ Kx S wL (w9.setCell ⟨S, m, none⟩ (.int .i64 (ss + zz))).drew) := by
              obtain ⟨f1, f2, f3, f4⟩ := unhide FF
              have kd := Kp.drew (w9.setCell ⟨S, m, none⟩ (.int .i64 (ss + zz)))
              refine ⟨(f1.other8 (by have := unhide HT; have := unhide HSL; omega) _).keep kd, ?_, ?_, (f4.set m _).kp kd⟩
              · rw [unhide ET]
                exact (f2.other8 (unhide HSL) _).keep kd
              · rw [← unhide ESU]
                exact (f3.set m (ss + zz)).keep kd
            clear FF hck hcs hcf
            generalize (w9.setCell ⟨S, m, none⟩ (.int .i64 (ss + zz))).drew = w10 at *
            go_wp2
            go_roundw
            case rel => exact ⟨m + 1, _, by omega, by go_num, (unhide GG).1, (unhide GG).2.1, (unhide GG).2.2.1, (unhide GG).2.2.2⟩
            case measure => simp [intOf]; omega)
        · obtain rfl : m = 4 := by omega
          have hm4I : ¬ ((4 : Nat) : Int) < 4 := by omega
          clear KT XT SBT
          have hm4J : ¬ ((4 : Int) < 4) := by omega
          obtain ⟨p0, p1, -, -, p4⟩ := (unhide XI).o
          have OI4 : Hid (Flts w3 (.slice av nv cv) (qrow z j 4)) := (unhide OI).flts (by
            intro x hx
            obtain ⟨k, _, rfl⟩ := List.mem_map.1 hx
            exact ofI_w8 _) (by rw [qrow_length]; omega)
          have kk := (unhide KI).keeps (unhide KSL)
          have LI3 := (unhide LI).keepT (unhide FL) kk
          have RD3 := ((unhide RD).keep (unhide KL)).keepT (fun u hu => (unhide FR u hu).keep (unhide KL).keeps) kk
          have FR3 : ∀ u ∈ cs ++ [.slice (some ⟨L, 0, none⟩) 2 2, .slice av nv cv], Tagd w3 u := by
            intro u hu
            rcases List.mem_append.1 hu with h | h
            · exact ((unhide FR u h).keep (unhide KL).keeps).keep kk
            · rcases List.mem_cons.1 h with rfl | h
              · exact (unhide FL).keep kk
              · rw [List.mem_singleton.1 h]
                exact (unhide OI).tagd
          have RD4 := hide (RD3.app (Reads.pair LI3 (unhide OI4)))
          rw [← qts_snoc] at RD4
          have FR4 := hide FR3
          have OT3 := hide ((((unhide OT).keep (unhide KL)).keepx8 (unhide KI) (unhide HS)).keep (Kp.alloc w3 (.cells #[.slice (some ⟨L, 0, none⟩) 2 2, .slice av nv cv] 31)))
          have PC := hide (pair_cells8 w3 (.slice (some ⟨L, 0, none⟩) 2 2) (.slice av nv cv) 31)
          have BA : Hid (w2.heap.size ≤ (w3.alloc (.cells #[.slice (some ⟨L, 0, none⟩) 2 2, .slice av nv cv] 31)).heap.size) := ((((unhide KRL).trans8 (unhide KI)).kp (Kp.alloc w3 (.cells #[.slice (some ⟨L, 0, none⟩) 2 2, .slice av nv cv] 31)))).size
          have ONE : Hid (∀ u ∈ [(.slice (some ⟨L, 0, none⟩) 2 2 : Value), .slice av nv cv], u.oneCell' = true) := by
            intro u hu
            rcases List.mem_cons.1 hu with rfl | hu
            · rfl
            · rw [List.mem_singleton.1 hu]
              rfl
          have HJ : Hid (j + 1 ≤ 1000000) := by unfold Hid; omega
          clear kk LI3 RD3 FR3
          go_wp2_with (at_builtin; go_must (refine wpList_append_tens _ rfl (.tmp 58) (.tmp 60) rfl w2.heap.size u5 j cs ⟨w3.heap.size, 0, none⟩ 1 1 [.slice (some ⟨L, 0, none⟩) 2 2, .slice av nv cv] rfl rfl (unhide OT3) rfl (unhide PC) (unhide ONE) (unhide HJ) (unhide BA) ?_); intro v2 w5 o2 g2)
          have ka := Kp.alloc w3 (.cells #[.slice (some ⟨L, 0, none⟩) 2 2, .slice av nv cv] 31)
          have hk := (unhide OT3).keeps g2
          go_roundw
          case rel => exact ⟨j + 1, _, _, by omega, rfl, by go_num, hide o2, ((unhide RD4).keep ka).keepT (fun u hu => (unhide FR4 u hu).keep ka.keeps) hk, fun u hu => ((unhide FR4 u hu).keep ka.keeps).keep hk, by rw [← qsums_next]; exact ((unhide SI).keep ka).grown8 g2 (fun q hq => Nat.lt_of_lt_of_le (unhide HS) ((unhide OT3).block q hq)), (((unhide KRL).trans8 (unhide KI)).kp ka).of_grown8 g2 (fun q hq => (unhide OT3).block q hq)⟩
          case measure => simp [intOf]; omega
    · have hjl : len = j := by omega
      subst hjl
      have hltI : ¬ (len : Int) < (len : Int) := by omega
      have TT := hide ((unhide OT).tens (unhide RD) (qts_length z len) (by omega))
      have KW : Hid (Kp w wr) := Kx.after ((unhide K1).trans (unhide K2)) (unhide KR) (by have := (unhide K1).size; have := unhide HSS; omega)
      have BX2 : Hid (BlkF wr 24 X [x0, x1, x2, x3]) := by
        have hl := (unhide BX1).lt
        have := unhide HSS
        have hh := (unhide BX1).keep (unhide K2)
        unfold Hid BlkF
        rw [(unhide KR).block X hh.lt (fun e => by cases e; omega)]
        exact hh
      clear OT RD FR KR BX1 K1 K2 BS
      have c0 := (unhide BX2).cell (i := 0) (by simp)
      have c1 := (unhide BX2).cell (i := 1) (by simp)
      have c2 := (unhide BX2).cell (i := 2) (by simp)
      have c3 := (unhide BX2).cell (i := 3) (by simp)
      simp only [List.getD_cons_zero, List.getD_cons_succ] at c0 c1 c2 c3
      have hXl := (unhide BX2).lt
      go_upto_region 18 with fail
      have hO : wr.heap.size + 1 + 1 = ((wr.alloc (.cells #[.int .i64 4] 3)).alloc (.cells #[.float .f64 x0, .float .f64 x1, .float .f64 x2, .float .f64 x3] 23)).heap.size := by simp
      rw [hO]
      have ka := Kp.alloc wr (.cells #[.int .i64 4] 3)
      have kb := Kp.alloc (wr.alloc (.cells #[.int .i64 4] 3)) (.cells #[.float .f64 x0, .float .f64 x1, .float .f64 x2, .float .f64 x3] 23)
      have IP := hide ((lit_ints wr 3 [4] #[.int .i64 4] wr.heap.size 1 rfl rfl rfl (by unfold I64; decide) (by decide)).keep kb)
      have FP := hide (lit_flts (wr.alloc (.cells #[.int .i64 4] 3)) 23 [x0, x1, x2, x3] #[.float .f64 x0, .float .f64 x1, .float .f64 x2, .float .f64 x3] (wr.heap.size + 1) 4 rfl (by simp) rfl (by
        have := unhide HX
        intro x hx
        simp only [List.mem_cons, List.not_mem_nil, or_false] at hx
        rcases hx with rfl | rfl | rfl | rfl
        · exact this.1
        · exact this.2.1
        · exact this.2.2.1
        · exact this.2.2.2) (by decide))
      have KB := hide (ka.trans kb)
      clear ka kb hO c0 c1 c2 c3 hXl
      generalize ((wr.alloc (.cells #[.int .i64 4] 3)).alloc (.cells #[.float .f64 x0, .float .f64 x1, .float .f64 x2, .float .f64 x3] 23)) = wB at *
      generalize wr.heap.size + 1 = D at *
      generalize wr.heap.size = P at IP ⊢
      have XO := hide (Bx.made wB (.slice (some ⟨P, 0, none⟩) 1 1) (.slice (some ⟨D, 0, none⟩) 4 4))
      have KC := hide (Kp.alloc wB (.cells #[.slice (some ⟨P, 0, none⟩) 1 1, .slice (some ⟨D, 0, none⟩) 4 4] 31))
      generalize wB.alloc (.cells #[.slice (some ⟨P, 0, none⟩) 1 1, .slice (some ⟨D, 0, none⟩) 4 4] 31) = wC at *
      generalize wB.heap.size = O at *
      have IC := hide ((unhide IP).keep (unhide KC))
      have FC := hide ((unhide FP).keep (unhide KC))
      have KWC := hide ((unhide KB).trans (unhide KC))
      obtain ⟨p0, p1, -, -, p4⟩ := (unhide XO).o
      have hxl : ([x0, x1, x2, x3] : List Nat).length = 4 := rfl
      have MT : Hid (mayT [4] [x0, x1, x2, x3] = true) := by unfold Hid; rw [mayT_yes (by decide +kernel), hxl]; decide +kernel
      generalize hxs : [x0, x1, x2, x3] = xs at *
      have HXS := hide hxs
      have HXL := hide hxl
      clear hxs hxl IP FP KB KC
      have kd := Kp.alloc wC (.cells #[.slice (some ⟨P, 0, none⟩) 1 1, .slice (some ⟨D, 0, none⟩) 4 4] 31)
      have TO : Hid (Tens (wC.alloc (.cells #[.slice (some ⟨P, 0, none⟩) 1 1, .slice (some ⟨D, 0, none⟩) 4 4] 31)) (.slice (some ⟨wC.heap.size, 0, none⟩) 1 1) [⟨[4], xs⟩]) := tens_lit wC _ _ _ _ _ _ [4] xs ((unhide IC).keep kd) ((unhide FC).keep kd)
      have KD := hide kd
      clear kd
      go_wp2_with fail
      generalize wC.alloc (.cells #[.slice (some ⟨P, 0, none⟩) 1 1, .slice (some ⟨D, 0, none⟩) 4 4] 31) = wD at *
      refine (tree_all _ _ wD (unhide TO)).mono ?_
      rw [(tree_one (unhide MT)).1, (tree_one (unhide MT)).2.1, (tree_one (unhide MT)).2.2]
      rintro e w4 ⟨ds, ⟨a1, c1, a2, c2, rfl, i1, f1, -, -⟩, hc, k4⟩
      have i1 : Ints w4 (.slice a1 1 c1) [4] := i1
      have ka := Kp.alloc w4 (.cells #[.slice a1 1 c1, .slice a2 ds.length c2] 31)
      have I4 := hide (i1.keep ka)
      have F4 := hide (f1.keep ka)
      have X4 := hide (Bx.made w4 (.slice a1 1 c1) (.slice a2 ds.length c2))
      have HSM : Hid (sameT [4] ds [4] xs = true) := sameT_cn9 hc
      have K4 := hide (((unhide KWC).trans ((unhide KD).trans k4)).trans ka)
      have IC4 := hide ((unhide IC).keep ((unhide KD).trans (k4.trans ka)))
      have FC4 := hide ((unhide FC).keep ((unhide KD).trans (k4.trans ka)))
      have XO4 := hide ((unhide XO).keep ((unhide KD).trans (k4.trans ka)))
      clear i1 f1 hc k4 ka IC FC XO KWC KD TO p0 p1 p4
      go_upto_region 19 with fail
      generalize w4.alloc (.cells #[.slice a1 1 c1, .slice a2 ds.length c2] 31) = w5 at *
      generalize w4.heap.size = U at *
      obtain ⟨q0, q1, -, -, q4⟩ := (unhide X4).o
      obtain ⟨p0, p1, -, -, p4⟩ := (unhide XO4).o
      by_cases h0 : len = 0
      · have h0' : ((len : Int) == 0) = true := by rw [h0]; rfl
        go_wp2_with fail
        refine (rsameT_any _ _ _ _ [4] ds [4] xs w5 (unhide I4) (unhide F4) (unhide IC4) (unhide FC4)).mono ?_
        rw [unhide HSM]
        rintro e w6 ⟨rfl, k6⟩
        have K6 := hide ((unhide KW).trans ((unhide K4).trans k6))
        clear k6 q0 q1 q4 p0 p1 p4
        go_wp2
        go_ret
        exact ⟨rfl, unhide K6⟩
      have h0' : ((len : Int) == 0) = false := beq_eq_false_iff_ne.2 (by omega)
      have hpos : 0 < len := by omega
      go_wp2_with fail
      refine (rsameT_any _ _ _ _ [4] ds [4] xs w5 (unhide I4) (unhide F4) (unhide IC4) (unhide FC4)).mono ?_
      rw [unhide HSM]
      rintro e w6 ⟨rfl, k6⟩
      have K6 := hide ((unhide K4).trans k6)
      have TT6 := hide ((unhide TT).keep (unhide K6))
      have QT := hide (qtree (z := z) hpos g1 (fun i hi k hk => by
        obtain ⟨b', o', e', hc'⟩ := (unhide H).at (Kp.refl w) hpos
        exact (hc' i hi k hk).2))
      clear k6 q0 q1 q4 p0 p1 p4 I4 F4 IC4 FC4 X4 XO4 TT K4
      go_wp2_with fail
      refine (tree_all _ _ w6 (unhide TT6)).mono ?_
      rw [(unhide QT).1, (unhide QT).2.1, (unhide QT).2.2]
      rintro e w7 ⟨ls, ⟨b1, e1, b2, e2, rfl, i1, f1, -, -⟩, hc, k7⟩
      obtain rfl := list_num8 hc (qnums _)
      have hll : ((qsums z len 0).map ofI).length = 4 := by rw [List.length_map, qsums_length]
      rw [hll] at f1 ⊢
      have ka := Kp.alloc w7 (.cells #[.slice b1 2 e1, .slice b2 4 e2] 31)
      have X7 := hide (Bx.made w7 (.slice b1 2 e1) (.slice b2 4 e2))
      have F7 := hide (f1.keep ka)
      have K7 := hide ((unhide KW).trans ((unhide K6).trans (k7.trans ka)))
      have SB7 := hide ((unhide SB).keep ((unhide K6).trans (k7.trans ka)))
      have HLL := hide hll
      clear hll i1 f1 hc k7 ka
      go_upto_region 22 with fail
      generalize w7.alloc (.cells #[.slice b1 2 e1, .slice b2 4 e2] 31) = w8 at *
      generalize w7.heap.size = V at *
      obtain ⟨fb, fo, rfl, hfb, hfc⟩ := flts_at' (unhide F7) (by rw [unhide HLL]; omega)
      have HFC : Hid (∀ w', Kp w8 w' → ∀ k, k < 4 → w'.cell? ⟨fb, fo + k, none⟩ = some (.float .f64 (ofI ((qsums z len 0).getD k 0)))) := by
        intro w' kp k hk
        have := hfc k (by rw [unhide HLL]; exact hk)
        rw [Below.cell kp (p := ⟨fb, fo + k, none⟩) hfb, this]
        have hkl : k < (qsums z len 0).length := by rw [qsums_length]; exact hk
        simp [hkl]
      have HSC : Hid (∀ w', Kp w8 w' → ∀ k, k < 4 → w'.cell? ⟨S, k, none⟩ = some (.int .i64 ((qsums z len 0).getD k 0))) := fun w' kp k hk => ((unhide SB7).keep kp).cell (by rw [qsums_length]; exact hk)
      obtain ⟨q0, q1, -, -, q4⟩ := (unhide X7).o
      clear hfc F7 SB7 hfb
      go_wp2
      go_loopw [15] (fun i wi => ∃ (k : Nat), k ≤ 4 ∧ i = .int .i64 k ∧ Hid (Kp w8 wi)) (fun i _ => 4 - (intOf i).toNat)
      case atStart => exact ⟨0, Nat.zero_le _, rfl, Kp.refl _⟩
      case round =>
        obtain ⟨k, hk, rfl, KK⟩ := hrel
        clear q0 q1 q4
        by_cases hk4 : k < 4
        · have hk4I : (k : Int) < 4 := by omega
          obtain ⟨q0, q1, -, -, q4⟩ := ((unhide X7).keep (unhide KK)).o
          have c1 := unhide HFC wr (unhide KK) k hk4
          have c2 := unhide HSC wr (unhide KK) k hk4
          have hq : (FloatKind.f64.format.order (ofI ((qsums z len 0).getD k 0)) (floatOfInt .f64 ((qsums z len 0).getD k 0)) != some .eq) = false := by
            have : (FloatKind.f64.format.order (ofI ((qsums z len 0).getD k 0)) (ofI ((qsums z len 0).getD k 0)) != some .eq) = nanW (ofI ((qsums z len 0).getD k 0)) := order_self' _
            rw [nan_ofI] at this
            exact this
          generalize (qsums z len 0).getD k 0 = y at *
          generalize ofI y = fy at *
          go_upto_region 27 with fail
          go_quiet (fail)
          have KQ := hide ((unhide KK).trans (Kp.drewN wr nq))
          generalize wr.drewN nq = wq at *
          go_wp2
          go_roundw
          case rel => exact ⟨k + 1, by omega, by go_num, unhide KQ⟩
          case measure => simp [intOf]; omega
        · obtain rfl : k = 4 := by omega
          have hk4I : ¬ ((4 : Nat) : Int) < 4 := by omega
          have hk4J : ¬ ((4 : Int) < 4) := by omega
          go_wp2
          go_ret
          exact ⟨rfl, (unhide K7).trans (unhide KK)⟩
end Go.Proofs.Ytlfjclnocbohbaa
