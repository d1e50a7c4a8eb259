
/- SchedCuts: run in pieces tasks step as they do at once. -/
import Derived.Test.YtenbmfhhmbfgoaaSchCc
import Derived.BigRegion
import Derived.BigQuiet
import Derived.Deep.QuietTactic
import Derived.Deep.DeepCutAuto
namespace Go.Proofs.Ytenbmfhhmbfgoaa
open Go.RowKit

theorem getD_rangeD (n : Nat) (z : Nat → Int) {i : Nat} (hi : i < n) : ((List.range n).map z).getD i 0 = z i := by
  rw [List.getD_eq_getElem?_getD, List.getElem?_map, List.getElem?_range hi]
  rfl
theorem bys_of_colD {w : World} {a : Option Addr} {n cap : Nat} {z : Nat → Int} (h : InCol .u8 w a n z) (hn : n ≤ 1000000) : Bys w (.slice a n cap) ((List.range n).map z) := by
  have hl : ((List.range n).map z).length = n := by simp
  refine ⟨fun x hx => ?_, by omega, a, cap, by rw [hl], fun h0 => ?_⟩
  · obtain ⟨i, hi, rfl⟩ := List.mem_map.1 hx
    have hi2 := List.mem_range.1 hi
    obtain ⟨b, off, _, _, hc⟩ := h.2 (by omega)
    exact wf_by (hc i hi2).2
  · obtain ⟨b, off, rfl, hb, hc⟩ := h.2 (by omega)
    exact ⟨b, off, rfl, hb, fun i hi => by rw [getD_rangeD n z (by omega)]; exact (hc i (by omega)).1⟩
/-- two tasks were boxed -/
structure Made (w w' : World) (b1 b2 s1 T1 s2 T2 : Nat) (Lv : Value) : Prop where
  kp : Kp w w'
  t1 : TB w' b1 s1 T1 Lv 0
  t2 : TB w' b2 s2 T2 Lv 0
  l1 : w.heap.size ≤ b1
  l2 : w.heap.size ≤ b2
  ne : b1 ≠ b2
def tkO (s T : Nat) (Lv : Value) : Obj := .cells #[.pointer (some ⟨s, 0, none⟩), Lv, .int .i64 0, .pointer (some ⟨T, 0, none⟩)] 38
theorem made12 (w : World) (s1 T1 s2 T2 : Nat) (Lv : Value) : Made w ((w.alloc (tkO s1 T1 Lv)).alloc (tkO s2 T2 Lv)) w.heap.size (w.heap.size + 1) s1 T1 s2 T2 Lv := by
  have k1 := Kp.alloc w (tkO s1 T1 Lv)
  have k2 := Kp.alloc (w.alloc (tkO s1 T1 Lv)) (tkO s2 T2 Lv)
  have h1 := tb_made w s1 T1 Lv
  have h2 := tb_made (w.alloc (tkO s1 T1 Lv)) s2 T2 Lv
  rw [size_alloc] at h2
  exact ⟨k1.trans k2, h1.of (k2.block _ h1.lt), h2, Nat.le_refl _, by omega, by omega⟩
theorem Made.swap {w w' : World} {b1 b2 s1 T1 s2 T2 : Nat} {Lv : Value} (h : Made w w' b1 b2 s1 T1 s2 T2 Lv) : Made w w' b2 b1 s2 T2 s1 T1 Lv := ⟨h.kp, h.t2, h.t1, h.l2, h.l1, h.ne.symm⟩

theorem Made.drew {w w' : World} {b1 b2 s1 T1 s2 T2 : Nat} {Lv : Value} (h : Made w w' b1 b2 s1 T1 s2 T2 Lv) : Made w w'.drew b1 b2 s1 T1 s2 T2 Lv := ⟨h.kp.trans (Kp.drew w'), h.t1.of rfl, h.t2.of rfl, h.l1, h.l2, h.ne⟩

/-- i tasks on either side -/
structure Both (W0 : World) (ps : List Int) (s1 T1 s2 T2 : Nat) (ds : List (Value × List (Value × List Int × Int))) (i : Nat) (w : World) : Prop where
  at_ : ∃ Bs1 Bs2 A1 A2 G1 G2, Bs1.length = i ∧ Bs2.length = i ∧ DD W0 ps s1 T1 Bs1 ⟨List.replicate i 0, []⟩ A1 G1 s2 T2 Bs2 ⟨List.replicate i 0, []⟩ A2 G2 (ds.take i) (ds.take i) w ∧ EqS A1 A2 ∧ A1.k = 0
theorem Both.go {W0 w w' : World} {ps : List Int} {s1 T1 s2 T2 : Nat} {ds : List (Value × List (Value × List Int × Int))} {i : Nat} (h : Both W0 ps s1 T1 s2 T2 ds i w) (hi : i < ds.length) (hi2 : i < 128) {b1 b2 : Nat} (m : Made w w' b1 b2 s1 T1 s2 T2 (ds.getD i dz).1) (hl : DeedsAt W0 (ds.getD i dz).1 (ds.getD i dz).2) (hs : capD ds ≤ 100000) :
    Calls Try.prog 12 #[.pointer (some ⟨s1, 0, none⟩), taskF b1] w' fun e w2 => e = .returned (.tuple #[.int .i64 (i : Int), .int .i64 0]) ∧ Hid (Calls Try.prog 12 #[.pointer (some ⟨s2, 0, none⟩), taskF b2] w2 fun e w3 => e = .returned (.tuple #[.int .i64 (i : Int), .int .i64 0]) ∧ Both W0 ps s1 T1 s2 T2 ds (i + 1) w3) := by
  obtain ⟨Bs1, Bs2, A1, A2, G1, G2, h1, h2, d, e, hk⟩ := h.at_
  have d' := d.keep m.kp
  have l1 := fun k e => (d.d1.lt k e).1
  have l2 := fun k e => (d.d2.lt k e).1
  have z := d.d1.kp.size
  have hz : capD (ds.take i ++ [((ds.getD i dz).1, (ds.getD i dz).2)]) ≤ 100000 := by
    have e : ds.take i ++ [((ds.getD i dz).1, (ds.getD i dz).2)] = ds.take (i + 1) := by
      rw [List.take_succ_eq_append_getElem hi]
      have : ds.getD i dz = ds[i] := by simp [hi]
      rw [this]
    rw [e]
    exact Nat.le_trans (capD_take ds (i + 1)) hs
  have et : ds.take i ++ [((ds.getD i dz).1, (ds.getD i dz).2)] = ds.take (i + 1) := by
    rw [List.take_succ_eq_append_getElem hi]
    have : ds.getD i dz = ds[i] := by simp [hi]
    rw [this]
  refine (d'.go1 h1 hi2 b1 _ _ m.t1 (fun x => by have := l1 _ x; have := m.l1; omega) (fun x => by have := l2 _ x; have := m.l1; omega) (by have := m.l1; omega) hl hz).mono ?_
  rintro e1 w2 ⟨rfl, G1', d2, f⟩
  have hne := m.ne
  have nb : ¬ Fo G1 b1 b2 := by
    rintro (x | x)
    · have := l1 _ x; have := m.l2; omega
    · exact hne x.symm
  refine ⟨rfl, (d2.swap.go1 h2 hi2 b2 _ _ (m.t2.of (f.block b2 m.t2.lt nb)) (fun x => by have := l2 _ x; have := m.l2; omega) (fun x => ?_) (by have := m.l2; omega) hl hz).mono ?_⟩
  · rcases f.new _ x with x | x
    · exact nb x
    · have := m.t2.lt; omega
  · rintro e2 w3 ⟨rfl, G2', d3, -⟩
    rw [et] at d3
    have er : List.replicate i (0 : Nat) ++ [0] = List.replicate (i + 1) 0 := by rw [List.replicate_succ']
    rw [er] at d3
    exact ⟨rfl, _, _, _, _, _, _, by simp [h1], by simp [h2], d3.swap, e.go _ _, hk⟩

theorem Both.start {W0 w : World} {ps : List Int} {s1 s2 : Nat} {F1 F2 : Nat → Prop} {ds : List (Value × List (Value × List Int × Int))} (k0 : Kp W0 w) (sc1 : Sc w s1 F1 ps newS) (hF1 : ∀ k, F1 k → W0.heap.size ≤ k) (sc2 : Sc w s2 F2 ps newS) (hF2 : ∀ k, F2 k → W0.heap.size ≤ k) (ap : ∀ k, F1 k → ¬ F2 k) :
    Both W0 ps s1 w.heap.size s2 (w.heap.size + 1) ds 0 ((w.alloc (.cells #[.slice none 0 0] 31)).alloc (.cells #[.slice none 0 0] 31)) := by
  have k1 := Kp.alloc w (.cells #[.slice none 0 0] 31)
  have k2 := Kp.alloc (w.alloc (.cells #[.slice none 0 0] 31)) (.cells #[.slice none 0 0] 31)
  have d1 := (told_made k0 sc1 hF1).keep k2
  have d2 := told_made (k0.trans k1) (sc2.keep k1) hF2
  rw [size_alloc] at d2
  have l1 := sc1.fb
  have l2 := sc2.fb
  refine ⟨[], [], newS, newS, _, _, rfl, rfl, ⟨d1, d2, ?_⟩, EqS.refl _, rfl⟩
  rintro k (e | e | e | e) (f | f | f | f)
  · exact ap k e f
  · have := l1 k e; omega
  · cases f
  · cases f
  · have := l2 k f; omega
  · omega
  · cases f
  · cases f
  · cases e
  · cases e
  · cases e
  · cases e
  · cases e
  · cases e
  · cases e
  · cases e

set_option maxRecDepth 20000 in
set_option maxHeartbeats 8000000 in
theorem cuts_any (ds : List (Value × List (Value × List Int × Int))) (a0 : Option Addr) (cap0 : Nat) (a1 : Option Addr) (n1 cap1 : Nat) (z1 : Nat → Int) (a2 : Option Addr) (n2 cap2 : Nat) (z2 : Nat → Int) (w : World) (h0 : TasksAt w (.slice a0 ds.length cap0) ds) (h1 : InCol .u8 w a1 n1 z1) (h2 : InCol .u8 w a2 n2 z2) :
    Calls Try.prog 8 #[.slice a0 ds.length cap0, .slice a1 n1 cap1, .slice a2 n2 cap2] w fun e w' => e = .returned (.bool true) ∧ Kp w w' := by
  have HA := hide (awake15_any w)
  have hl0 := h0.1
  have hl1 := h1.1
  have hl2 := h2.1
  have HT := hide h0
  have HP : Hid (n1 ≤ 100 → ∀ w', Kp w w' → Bys w' (.slice a1 n1 cap1) ((List.range n1).map z1)) := fun h w' k => (bys_of_colD h1 (by omega)).keep k
  have HC := hide h2
  clear h0 h1 h2
  go_enter Try.func8, Try.ntmps8
  go_wp2_with fail
  refine (unhide HA).mono ?_
  clear HA
  rintro e w1 ⟨rfl, k1⟩
  have K1 := hide k1
  have HS := hide (smallD_any _ ds w1 ((unhide HT).keep k1))
  clear k1
  go_wp2_with fail
  refine (unhide HS).mono ?_
  clear HS
  rintro e w2 ⟨⟨b, rfl, hb⟩, k2⟩
  have K2 := hide ((unhide K1).trans k2)
  have HB := hide (unhide hb)
  clear k2 hb K1
  cases b
  · clear HB HT HP HC
    go_wp2_with fail
    go_ret
    exact ⟨rfl, unhide K2⟩
  · obtain ⟨h40, hcap⟩ := unhide HB rfl
    clear HB
    by_cases hp : n1 ≤ 100
    · have hpI : ¬ 100 < (n1 : Int) := by omega
      by_cases hc : n2 ≤ 60
      · have hcI : ¬ 60 < (n2 : Int) := by omega
        have HP2 := hide (unhide HP hp)
        generalize (List.range n1).map z1 = ps at *
        have HN := hide (snew_any (.slice a1 n1 cap1) _ w2 (unhide HP2 w2 (unhide K2)))
        clear HP
        go_wp2_with fail
        refine (unhide HN).mono ?_
        clear HN
        rintro e w3 ⟨s1, F1, rfl, sc1, k3, hF1⟩
        have K3 := hide ((unhide K2).trans k3)
        have HN := hide (snew_any (.slice a1 n1 cap1) _ w3 (unhide HP2 w3 (unhide K3)))
        have SC1 := hide sc1
        have HF1 : Hid (∀ k, F1 k → w.heap.size ≤ k) := fun k e => Nat.le_trans (unhide K2).size (hF1 k e)
        clear sc1 k3 hF1 K2 HP2
        go_wp2_with fail
        refine (unhide HN).mono ?_
        clear HN
        rintro e w4 ⟨s2, F2, rfl, sc2, k4, hF2⟩
        have K4 := hide ((unhide K3).trans k4)
        have B0 := hide (Both.start (ds := ds) (unhide K4) ((unhide SC1).keep k4) (unhide HF1) sc2 (fun k e => Nat.le_trans (unhide K3).size (hF2 k e)) (fun k e f => by have := (unhide SC1).fb k e; have := hF2 k f; omega))
        have HK0 : Hid (Kp w ((w4.alloc (.cells #[.slice none 0 0] 31)).alloc (.cells #[.slice none 0 0] 31))) := (unhide K4).trans ((Kp.alloc _ _).trans (Kp.alloc _ _))
        clear sc2 k4 hF2 SC1 HF1 K3 K4
        go_upto_region 9 with fail
        generalize (w4.alloc (.cells #[.slice none 0 0] 31)).alloc (.cells #[.slice none 0 0] 31) = W at *
        generalize w4.heap.size + 1 = T2 at *
        generalize w4.heap.size = T1 at *
        clear HK0
        go_wp2
        go_loopw [11] (fun i wr => ∃ k : Nat, k ≤ ds.length ∧ i = .int .i64 k ∧ Hid (Both w ps s1 T1 s2 T2 ds k wr)) (fun i _ => ds.length - (intOf i).toNat)
        case atStart => exact ⟨0, Nat.zero_le _, rfl, unhide B0⟩
        case round =>
          obtain ⟨k, hk, rfl, HBo⟩ := hrel
          by_cases hlt : k < ds.length
          · have hltI : (k : Int) < (ds.length : Int) := by omega
            obtain ⟨-, a', cap', e, hh⟩ := unhide HT
            cases e
            obtain ⟨bb, off, rfl, hbb, hcc⟩ := hh (by omega)
            obtain ⟨c1, c2, -, -⟩ := hcc k hlt
            have kw : Kp w wr := by
              obtain ⟨_, _, _, _, _, _, _, _, d, _⟩ := (unhide HBo).at_
              exact d.d1.kp
            have q1 := cell_of kw c1
            have HGo := hide (fun (b1 b2 : Nat) (w' : World) (m : Made wr w' b1 b2 s1 T1 s2 T2 (ds.getD k dz).1) => (unhide HBo).go hlt (by omega) m c2 (by omega))
            obtain ⟨-, al, capl, eL, -⟩ := id c2
            clear hh hcc c1 c2 kw hbb HBo
            generalize (ds.getD k dz).1 = Lv at *
            generalize (ds.getD k dz).2.length = nl at *
            subst eL
            have q2 : (wr.alloc (.cells #[.pointer (some ⟨s1, 0, none⟩), .slice al nl capl, .int .i64 0, .pointer (some ⟨T1, 0, none⟩)] 38)).cell? ⟨bb, off + k, none⟩ = some (.slice al nl capl) := cell_of (Kp.alloc _ _) q1
            have q3 : (wr.alloc (.cells #[.pointer (some ⟨s2, 0, none⟩), .slice al nl capl, .int .i64 0, .pointer (some ⟨T2, 0, none⟩)] 38)).cell? ⟨bb, off + k, none⟩ = some (.slice al nl capl) := cell_of (Kp.alloc _ _) q1
            go_upto_region 12 with fail
            go_cut [12, 13] (fun p q wx => ∃ b1 b2, p = .pointer (some ⟨b1, 0, none⟩) ∧ q = .pointer (some ⟨b2, 0, none⟩) ∧ Hid (Made wr wx b1 b2 s1 T1 s2 T2 (.slice al nl capl)))
            case first =>
              go_region
              all_goals (go_wp2_with fail; go_meet)
              · exact ⟨_, _, rfl, rfl, (made12 wr s1 T1 s2 T2 (.slice al nl capl)).drew⟩
              · exact ⟨_, _, rfl, rfl, (made12 wr s2 T2 s1 T1 (.slice al nl capl)).swap.drew⟩
            case rest =>
              obtain ⟨b1, b2, rfl, rfl, HM⟩ := hcut
              have HG1 := hide (unhide HGo b1 b2 _ (unhide HM))
              clear HGo HM
              unfold taskF at HG1
              go_wp2_with fail
              refine (unhide HG1).mono ?_
              clear HG1
              rintro e w6 ⟨rfl, HG2⟩
              have HG3 := hide (unhide HG2)
              clear HG2
              go_wp2_with fail
              refine (unhide HG3).mono ?_
              clear HG3
              rintro e w7 ⟨rfl, hbo⟩
              have HBo := hide hbo
              clear hbo
              go_wp2_with fail
              go_roundw
              case rel => exact ⟨k + 1, by omega, by go_num, unhide HBo⟩
              case measure => simp [intOf]; omega
          · obtain rfl : k = ds.length := by omega
            obtain ⟨Bs1, Bs2, A1, A2, G1, G2, -, -, d, e, hk0⟩ := (unhide HBo).at_
            rw [List.take_length] at d
            have CR := hide (d.run1 (most := 5000) (by decide))
            have er := run_eq ps ds 5000 ⟨List.replicate ds.length 0, []⟩ A1 A2 e
            have ek := run_k ps ds 5000 (⟨List.replicate ds.length 0, []⟩, A1)
            have HR0 : Hid ((runF ps (stepD ds) 5000 (⟨List.replicate ds.length 0, []⟩, A1)).1 < 5000 → Rest ps ds (runF ps (stepD ds) 5000 (⟨List.replicate ds.length 0, []⟩, A1)).1 (runF ps (stepD ds) 5000 (⟨List.replicate ds.length 0, []⟩, A1)).2.1 (runF ps (stepD ds) 5000 (⟨List.replicate ds.length 0, []⟩, A1)).2.2.1.told 0 (⟨List.replicate ds.length 0, []⟩, A2)) := fun h => ⟨by rw [Nat.zero_add]; exact er.1, er.2.1, by rw [er.2.2.1], h⟩
            have HEK := hide ek
            have HK0 := hide hk0
            clear d e er ek hk0 HBo
            generalize (⟨List.replicate ds.length 0, []⟩ : DC) = c0 at *
            generalize runF ps (stepD ds) 5000 (c0, A1) = X at *
            obtain ⟨n, E, c1, B1⟩ := X
            simp only at CR HR0 HEK
            go_wp2_with fail
            refine (unhide CR).mono ?_
            clear CR
            rintro e w5 ⟨rfl, G1', d1⟩
            have hk1 := d1.d1.p.kcap2
            have hk2 := d1.d1.p.tl
            have hk3 : B1.k = n := by
              have := unhide HEK
              have := unhide HK0
              omega
            rw [hk3] at hk1 hk2
            have hn5 : n < 2041 := by omega
            have HRe := hide (unhide HR0 (by omega))
            have HD : Hid (∃ G1 G2, DD w ps s1 T1 Bs1 c1 B1 G1 s2 T2 Bs2 c0 A2 G2 ds ds w5) := ⟨_, _, d1⟩
            clear d1 hk1 hk3 HR0 HEK HK0
            go_wp2_with fail
            go_loopw [16, 17] (fun mv i wr => ∃ (j m : Nat) (x : DC × SS), j ≤ n2 ∧ i = .int .i64 j ∧ mv = .int .i64 m ∧ m ≤ n ∧ Hid (Rest ps ds n E c1.told m x) ∧ Hid (∃ G1 G2, DD w ps s1 T1 Bs1 c1 B1 G1 s2 T2 Bs2 x.1 x.2 G2 ds ds wr)) (fun _ i _ => n2 - (intOf i).toNat)
            case atStart => exact ⟨0, 0, (c0, A2), Nat.zero_le _, rfl, rfl, Nat.zero_le _, unhide HRe, unhide HD⟩
            case round =>
              obtain ⟨j, m, x, hj, rfl, rfl, hmn, HRe, HD⟩ := hrel
              obtain ⟨G1, G2, d⟩ := unhide HD
              by_cases hjl : j < n2
              · have hjI : (j : Int) < (n2 : Int) := by omega
                obtain ⟨hb2, off2, rfl, hbl2, hcc⟩ := ((unhide HC).keep d.d1.kp).2 (by omega)
                obtain ⟨q1, q2⟩ := hcc j hjl
                have q3 := wf_by q2
                obtain ⟨z, hz⟩ : ∃ z : Nat, z2 j = (z : Int) := ⟨(z2 j).toNat, by omega⟩
                rw [hz] at q1 q3
                have t1 : Int.tmod (z : Int) 9 = ((z % 9 : Nat) : Int) := (Int.ofNat_tmod z 9).symm ▸ rfl
                obtain ⟨y, hy⟩ : ∃ y, z % 9 = y := ⟨_, rfl⟩
                have hy9 : y ≤ 8 := by omega
                rw [hy] at t1
                have yI : (y : Int) ≤ 8 := by omega
                have CR := hide (d.swap.run1 (most := y) (by omega))
                have HRe2 := hide ((unhide HRe).cut y)
                have hle := (unhide HRe2).hn
                clear hcc q2 hz hy hbl2 d HD HRe
                obtain ⟨xc, xA⟩ := x
                generalize runF ps (stepD ds) y (xc, xA) = X at *
                obtain ⟨r, e2, x2⟩ := X
                simp only at CR HRe2 hle
                have hle2 : m + r ≤ n := by omega
                have hleI : (m : Int) + (r : Int) ≤ 2041 := by omega
                clear hle
                go_wp2_with fail
                refine (unhide CR).mono ?_
                clear CR
                rintro e w6 ⟨rfl, G2', d2⟩
                have HD : Hid (∃ G1 G2, DD w ps s1 T1 Bs1 c1 B1 G1 s2 T2 Bs2 x2.1 x2.2 G2 ds ds w6) := ⟨_, _, d2.swap⟩
                clear d2
                go_wp2_with fail
                go_roundw
                case rel => exact ⟨j + 1, m + r, x2, by omega, by go_num, by go_num, hle2, unhide HRe2, unhide HD⟩
                case measure => simp [intOf]; omega
              · obtain rfl : j = n2 := by omega
                have CR := hide (d.swap.run1 (most := 5000) (by decide))
                obtain ⟨xc, xA⟩ := x
                obtain ⟨g1, g2, g3, -⟩ := unhide HRe
                clear d HD HRe
                generalize runF ps (stepD ds) 5000 (xc, xA) = X at *
                obtain ⟨r, e2, xc2, xA2⟩ := X
                simp only at CR g1 g2 g3
                subst g2
                have gI : (n : Int) = (m : Int) + (r : Int) := by omega
                go_wp2_with fail
                refine (unhide CR).mono ?_
                clear CR
                rintro e w6 ⟨rfl, G2', d2⟩
                obtain ⟨a3, cap3, t0, t1⟩ := d2.d2.told
                obtain ⟨a4, cap4, t2, t3⟩ := d2.d1.told
                rw [← g3] at t2 t3
                have K6 := hide d2.d1.kp
                have htl : c1.told.length ≤ 2041 := by omega
                have H1 := hide t1
                have H3 := hide t3
                clear d2 t1 t3 g3 hk2
                generalize c1.told = t at *
                go_wp2_with fail
                go_loopw [22] (fun i wr => ∃ q : Nat, q ≤ t.length ∧ i = .int .i64 q ∧ Hid (Kp w6 wr)) (fun i _ => t.length - (intOf i).toNat)
                case atStart => exact ⟨0, Nat.zero_le _, rfl, Kp.refl _⟩
                case round =>
                  obtain ⟨q, hq, rfl, KR⟩ := hrel
                  have p0 := cell_of (unhide KR) t0
                  have p1 := cell_of (unhide KR) t2
                  by_cases hqt : q < t.length
                  · have hqI : (q : Int) < (t.length : Int) := by omega
                    obtain ⟨g, rfl, y1⟩ := unhide H1 (by omega)
                    obtain ⟨g', rfl, y3⟩ := unhide H3 (by omega)
                    have p2 := cell_of (unhide KR) (y1 q hqt)
                    have p3 := cell_of (unhide KR) (y3 q hqt)
                    clear y1 y3
                    generalize t.getD q 0 = v at *
                    go_wp2_with fail
                    go_quiet (fail)
                    go_wp2_with fail
                    go_roundw
                    case rel => exact ⟨q + 1, by omega, by go_num, (unhide KR).trans (Kp.drewN _ _)⟩
                    case measure => simp [intOf]; omega
                  · obtain rfl : q = t.length := by omega
                    go_wp2_with fail
                    go_ret
                    exact ⟨rfl, (unhide K6).trans (unhide KR)⟩
      · have hcI : 60 < (n2 : Int) := by omega
        clear HP HT HC
        go_wp2_with fail
        go_ret
        exact ⟨rfl, unhide K2⟩
    · have hpI : 100 < (n1 : Int) := by omega
      clear HP HT HC
      go_wp2_with fail
      go_ret
      exact ⟨rfl, unhide K2⟩

end Go.Proofs.Ytenbmfhhmbfgoaa
