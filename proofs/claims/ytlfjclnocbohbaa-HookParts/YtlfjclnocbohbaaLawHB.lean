
/- The law HookParts, walked. -/
import Derived.Test.YtlfjclnocbohbaaLawHA
namespace Go.Proofs.Ytlfjclnocbohbaa
open Go.RowKit

theorem Hooks.take9 {w : World} {b off n cap : Nat} {hs : List Hk} (h : Hooks w (.slice (some ⟨b, off, none⟩) n cap) hs) {m : Nat} (hm : m ≤ n) (cap' : Nat) : Hooks w (.slice (some ⟨b, off, none⟩) m cap') (hs.take m) := by
  obtain ⟨h1, a, c, e, h3⟩ := h
  cases e
  have hl : (hs.take m).length = m := by rw [List.length_take]; omega
  refine ⟨by omega, some ⟨b, off, none⟩, cap', by rw [hl], fun hp => ?_⟩
  obtain ⟨b', off', e, hb, hc⟩ := h3 (by omega)
  cases e
  refine ⟨b, off, rfl, hb, fun i hi => ?_⟩
  have hi' : i < m := by omega
  have := hc i (by omega)
  simpa [List.getD_eq_getElem?_getD, List.getElem?_take, hi'] using this
theorem Hooks.drop9 {w : World} {b off n cap : Nat} {hs : List Hk} (h : Hooks w (.slice (some ⟨b, off, none⟩) n cap) hs) {m : Nat} (hm : m ≤ n) (cap' : Nat) : Hooks w (.slice (some ⟨b, off + m * 2, none⟩) (n - m) cap') (hs.drop m) := by
  obtain ⟨h1, a, c, e, h3⟩ := h
  cases e
  have hl : (hs.drop m).length = hs.length - m := by rw [List.length_drop]
  refine ⟨by omega, some ⟨b, off + m * 2, none⟩, cap', by rw [hl], fun hp => ?_⟩
  obtain ⟨b', off', e, hb, hc⟩ := h3 (by omega)
  cases e
  refine ⟨b, off + m * 2, rfl, hb, fun i hi => ?_⟩
  have := hc (m + i) (by omega)
  rw [show off + m * 2 + i * 2 = off + (m + i) * 2 by omega]
  simpa [List.getD_eq_getElem?_getD] using this
theorem mayH_take {hs : List Hk} (h : mayH hs = true) (m : Nat) : mayH (hs.take m) = true := by
  have hl := mayH_len h
  refine mayH_mk (by rw [List.length_take]; omega) (fun j hj => ?_)
  rw [List.length_take] at hj
  have := mayH_at h (j := j) (by omega)
  simpa [List.getD_eq_getElem?_getD, List.getElem?_take, show j < m by omega] using this
theorem mayH_drop {hs : List Hk} (h : mayH hs = true) (m : Nat) : mayH (hs.drop m) = true := by
  have hl := mayH_len h
  refine mayH_mk (by rw [List.length_drop]; omega) (fun j hj => ?_)
  rw [List.length_drop] at hj
  have := mayH_at h (j := m + j) (by omega)
  simpa [List.getD_eq_getElem?_getD] using this
/-- what is told of hooks in two parts -/
theorem ho_first {hs : List Hk} {s : List Int} {d : List Nat} (h : mayH hs = true) (h' : mayT s d = true) (m : Nat) (he : hoE (hs.take m) s d ≠ 0) : hoE hs s d = hoE (hs.take m) s d := by
  cases hk : hkL (hs.take m) (d.map cn) with
  | none => rw [(ho_none (mayH_take h m) h' hk).1, (ho_none h h' (hkL_none hk)).1]
  | some c => exact absurd (ho_some (mayH_take h m) h' hk).1 he
theorem ho_second {hs : List Hk} {s : List Int} {d ds : List Nat} (h : mayH hs = true) (h' : mayT s d = true) (m : Nat) (he : hoE (hs.take m) s d = 0) (hc : ds.map cn = hoD (hs.take m) s d) :
    hoS (hs.take m) s d = s ∧ hoE hs s d = hoE (hs.drop m) s ds ∧ hoS hs s d = hoS (hs.drop m) s ds ∧ hoD hs s d = hoD (hs.drop m) s ds := by
  cases hk : hkL (hs.take m) (d.map cn) with
  | none => rw [(ho_none (mayH_take h m) h' hk).1] at he; omega
  | some c =>
    obtain ⟨e1, e2, e3⟩ := ho_some (s := s) (mayH_take h m) h' hk
    rw [e3] at hc
    have hl : ds.length = d.length := by
      have a1 := hkL_len hk
      have a2 := congrArg List.length hc
      simp only [List.length_map] at a1 a2
      omega
    have h2 := mayT_same h' hl
    have hall : hkL hs (d.map cn) = hkL (hs.drop m) (ds.map cn) := by
      have := hkL_app (hs.take m) (hs.drop m) (d.map cn)
      rw [List.take_append_drop, hk] at this
      rw [this, hc]
      rfl
    refine ⟨e2, ?_⟩
    cases hd : hkL (hs.drop m) (ds.map cn) with
    | none =>
      rw [hd] at hall
      obtain ⟨f1, f2, f3⟩ := ho_none (s := s) h h' hall
      obtain ⟨g1, g2, g3⟩ := ho_none (s := s) (mayH_drop h m) h2 hd
      rw [f1, f2, f3, g1, g2, g3]
      exact ⟨rfl, rfl, rfl⟩
    | some c' =>
      rw [hd] at hall
      obtain ⟨f1, f2, f3⟩ := ho_some (s := s) h h' hall
      obtain ⟨g1, g2, g3⟩ := ho_some (s := s) (mayH_drop h m) h2 hd
      rw [f1, f2, f3, g1, g2, g3]
      exact ⟨rfl, rfl, rfl⟩

set_option maxHeartbeats 8000000 in
theorem parts9_walk (a : Option Addr) (len cap : Nat) (p0 : Option Addr) (l0 c0 : Nat) (z0 : List Int) (p1 : Option Addr) (l1 c1 : Nat) (z1 : List Nat) (cut : Int) (w : World) (h : InHooks w a len cap) (hi : InRowK .i64 w p0 l0 c0 z0) (hf : InRowF w p1 l1 c1 z1) (hcut : (Lit.int .u8 cut).wf = true) :
    Calls Try.prog 5 #[.slice a len cap, .agg #[.slice p0 l0 c0, .slice p1 l1 c1], .int .u8 cut] w fun e w' => e = .returned (.bool true) ∧ Kp w w' := by
  have H := hide h
  have HI := hide hi
  have HF := hide hf
  have hmax := h.max.1
  have hcap := h.max.2
  have m0 := hi.max
  have m1 := hf.max
  have hu := bounds_u8 hcut
  obtain ⟨ct, rfl⟩ : ∃ ct : Nat, cut = (ct : Int) := ⟨cut.toNat, by omega⟩
  have hct : ct ≤ 255 := by omega
  clear h hi hf hcut hu
  go_enter Try.func5, Try.ntmps5
  go_wp2_with fail
  have XT := hide (Bx.made w (.slice p0 l0 c0) (.slice p1 l1 c1))
  have K0 := hide (Kp.alloc w (.cells #[.slice p0 l0 c0, .slice p1 l1 c1] 31))
  generalize w.alloc (.cells #[.slice p0 l0 c0, .slice p1 l1 c1] 31) = u0 at *
  generalize w.heap.size = T at XT ⊢
  refine (awake9_any u0).mono ?_
  rintro e w1 ⟨rfl, k1⟩
  have K1 := hide ((unhide K0).trans k1)
  have X1 := hide ((unhide XT).keep k1)
  clear k1 K0 XT
  by_cases g0 : 40 < len
  · have g0' : decide ((40 : Int) < (len : Int)) = true := decide_eq_true (by omega)
    have g0'' : (40 : Int) < (len : Int) := by omega
    go_wp2
    go_ret
    exact ⟨rfl, unhide K1⟩
  have g0' : ¬ (40 : Int) < (len : Int) := by omega
  obtain ⟨x0, x1, -, -, -⟩ := (unhide X1).o
  go_wp2_with fail
  refine (small_any p0 p1 l0 c0 l1 c1 w1 m0 m1).mono ?_
  rintro e w2 ⟨rfl, k2⟩
  have K2 := hide ((unhide K1).trans k2)
  have X2 := hide ((unhide X1).keep k2)
  clear k2 x0 x1 X1
  by_cases hsm : (decide (l0 ≤ 40) && decide (l1 ≤ 8192)) = true
  · rw [hsm]
    simp only [Bool.and_eq_true, decide_eq_true_eq] at hsm
    obtain ⟨hs, hsl, hhk⟩ := (unhide H).hooks (by omega)
    have HK := hide (hhk.keep (unhide K2))
    have II := hide (((unhide HI).ints (by omega)).keep (unhide K2))
    have FF := hide (((unhide HF).flts (by omega)).keep (unhide K2))
    have HSL := hide hsl
    generalize z0.take l0 = s at *
    generalize z1.take l1 = d at *
    clear hhk hsl
    go_wp2_with fail
    refine (rmayH_run _ hs w2 (unhide HK)).mono ?_
    rintro e w3 ⟨rfl, k3⟩
    have K3 := hide ((unhide K2).trans k3)
    have X3 := hide ((unhide X2).keep k3)
    have HK3 := hide ((unhide HK).keep k3)
    have II3 := hide ((unhide II).keep k3)
    have FF3 := hide ((unhide FF).keep k3)
    clear k3 X2 HK II FF K2
    cases hmh : mayH hs
    · clear hmh
      go_wp2
      go_ret
      exact ⟨rfl, unhide K3⟩
    have HMH := hide hmh
    clear hmh
    obtain ⟨x0, x1, -, -, -⟩ := (unhide X3).o
    go_wp2_with fail
    refine (rmayT_any _ _ s d w3 (unhide II3) (unhide FF3)).mono ?_
    rintro e w4 ⟨rfl, k4⟩
    have K4 := hide ((unhide K3).trans k4)
    have X4 := hide ((unhide X3).keep k4)
    have HK4 := hide ((unhide HK3).keep k4)
    have II4 := hide ((unhide II3).keep k4)
    have FF4 := hide ((unhide FF3).keep k4)
    clear k4 X3 HK3 II3 FF3 K3 x0 x1
    cases hmt : mayT s d
    · clear hmt
      go_wp2
      go_ret
      exact ⟨rfl, unhide K4⟩
    have HMT := hide hmt
    clear hmt
    have hd0 : ¬ ((len : Int) + 1 = 0) := by omega
    have hd1 : (ct : Int).tmod ((len : Int) + 1) = ((ct % (len + 1) : Nat) : Int) := by rw [Int.tmod_eq_emod_of_nonneg (by omega)]; simp
    have hkl : ct % (len + 1) ≤ len := by have := Nat.mod_lt ct (show 0 < len + 1 by omega); omega
    generalize ct % (len + 1) = k at *
    obtain ⟨x0, x1, -, -, -⟩ := (unhide X4).o
    go_wp2_with fail
    refine (do_all _ hs _ _ s d w4 (unhide HK4) (unhide II4) (unhide FF4)).mono ?_
    generalize hS : hoS hs s d = S at *
    generalize hE : hoE hs s d = E at *
    generalize hD : hoD hs s d = D at *
    have HQ := hide (And.intro hS (And.intro hE hD))
    clear hS hE hD
    rintro e w5 ⟨ds, ⟨a1, e1, a2, e2, rfl, i1, f1, -, -⟩, hc, k5⟩
    have ka := Kp.alloc w5 (.cells #[.slice a1 S.length e1, .slice a2 ds.length e2] 31)
    have kk := k5.trans ka
    have I5 := hide (i1.keep ka)
    have F5 := hide (f1.keep ka)
    have Y5 := hide (Bx.made w5 (.slice a1 S.length e1) (.slice a2 ds.length e2))
    have HC := hide hc
    have K5 := hide ((unhide K4).trans kk)
    have X5 := hide ((unhide X4).keep kk)
    have HK5 := hide ((unhide HK4).keep kk)
    have II5 := hide ((unhide II4).keep kk)
    have FF5 := hide ((unhide FF4).keep kk)
    clear i1 f1 hc k5 ka kk x0 x1
    go_upto_region 7 with fail
    generalize w5.alloc (.cells #[.slice a1 S.length e1, .slice a2 ds.length e2] 31) = w6 at *
    generalize w5.heap.size = Y at *
    have HV1 : Hid (∀ w', Kp w6 w' → Hooks w' (.slice a k cap) (hs.take k)) := by
      intro w' kk
      by_cases h0 : len = 0
      · have hk0 : k = 0 := by omega
        subst hk0
        rw [List.take_zero]
        exact Hooks.nil _ _ _
      · obtain ⟨b, off, rfl, -, -⟩ := (unhide HK5).one (Kp.refl w6) (i := 0) (by have := unhide HSL; omega)
        exact ((unhide HK5).keep kk).take9 hkl cap
    have hkI : (k : Int) ≤ (cap : Int) := by omega
    have hk0I : (0 : Int) ≤ (k : Int) := by omega
    have C1 := hide (fun w0 (kp : Kp w6 w0) => (do_all _ (hs.take k) _ _ s d w0 (unhide HV1 _ kp) ((unhide II5).keep kp) ((unhide FF5).keep kp)).mono (R' := fun e w' => ∃ r1 q1 r2 q2 ls ds', e = .returned (.tuple #[.agg #[.slice r1 ls q1, .slice r2 ds'.length q2], .int .i64 (hoE (hs.take k) s d)]) ∧ Hid (ls = (hoS (hs.take k) s d).length ∧ Ints w' (.slice r1 ls q1) (hoS (hs.take k) s d) ∧ Flts w' (.slice r2 ds'.length q2) ds' ∧ ds'.map cn = hoD (hs.take k) s d) ∧ Hid (Kp w6 w') ∧ Hid (Kp w0 w') ∧ w'.cell? ⟨T, 0, none⟩ = some (.slice p0 l0 c0) ∧ w'.cell? ⟨T, 1, none⟩ = some (.slice p1 l1 c1)) (by
      rintro e w' ⟨ds', ⟨r1, q1, r2, q2, rfl, i1, f1, -, -⟩, hc, k'⟩
      have x := (unhide X5).keep (kp.trans k')
      exact ⟨r1, q1, r2, q2, _, ds', rfl, ⟨rfl, i1, f1, hc⟩, kp.trans k', k', x.c0, x.c1⟩))
    obtain ⟨x0, x1, -, -, x4⟩ := (unhide X5).o
    go_cut [10, 11] (fun t ev wx => ∃ B' r1 q1 r2 q2 ls ds', t = .pointer (some ⟨B', 0, none⟩) ∧ ev = .int .i64 (hoE (hs.take k) s d) ∧ Hid (Bx wx B' (.slice r1 ls q1) (.slice r2 ds'.length q2) ∧ ls = (hoS (hs.take k) s d).length ∧ Ints wx (.slice r1 ls q1) (hoS (hs.take k) s d) ∧ Flts wx (.slice r2 ds'.length q2) ds' ∧ ds'.map cn = hoD (hs.take k) s d ∧ Kp w6 wx))
    case first =>
      generalize hoE (hs.take k) s d = E1 at *
      go_region_with (go_at_call 13; refine ((unhide C1) _ ?_).mono ?_; (first | (exact unhide (by assumption)) | exact Kp.drew _ | exact (Kp.alloc w6 (.cells #[.slice none 0 0, .slice none 0 0] 31)).trans (Kp.drew _)); rintro e w7 ⟨r1, q1, r2, q2, ls, ds', rfl, FF7, K7, J7, t0, t1⟩; (first
        | (have tb := (Bx.madeAt w6 (.slice none 0 0) (.slice none 0 0) w6.heap.size rfl).keep ((Kp.drew _).trans (unhide J7)); have TB := hide tb; obtain ⟨s0, s1, s2, s3, s4⟩ := tb.o; clear tb)
        | skip))
      all_goals (go_wp2_with fail; go_meet)
      all_goals exact ⟨_, _, _, _, _, _, _, rfl, rfl, by
        obtain ⟨g1, g2, g3, g4⟩ := unhide FF7
        first
        | exact ⟨Bx.made _ _ _, g1, g2.keep (Kp.alloc _ _), g3.keep (Kp.alloc _ _), g4, (unhide K7).trans (Kp.alloc _ _)⟩
        | exact ⟨(unhide TB).set _ _, g1, g2.setBx9 (unhide TB) _ _, g3.setBx9 (unhide TB) _ _, g4, ((unhide K7).set (i := 0) (Nat.le_refl _) _).set (i := 1) (Nat.le_refl _) _⟩⟩
    case rest =>
      obtain ⟨B', r1, q1, r2, q2, ls, ds', rfl, rfl, CUT⟩ := hcut
      generalize wc = w8 at *
      clear x0 x1 x4 C1 HV1
      by_cases he0 : hoE (hs.take k) s d = 0
      · obtain ⟨b1, b2, b3, b4, b5, b6⟩ := unhide CUT
        have h2 := ho_second (unhide HMH) (unhide HMT) k he0 b5
        rw [h2.1] at b2 b3
        rw [(unhide HQ).1, (unhide HQ).2.1, (unhide HQ).2.2] at h2
        rw [he0]
        have XB := hide b1
        have IB := hide b3
        have FB := hide b4
        have KB := hide b6
        have HH := hide h2.2
        have HK8 := hide ((unhide HK5).keep b6)
        have I8 := hide ((unhide I5).keep b6)
        have F8 := hide ((unhide F5).keep b6)
        have Y8 := hide ((unhide Y5).keep b6)
        clear b1 b2 b3 b4 b5 b6 h2 he0 CUT
        obtain ⟨x0, x1, -, -, x4⟩ := (unhide XB).o
        go_upto_region 10 with fail
        go_cut [12, 13] (fun t ev wx => ∃ B2 r1' q1' r2' q2' ls' es, t = .pointer (some ⟨B2, 0, none⟩) ∧ ev = .int .i64 E ∧ Hid (Bx wx B2 (.slice r1' ls' q1') (.slice r2' es.length q2') ∧ ls' = S.length ∧ Ints wx (.slice r1' ls' q1') S ∧ Flts wx (.slice r2' es.length q2') es ∧ es.map cn = D ∧ Kp w8 wx))
        case first =>
         have hlkI : (k : Int) ≤ (len : Int) := by omega
         have hcapI : (len : Int) ≤ (cap : Int) := by omega
         cases a with
         | none =>
          have HV2 : Hid (∀ w', Kp w8 w' → Hooks w' (.slice none (len - k) (cap - k)) (hs.drop k)) := by
            intro w' kk
            have hl0 : len = 0 := by
              rcases unhide H with ⟨_, h, _⟩ | ⟨x, h, _⟩
              · exact h
              · cases h
            have hd : hs.drop k = [] := List.drop_of_length_le (by have := unhide HSL; omega)
            rw [hd, show len - k = 0 by omega]
            exact Hooks.nil _ _ _
          have C2 := hide (fun w0 (kp : Kp w8 w0) => (do_all _ (hs.drop k) _ _ s ds' w0 (unhide HV2 _ kp) ((unhide IB).keep kp) ((unhide FB).keep kp)).mono (R' := fun e w' => ∃ r1' q1' r2' q2' ls' es, e = .returned (.tuple #[.agg #[.slice r1' ls' q1', .slice r2' es.length q2'], .int .i64 E]) ∧ Hid (ls' = S.length ∧ Ints w' (.slice r1' ls' q1') S ∧ Flts w' (.slice r2' es.length q2') es ∧ es.map cn = D) ∧ Hid (Kp w8 w') ∧ Hid (Kp w0 w') ∧ w'.cell? ⟨B', 0, none⟩ = some (.slice r1 ls q1) ∧ w'.cell? ⟨B', 1, none⟩ = some (.slice r2 ds'.length q2)) (by
            rw [← (unhide HH).1, ← (unhide HH).2.1, ← (unhide HH).2.2]
            rintro e w' ⟨es, ⟨r1', q1', r2', q2', rfl, i1, f1, -, -⟩, hc, k'⟩
            have x := (unhide XB).keep (kp.trans k')
            exact ⟨r1', q1', r2', q2', _, es, rfl, ⟨rfl, i1, f1, hc⟩, kp.trans k', k', x.c0, x.c1⟩))
          go_region_with (go_at_call 13; refine ((unhide C2) _ ?_).mono ?_; (first | (exact unhide (by assumption)) | exact Kp.drew _ | exact (Kp.alloc w8 (.cells #[.slice none 0 0, .slice none 0 0] 31)).trans (Kp.drew _)); rintro e w7 ⟨r1', q1', r2', q2', ls', es, rfl, FF7, K7, J7, t0, t1⟩; (first
            | (have tb := (Bx.madeAt w8 (.slice none 0 0) (.slice none 0 0) w8.heap.size rfl).keep ((Kp.drew _).trans (unhide J7)); have TB := hide tb; obtain ⟨s0, s1, s2, s3, s4⟩ := tb.o; clear tb)
            | skip))
          all_goals (go_wp2_with fail; go_meet)
          all_goals exact ⟨_, _, _, _, _, _, _, rfl, rfl, by
            obtain ⟨g1, g2, g3, g4⟩ := unhide FF7
            first
            | exact ⟨Bx.made _ _ _, g1, g2.keep (Kp.alloc _ _), g3.keep (Kp.alloc _ _), g4, (unhide K7).trans (Kp.alloc _ _)⟩
            | exact ⟨(unhide TB).set _ _, g1, g2.setBx9 (unhide TB) _ _, g3.setBx9 (unhide TB) _ _, g4, ((unhide K7).set (i := 0) (Nat.le_refl _) _).set (i := 1) (Nat.le_refl _) _⟩⟩
         | some x =>
          by_cases hck : cap = k
          · obtain rfl : len = k := by omega
            obtain rfl : cap = len := by omega
            have HV2 : Hid (∀ w', Kp w8 w' → Hooks w' (.slice (some x) 0 0) (hs.drop cap)) := by
              intro w' kk
              have hd : hs.drop cap = [] := List.drop_of_length_le (by have := unhide HSL; omega)
              rw [hd]
              exact Hooks.nil _ _ _
            have C2 := hide (fun w0 (kp : Kp w8 w0) => (do_all _ (hs.drop cap) _ _ s ds' w0 (unhide HV2 _ kp) ((unhide IB).keep kp) ((unhide FB).keep kp)).mono (R' := fun e w' => ∃ r1' q1' r2' q2' ls' es, e = .returned (.tuple #[.agg #[.slice r1' ls' q1', .slice r2' es.length q2'], .int .i64 E]) ∧ Hid (ls' = S.length ∧ Ints w' (.slice r1' ls' q1') S ∧ Flts w' (.slice r2' es.length q2') es ∧ es.map cn = D) ∧ Hid (Kp w8 w') ∧ Hid (Kp w0 w') ∧ w'.cell? ⟨B', 0, none⟩ = some (.slice r1 ls q1) ∧ w'.cell? ⟨B', 1, none⟩ = some (.slice r2 ds'.length q2)) (by
              rw [← (unhide HH).1, ← (unhide HH).2.1, ← (unhide HH).2.2]
              rintro e w' ⟨es, ⟨r1', q1', r2', q2', rfl, i1, f1, -, -⟩, hc, k'⟩
              have x := (unhide XB).keep (kp.trans k')
              exact ⟨r1', q1', r2', q2', _, es, rfl, ⟨rfl, i1, f1, hc⟩, kp.trans k', k', x.c0, x.c1⟩))
            go_region_with (go_at_call 13; refine ((unhide C2) _ ?_).mono ?_; (first | (exact unhide (by assumption)) | exact Kp.drew _ | exact (Kp.alloc w8 (.cells #[.slice none 0 0, .slice none 0 0] 31)).trans (Kp.drew _)); rintro e w7 ⟨r1', q1', r2', q2', ls', es, rfl, FF7, K7, J7, t0, t1⟩; (first
              | (have tb := (Bx.madeAt w8 (.slice none 0 0) (.slice none 0 0) w8.heap.size rfl).keep ((Kp.drew _).trans (unhide J7)); have TB := hide tb; obtain ⟨s0, s1, s2, s3, s4⟩ := tb.o; clear tb)
              | skip))
            all_goals (go_wp2_with fail; go_meet)
            all_goals exact ⟨_, _, _, _, _, _, _, rfl, rfl, by
              obtain ⟨g1, g2, g3, g4⟩ := unhide FF7
              first
              | exact ⟨Bx.made _ _ _, g1, g2.keep (Kp.alloc _ _), g3.keep (Kp.alloc _ _), g4, (unhide K7).trans (Kp.alloc _ _)⟩
              | exact ⟨(unhide TB).set _ _, g1, g2.setBx9 (unhide TB) _ _, g3.setBx9 (unhide TB) _ _, g4, ((unhide K7).set (i := 0) (Nat.le_refl _) _).set (i := 1) (Nat.le_refl _) _⟩⟩
          · have hckI : ¬ (cap : Int) = (k : Int) := by omega
            obtain ⟨xb, xo, rfl⟩ : ∃ b o, x = ⟨b, o, none⟩ := by
              rcases unhide H with ⟨h, _⟩ | ⟨x', h, h1, h2, h3⟩
              · cases h
              · obtain ⟨b, off, e, _⟩ := h3 (by omega)
                cases h
                exact ⟨b, off, e⟩
            have HV2 : Hid (∀ w', Kp w8 w' → Hooks w' (.slice (some ⟨xb, xo + k * 2, none⟩) (len - k) (cap - k)) (hs.drop k)) := by
              intro w' kk
              exact ((unhide HK8).keep kk).drop9 hkl (cap - k)
            have C2 := hide (fun w0 (kp : Kp w8 w0) => (do_all _ (hs.drop k) _ _ s ds' w0 (unhide HV2 _ kp) ((unhide IB).keep kp) ((unhide FB).keep kp)).mono (R' := fun e w' => ∃ r1' q1' r2' q2' ls' es, e = .returned (.tuple #[.agg #[.slice r1' ls' q1', .slice r2' es.length q2'], .int .i64 E]) ∧ Hid (ls' = S.length ∧ Ints w' (.slice r1' ls' q1') S ∧ Flts w' (.slice r2' es.length q2') es ∧ es.map cn = D) ∧ Hid (Kp w8 w') ∧ Hid (Kp w0 w') ∧ w'.cell? ⟨B', 0, none⟩ = some (.slice r1 ls q1) ∧ w'.cell? ⟨B', 1, none⟩ = some (.slice r2 ds'.length q2)) (by
              rw [← (unhide HH).1, ← (unhide HH).2.1, ← (unhide HH).2.2]
              rintro e w' ⟨es, ⟨r1', q1', r2', q2', rfl, i1, f1, -, -⟩, hc, k'⟩
              have x := (unhide XB).keep (kp.trans k')
              exact ⟨r1', q1', r2', q2', _, es, rfl, ⟨rfl, i1, f1, hc⟩, kp.trans k', k', x.c0, x.c1⟩))
            go_region_with (go_at_call 13; refine ((unhide C2) _ ?_).mono ?_; (first | (exact unhide (by assumption)) | exact Kp.drew _ | exact (Kp.alloc w8 (.cells #[.slice none 0 0, .slice none 0 0] 31)).trans (Kp.drew _)); rintro e w7 ⟨r1', q1', r2', q2', ls', es, rfl, FF7, K7, J7, t0, t1⟩; (first
              | (have tb := (Bx.madeAt w8 (.slice none 0 0) (.slice none 0 0) w8.heap.size rfl).keep ((Kp.drew _).trans (unhide J7)); have TB := hide tb; obtain ⟨s0, s1, s2, s3, s4⟩ := tb.o; clear tb)
              | skip))
            all_goals (go_wp2_with fail; go_meet)
            all_goals exact ⟨_, _, _, _, _, _, _, rfl, rfl, by
              obtain ⟨g1, g2, g3, g4⟩ := unhide FF7
              first
              | exact ⟨Bx.made _ _ _, g1, g2.keep (Kp.alloc _ _), g3.keep (Kp.alloc _ _), g4, (unhide K7).trans (Kp.alloc _ _)⟩
              | exact ⟨(unhide TB).set _ _, g1, g2.setBx9 (unhide TB) _ _, g3.setBx9 (unhide TB) _ _, g4, ((unhide K7).set (i := 0) (Nat.le_refl _) _).set (i := 1) (Nat.le_refl _) _⟩⟩
        case rest =>
          obtain ⟨B2, r1', q1', r2', q2', ls', es, rfl, rfl, CUT⟩ := hcut
          generalize wc = w9 at *
          obtain ⟨b1, b2, b3, b4, b5, b6⟩ := unhide CUT
          have HSM := hide (sameT_cn9 (s := S) ((unhide HC).trans b5.symm))
          have I9 := hide ((unhide I8).keep b6)
          have F9 := hide ((unhide F8).keep b6)
          have J9 := hide b3
          have G9 := hide b4
          have K9 := hide ((unhide K5).trans ((unhide KB).trans b6))
          obtain ⟨v0, v1, -, -, -⟩ := ((unhide Y8).keep b6).o
          obtain ⟨u0', u1', -, -, -⟩ := b1.o
          have heq : (E == E) = true := by simp
          clear b1 b2 b3 b4 b5 b6 CUT x0 x1 x4
          go_wp2_with fail
          refine (rsameT_any _ _ _ _ S ds S es w9 (unhide I9) (unhide F9) (unhide J9) (unhide G9)).mono ?_
          rw [unhide HSM]
          rintro e w10 ⟨rfl, k10⟩
          have K10 := hide ((unhide K9).trans k10)
          clear k10 v0 v1 u0' u1'
          go_wp2
          go_ret
          exact ⟨rfl, unhide K10⟩
      · have he1 := ho_first (unhide HMH) (unhide HMT) k he0
        rw [(unhide HQ).2.1] at he1
        have K8 := hide ((unhide K5).trans (unhide CUT).2.2.2.2.2)
        have hne : (hoE (hs.take k) s d != 0) = true := by simpa using he0
        have heq : (E == hoE (hs.take k) s d) = true := by rw [he1]; simp
        clear he0 he1
        generalize hoE (hs.take k) s d = E1 at *
        go_wp2
        go_ret
        exact ⟨rfl, unhide K8⟩
  · have hsm := eq_false_of_ne_true hsm
    rw [hsm]
    go_wp2
    go_ret
    exact ⟨rfl, unhide K2⟩

end Go.Proofs.Ytlfjclnocbohbaa
