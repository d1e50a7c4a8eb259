
/- The law TensorHands, walked. -/
import Derived.Test.YtehlkbgjaegpjaaLawTD
import Derived.Test.YtehlkbgjaegpjaaStepB
namespace Go.Proofs.Ytehlkbgjaegpjaa
open Go.RowKit
set_option linter.unusedVariables false
set_option linter.unusedSimpArgs false

theorem sT {w w' : World} {B : Nat} {x y : Value} (h : Bx w B x y) (k : Kp w w') : w'.cell? ⟨B, 0, none⟩ = some x ∧ w'.cell? ⟨B, 1, none⟩ = some y := ⟨(h.keep k).c0, (h.keep k).c1⟩
theorem kp0_of {w0 w w' : World} (h : Hid (Left w0 w w')) : Kp w0 w' := (unhide h).kp0
theorem kp_of' {w0 w w' : World} (h : Hid (Left w0 w w')) : Kp w w' := (unhide h).kp
theorem comp_cell {w0 wa wb wc wd : World} (L : Left w0 wa wb) (k : Kp wb wc) (L' : Left w0 wc wd) : (∀ p : Addr, p.block < wa.heap.size → wd.cell? p = wa.cell? p) ∧ (∀ p : Addr, p.block < wa.heap.size → wd.frozen? p = wa.frozen? p) := by
  have K := L.kp.trans (k.trans L'.kp)
  exact ⟨fun p hp => Below.cell K hp, fun p hp => by unfold World.frozen?; rw [K.block p.block hp]⟩
theorem nb {w0 w w' : World} (L : Left w0 w w') {q : Nat} (h : q < w0.heap.size) : ¬ q = w'.heap.size ∧ ¬ q = w'.heap.size + 1 ∧ ¬ w'.heap.size = q ∧ ¬ w'.heap.size + 1 = q := by
  have := L.kp0.size
  omega
theorem nb0 {w0 : World} {q : Nat} (h : q < w0.heap.size) : ¬ q = w0.heap.size ∧ ¬ q = w0.heap.size + 1 ∧ ¬ q = w0.heap.size + 2 ∧ ¬ w0.heap.size = q ∧ ¬ w0.heap.size + 1 = q ∧ ¬ w0.heap.size + 2 = q := by
  omega

/-- a copy has been laid -/
structure Was (w0 wx : World) (s : List Int) (d : List Nat) (B : Nat) (u v : Value) : Prop where
  bx : Bx wx B u v
  r : Rw wx 3 u s
  o : OwnF wx 23 0 v d
  kp : Kp w0 wx

theorem Kp.keep {a b c : World} (h : Kp a b) (k : Kp b c) : Kp a c := h.trans k

/-- block G holds c things of type e; which, is not said -/
def Blck (w : World) (e : TypeId) (G c : Nat) : Prop := ∃ cur : Array Value, w.heap[G]? = some (.cells cur e) ∧ cur.size = c
theorem Blck.lt {w : World} {e : TypeId} {G c : Nat} (h : Blck w e G c) : G < w.heap.size := by
  obtain ⟨cur, h, _⟩ := h
  exact (Array.getElem?_eq_some_iff.1 h).1
theorem Blck.keep {w w' : World} {e : TypeId} {G c : Nat} (h : Blck w e G c) (k : Kp w w') : Blck w' e G c := by
  have hl := h.lt
  obtain ⟨cur, h, h'⟩ := h
  exact ⟨cur, by rw [k.block G hl]; exact h, h'⟩
theorem Blck.set {w : World} {e : TypeId} {G c : Nat} (h : Blck w e G c) (B i : Nat) (v : Value) : Blck (w.setCell ⟨B, i, none⟩ v) e G c := by
  obtain ⟨cur, h, h'⟩ := h
  by_cases e1 : G = B
  · subst e1
    exact ⟨cur.setIfInBounds i v, by simp [World.setCell, Array.getElem?_modify, h], by simpa using h'⟩
  · exact ⟨cur, (Below.heap_setCell w ⟨B, i, none⟩ v G e1).trans h, h'⟩
theorem Blck.cell {w : World} {e : TypeId} {G c : Nat} (h : Blck w e G c) {i : Nat} (hi : i < c) : ∃ v, w.cell? ⟨G, i, none⟩ = some v := by
  obtain ⟨cur, h, rfl⟩ := h
  exact ⟨cur[i], by simp [World.cell?, h, hi]⟩
theorem Blck.frozen {w : World} {e : TypeId} {G c : Nat} (h : Blck w e G c) (i : Nat) : w.frozen? ⟨G, i, none⟩ = false := by
  obtain ⟨cur, h, _⟩ := h
  simp [World.frozen?, h]
theorem Blck.ne {w : World} {e : TypeId} {G c B : Nat} {x y : Value} (h : Blck w e G c) (hb : Bx w B x y) (he : e ≠ 27) : ¬ B = G := by
  intro e1
  subst e1
  obtain ⟨cur, hh, _⟩ := h
  unfold Bx at hb
  rw [hh] at hb
  injection hb with e2
  injection e2 with _ e3
  exact he e3
theorem OwnG.blck {w : World} {e : TypeId} {G n c : Nat} {xs : List Nat} (h : OwnG w e G n c xs) : Blck w e G c := by
  obtain ⟨_, _, cur, h1, h2, _⟩ := h
  exact ⟨cur, h1, h2⟩
theorem Bx.setBlck {w : World} {e : TypeId} {G c B : Nat} {x y : Value} (h : Bx w B x y) (hg : Blck w e G c) (he : e ≠ 27) (i : Nat) (v : Value) : Bx (w.setCell ⟨G, i, none⟩ v) B x y :=
  (Below.heap_setCell w ⟨G, i, none⟩ v B (hg.ne h he)).trans h

/-- a row of n things in a block between lo and what is there, if it has any -/
def RowZ (w : World) (e : TypeId) (lo : Nat) (a : Option Addr) (n c : Nat) : Prop := 0 < n → ∃ g, a = some ⟨g, 0, none⟩ ∧ lo ≤ g ∧ n ≤ c ∧ Blck w e g c
theorem RowZ.keep {w w' : World} {e : TypeId} {lo n c : Nat} {a : Option Addr} (h : RowZ w e lo a n c) (k : Kp w w') : RowZ w' e lo a n c := fun hp => by
  obtain ⟨g, h1, h2, h3, h4⟩ := h hp
  exact ⟨g, h1, h2, h3, h4.keep k⟩
theorem RowZ.set {w : World} {e : TypeId} {lo n c : Nat} {a : Option Addr} (h : RowZ w e lo a n c) (B i : Nat) (v : Value) : RowZ (w.setCell ⟨B, i, none⟩ v) e lo a n c := fun hp => by
  obtain ⟨g, h1, h2, h3, h4⟩ := h hp
  exact ⟨g, h1, h2, h3, h4.set B i v⟩
theorem RowZ.hi {w : World} {e : TypeId} {lo n c : Nat} {a : Option Addr} (h : RowZ w e lo a n c) : 0 < n → ∀ g, a = some ⟨g, 0, none⟩ → g < w.heap.size := by
  intro hp g hg
  obtain ⟨g', h1, h2, h3, h4⟩ := h hp
  rw [h1] at hg
  cases hg
  exact h4.lt
theorem Own.rowZ {w : World} {e : TypeId} {base n c : Nat} {a : Option Addr} {xs : List Int} (h : Own w e base (.slice a n c) xs) : n = xs.length ∧ RowZ w e base a xs.length c := by
  obtain ⟨h0, ⟨h1, h2⟩ | ⟨g, cap, cur, h1, hg, hh, h3, h4, h5, h6⟩⟩ := h
  · cases h1
    exact ⟨h2.symm, fun hp => by omega⟩
  · cases h1
    exact ⟨rfl, fun _ => ⟨g, rfl, hg, h3, cur, hh, by simpa using h5⟩⟩

/-- what is handed out, and may be written into -/
structure Hnd (w0 wr : World) (BA BM : Nat) (a1 a2 : Option Addr) (n c1 c2 lo1 lo2 G G2 m cc cc2 : Nat) : Prop where
  kp : Kp w0 wr
  ba : Bx wr BA (.slice a1 n c1) (.slice (some ⟨G, 0, none⟩) m cc)
  bm : Bx wr BM (.slice a2 n c2) (.slice (some ⟨G2, 0, none⟩) m cc2)
  ga : Blck wr 23 G cc
  gm : Blck wr 23 G2 cc2
  ra : RowZ wr 3 lo1 a1 n c1
  rm : RowZ wr 3 lo2 a2 n c2
theorem Hnd.set {w0 wr : World} {BA BM : Nat} {a1 a2 : Option Addr} {n c1 c2 lo1 lo2 G G2 m cc cc2 : Nat} (h : Hnd w0 wr BA BM a1 a2 n c1 c2 lo1 lo2 G G2 m cc cc2) {e : TypeId} {g c : Nat} (hg : Blck wr e g c) (he : e ≠ 27) (hl : w0.heap.size ≤ g) (i : Nat) (v : Value) :
    Hnd w0 (wr.setCell ⟨g, i, none⟩ v) BA BM a1 a2 n c1 c2 lo1 lo2 G G2 m cc cc2 :=
  ⟨h.kp.set hl v, h.ba.setBlck hg he i v, h.bm.setBlck hg he i v, h.ga.set g i v, h.gm.set g i v, h.ra.set g i v, h.rm.set g i v⟩
theorem Hnd.drew {w0 wr : World} {BA BM : Nat} {a1 a2 : Option Addr} {n c1 c2 lo1 lo2 G G2 m cc cc2 : Nat} (h : Hnd w0 wr BA BM a1 a2 n c1 c2 lo1 lo2 G G2 m cc cc2) : Hnd w0 wr.drew BA BM a1 a2 n c1 c2 lo1 lo2 G G2 m cc cc2 :=
  ⟨h.kp.trans (Kp.drew _), h.ba.keep (Kp.drew _), h.bm.keep (Kp.drew _), h.ga.keep (Kp.drew _), h.gm.keep (Kp.drew _), h.ra.keep (Kp.drew _), h.rm.keep (Kp.drew _)⟩

theorem was_new {w0 wR : World} {s : List Int} {d : List Nat} {u v : Value} (r : Rw wR 3 u s) (o : OwnF wR 23 0 v d) (k : Kp w0 wR) : Was w0 (wR.alloc (.cells #[u, v] 27)) s d wR.heap.size u v :=
  ⟨Bx.made wR u v, r.keep (Kp.alloc _ _), o.keep (Kp.alloc _ _), k.trans (Kp.alloc _ _)⟩
theorem was_set {w0 wR : World} {s : List Int} {d : List Nat} {u v x y : Value} {B : Nat} (hb : Bx wR B x y) (hB : w0.heap.size ≤ B) (r : Rw wR 3 u s) (o : OwnF wR 23 0 v d) (k : Kp w0 wR) : Was w0 ((wR.setCell ⟨B, 0, none⟩ u).setCell ⟨B, 1, none⟩ v) s d B u v :=
  ⟨hb.set u v, r.setBx hb (by decide) u v, o.setBx hb (by decide) u v, (k.set hB (i := 0) u).set hB (i := 1) v⟩
theorem bx_via {X w' : World} {B : Nat} (k : Kp (X.alloc (.cells #[.slice none 0 0, .slice none 0 0] 27)) w') (hB : B = X.heap.size) : Bx w' B (.slice none 0 0) (.slice none 0 0) := by
  subst hB
  exact (Bx.made X _ _).keep k

set_option maxHeartbeats 4000000 in
theorem hands_yes (p p' : Option Addr) (c c' x : Nat) (s : List Int) (d : List Nat) (w : World) (ms : s.length ≤ 9223372036854775807) (md : d.length ≤ 9223372036854775807)
    (S_0 : Hid (Ints w (.slice p s.length c) s)) (D_0 : Hid (Flts w (.slice p' d.length c') d)) (BS : Hid (s.length ≤ 40)) (BD : Hid (d.length ≤ 8192))
    (GT : Hid ((decide (s.length ≤ 40) && decide (d.length ≤ 8192)) = true)) (HM : Hid (mayT s d = true)) :
    Calls Try.prog 7 #[.agg #[.slice p s.length c, .slice p' d.length c'], .float .f64 x] w fun e w' => e = .returned (.bool true) ∧ Kp w w' := by
    have hst : ∀ (a : Addr) (x : Nat) (w : World), (store a (.float .f64 x)).run Try.prog w = stored Try.prog w a (.float .f64 x) .plain := fun a x w => run_store _ w a _ _ rfl
    have HP := hide (mayT_pos (unhide HM))
    have WS := hide (unhide S_0).wf
    have WD := hide (unhide D_0).wf
    go_enter Try.func7, Try.ntmps7
    go_wp2_with fail
    have T_1 := hide (Bx.madeAt w (.slice p s.length c) (.slice p' d.length c') (w.heap.size) rfl)
    have q1 := Kp.alloc w (.cells #[(.slice p s.length c), (.slice p' d.length c')] 27)
    generalize (w.alloc (.cells #[(.slice p s.length c), (.slice p' d.length c')] 27)) = w1 at *
    have K1 := hide q1
    have S_1 := hide ((unhide S_0).keep q1)
    have D_1 := hide ((unhide D_0).keep q1)
    clear S_0 D_0
    clear q1
    generalize w.heap.size = B_T at *
    obtain ⟨T0_1, T1_1, -, -, T4_1⟩ := (unhide T_1).o
    refine (awake3_any w1).mono ?_
    rintro e w2 ⟨rfl, k2⟩
    have K2 := hide ((unhide K1).trans k2)
    have S_2 := hide ((unhide S_1).keep k2)
    have D_2 := hide ((unhide D_1).keep k2)
    have T_2 := hide ((unhide T_1).keep k2)
    clear K1 S_1 D_1 T_1 T0_1 T1_1 T4_1
    obtain ⟨T0_2, T1_2, -, -, T4_2⟩ := (unhide T_2).o
    clear k2
    go_wp2_with fail
    refine (small_any p p' s.length c d.length c' w2 ms md).mono ?_
    rw [unhide GT]
    rintro e w3 ⟨rfl, k3⟩
    have K3 := hide ((unhide K2).trans k3)
    have S_3 := hide ((unhide S_2).keep k3)
    have D_3 := hide ((unhide D_2).keep k3)
    have T_3 := hide ((unhide T_2).keep k3)
    clear K2 S_2 D_2 T_2 T0_2 T1_2 T4_2
    obtain ⟨T0_3, T1_3, -, -, T4_3⟩ := (unhide T_3).o
    clear k3
    go_wp2_with fail
    refine (rmayT_any _ _ s d w3 (unhide S_3) (unhide D_3)).mono ?_
    rw [unhide HM]
    rintro e w4 ⟨rfl, k4⟩
    have K4 := hide ((unhide K3).trans k4)
    have S_4 := hide ((unhide S_3).keep k4)
    have D_4 := hide ((unhide D_3).keep k4)
    have T_4 := hide ((unhide T_3).keep k4)
    clear K3 S_3 D_3 T_3 T0_3 T1_3 T4_3
    obtain ⟨T0_4, T1_4, -, -, T4_4⟩ := (unhide T_4).o
    clear k4
    go_upto_region 5 with fail
    go_cut [5] (fun q wx => ∃ B b n e b' n' e', q = .pointer (some ⟨B, 0, none⟩) ∧ Hid (Was w4 wx s d B (.slice b n e) (.slice b' n' e')))
    case first =>
      obtain ⟨x1, x2, x3, x4, x5, x6⟩ := nb0 T4_4
      go_region_held_law (fun w' => w'.cell? ⟨B_T, 0, none⟩ = some (.slice p s.length c) ∧ w'.cell? ⟨B_T, 1, none⟩ = some (.slice p' d.length c')) (first | (go_keep; done) | (refine sT (unhide T_4) ?_; repeat (first | exact Kp.refl _ | exact kp0_of (by assumption) | refine Kp.trans ?_ (Kp.alloc _ _) | refine Kp.trans ?_ (Kp.drew _))))
        (first
          | (refine step_lit_ints rfl (.tmp 21) (.tmp 23) 22 rfl 3 Try.infoInt Try.underlying22 _ (.slice p s.length c) s (by simp only [Act.eval, Act.put, List.setIfInBounds_toArray, List.set_cons_zero, List.set_cons_succ]; rfl) (by simp only [Act.eval, Act.put, List.setIfInBounds_toArray, List.set_cons_zero, List.set_cons_succ]; rfl) w4 (by repeat (first | exact Kp.refl _ | refine Kp.trans ?_ (Kp.alloc _ _) | refine Kp.trans ?_ (Kp.drew _))) (unhide S_4) (by have := unhide BS; omega) ?_; intro b1 n1 e1 wP R1 L1 f1 f2 f3 f4 f5 f6 f7; obtain ⟨y1, y2, y3, y4⟩ := nb (unhide L1) T4_4)
          | (refine step_lit_flts rfl (.tmp 25) (.tmp 27) 24 rfl 23 Try.infoFlt Try.underlying24 _ (.slice p' d.length c') d (by simp only [Act.eval, Act.put, List.setIfInBounds_toArray, List.set_cons_zero, List.set_cons_succ]; rfl) (by simp only [Act.eval, Act.put, List.setIfInBounds_toArray, List.set_cons_zero, List.set_cons_succ]; rfl) w4 (by repeat (first | exact Kp.refl _ | exact (unhide L1).kp0 | refine Kp.trans ?_ (Kp.alloc _ _) | refine Kp.trans ?_ (Kp.drew _))) (unhide D_4) (by have := unhide BD; omega) (unhide HP) ?_; intro b2 n2 e2 wR R2 L2 g1 g2 g3 g4 g5 g6 g7; obtain ⟨z1, z2, z3, z4⟩ := nb (unhide L2) T4_4; obtain ⟨z5, z6⟩ := comp_cell (unhide L1) (by repeat (first | exact Kp.refl _ | refine Kp.trans ?_ (Kp.alloc _ _))) (unhide L2)))
      all_goals (go_wp2_with fail; go_meet)
      all_goals (
        have kPR : Kp wP wR := Kp.trans (by repeat (first | exact Kp.refl _ | refine Kp.trans ?_ (Kp.alloc _ _))) (unhide L2).kp
        have r1 := (unhide R1).keep kPR
        first
        | exact ⟨_, _, _, _, _, _, _, rfl, was_new r1 (unhide R2) (unhide L2).kp0⟩
        | exact ⟨_, _, _, _, _, _, _, rfl, was_set (bx_via (by
            refine Kp.trans ?_ (unhide L2).kp
            repeat (first | exact Kp.refl _ | refine Kp.trans ?_ (Kp.alloc _ _) | refine Kp.trans ?_ (unhide L1).kp | refine Kp.trans ?_ (Kp.drew _))) (by simp)) (by have := (unhide L1).kp0.size; omega) r1 (unhide R2) (unhide L2).kp0⟩)
    case rest =>
      obtain ⟨B5, b, n, e, b', n', e', rfl, L⟩ := hcut
      obtain ⟨w20, rfl⟩ : ∃ w20, w20 = wc := ⟨_, rfl⟩
      have K20 := hide ((unhide K4).trans (unhide L).kp)
      have S_20 := hide ((unhide S_4).keep (unhide L).kp)
      have D_20 := hide ((unhide D_4).keep (unhide L).kp)
      have P_20 := hide ((unhide L).r.ints (unhide WS) (by have := unhide BS; omega))
      have E_20 := hide ((unhide L).o.flts (unhide WD) (by have := unhide BD; omega))
      have T_20 := hide ((unhide T_4).keep (unhide L).kp)
      have V_20 := hide (unhide L).bx
      clear L K4 S_4 D_4 T_4 T0_4 T1_4 T4_4
      obtain ⟨T0_20, T1_20, -, -, T4_20⟩ := (unhide T_20).o
      obtain ⟨V0_20, V1_20, -, -, V4_20⟩ := (unhide V_20).o
      have KK_20 := hide (Kp.refl w20)
      have T_20' := T_20
      have V_20' := V_20
      have S_20' := S_20
      have D_20' := D_20
      have P_20' := P_20
      have E_20' := E_20
      have K_20' := K20
      go_wp2_with fail
      refine (of_yes _ _ s d w20 (unhide S_20) (unhide D_20) (unhide HM)).mono ?_
      rintro e w21 ⟨a1, m1, c1, G, cc, rfl, o1, hG, og, k21⟩
      have K21 := hide ((unhide K20).trans k21)
      have S_21 := hide ((unhide S_20).keep k21)
      have D_21 := hide ((unhide D_20).keep k21)
      have P_21 := hide ((unhide P_20).keep k21)
      have E_21 := hide ((unhide E_20).keep k21)
      have KK_21 := hide ((unhide KK_20).keep k21)
      have T_21 := hide ((unhide T_20).keep k21)
      have V_21 := hide ((unhide V_20).keep k21)
      clear K20 S_20 D_20 P_20 E_20 KK_20 T_20 T0_20 T1_20 T4_20 V_20 V0_20 V1_20 V4_20
      obtain ⟨T0_21, T1_21, -, -, T4_21⟩ := (unhide T_21).o
      obtain ⟨V0_21, V1_21, -, -, V4_21⟩ := (unhide V_21).o
      clear k21
      obtain ⟨rfl, ra⟩ := o1.rowZ
      have RA_21 := hide ra
      have GA_21 := hide og.blck
      have HC := hide og.room.1
      have HG := hide hG
      clear o1 hG og ra
      go_wp2_with fail
      have A_22 := hide (Bx.madeAt w21 (.slice a1 s.length c1) (.slice (some ⟨G, 0, none⟩) d.length cc) (w21.heap.size) rfl)
      have q22 := Kp.alloc w21 (.cells #[(.slice a1 s.length c1), (.slice (some ⟨G, 0, none⟩) d.length cc)] 27)
      generalize (w21.alloc (.cells #[(.slice a1 s.length c1), (.slice (some ⟨G, 0, none⟩) d.length cc)] 27)) = w22 at *
      have K22 := hide ((unhide K21).trans q22)
      have S_22 := hide ((unhide S_21).keep q22)
      have D_22 := hide ((unhide D_21).keep q22)
      have P_22 := hide ((unhide P_21).keep q22)
      have E_22 := hide ((unhide E_21).keep q22)
      have KK_22 := hide ((unhide KK_21).keep q22)
      have RA_22 := hide ((unhide RA_21).keep q22)
      have GA_22 := hide ((unhide GA_21).keep q22)
      have T_22 := hide ((unhide T_21).keep q22)
      have V_22 := hide ((unhide V_21).keep q22)
      clear K21 S_21 D_21 P_21 E_21 KK_21 RA_21 GA_21 T_21 T0_21 T1_21 T4_21 V_21 V0_21 V1_21 V4_21
      obtain ⟨T0_22, T1_22, -, -, T4_22⟩ := (unhide T_22).o
      obtain ⟨V0_22, V1_22, -, -, V4_22⟩ := (unhide V_22).o
      clear q22
      generalize w21.heap.size = B_A at *
      obtain ⟨A0_22, A1_22, -, -, A4_22⟩ := (unhide A_22).o
      have LA := hide (unhide GA_22).lt
      have LR := hide (unhide RA_22).hi
      have KK_22' := hide (unhide KK_22)
      refine (map_yes 20 #[] (fun x r => r = absN x) _ _ s d w22 (unhide S_22) (unhide D_22) (unhide HM) Try.call20 abs_map).mono ?_
      rintro e w23 ⟨a2, m2, c2, G2, cc2, ds, rfl, o2, hG2, og2, hw2, hq2, k23⟩
      have K23 := hide ((unhide K22).trans k23)
      have S_23 := hide ((unhide S_22).keep k23)
      have D_23 := hide ((unhide D_22).keep k23)
      have P_23 := hide ((unhide P_22).keep k23)
      have E_23 := hide ((unhide E_22).keep k23)
      have KK_23 := hide ((unhide KK_22).keep k23)
      have RA_23 := hide ((unhide RA_22).keep k23)
      have GA_23 := hide ((unhide GA_22).keep k23)
      have T_23 := hide ((unhide T_22).keep k23)
      have V_23 := hide ((unhide V_22).keep k23)
      have A_23 := hide ((unhide A_22).keep k23)
      clear K22 S_22 D_22 P_22 E_22 KK_22 RA_22 GA_22 T_22 T0_22 T1_22 T4_22 V_22 V0_22 V1_22 V4_22 A_22 A0_22 A1_22 A4_22
      obtain ⟨T0_23, T1_23, -, -, T4_23⟩ := (unhide T_23).o
      obtain ⟨V0_23, V1_23, -, -, V4_23⟩ := (unhide V_23).o
      obtain ⟨A0_23, A1_23, -, -, A4_23⟩ := (unhide A_23).o
      clear k23
      obtain ⟨rfl, rm⟩ := o2.rowZ
      have RM_23 := hide rm
      have GM_23 := hide og2.blck
      have HC2 := hide og2.room.1
      have HG2 := hide hG2
      have LG : Hid (G < w22.heap.size) := unhide LA
      clear o2 hG2 og2 hw2 hq2 rm
      go_upto_region 8 with fail
      have M_24 := hide (Bx.madeAt w23 (.slice a2 s.length c2) (.slice (some ⟨G2, 0, none⟩) d.length cc2) (w23.heap.size) rfl)
      have q24 := Kp.alloc w23 (.cells #[(.slice a2 s.length c2), (.slice (some ⟨G2, 0, none⟩) d.length cc2)] 27)
      generalize (w23.alloc (.cells #[(.slice a2 s.length c2), (.slice (some ⟨G2, 0, none⟩) d.length cc2)] 27)) = w24 at *
      have K24 := hide ((unhide K23).trans q24)
      have S_24 := hide ((unhide S_23).keep q24)
      have D_24 := hide ((unhide D_23).keep q24)
      have P_24 := hide ((unhide P_23).keep q24)
      have E_24 := hide ((unhide E_23).keep q24)
      have KK_24 := hide ((unhide KK_23).keep q24)
      have RA_24 := hide ((unhide RA_23).keep q24)
      have GA_24 := hide ((unhide GA_23).keep q24)
      have RM_24 := hide ((unhide RM_23).keep q24)
      have GM_24 := hide ((unhide GM_23).keep q24)
      have T_24 := hide ((unhide T_23).keep q24)
      have V_24 := hide ((unhide V_23).keep q24)
      have A_24 := hide ((unhide A_23).keep q24)
      clear K23 S_23 D_23 P_23 E_23 KK_23 RA_23 GA_23 RM_23 GM_23 T_23 T0_23 T1_23 T4_23 V_23 V0_23 V1_23 V4_23 A_23 A0_23 A1_23 A4_23
      obtain ⟨T0_24, T1_24, -, -, T4_24⟩ := (unhide T_24).o
      obtain ⟨V0_24, V1_24, -, -, V4_24⟩ := (unhide V_24).o
      obtain ⟨A0_24, A1_24, -, -, A4_24⟩ := (unhide A_24).o
      clear q24
      generalize w23.heap.size = B_M at *
      obtain ⟨M0_24, M1_24, -, -, M4_24⟩ := (unhide M_24).o
      have HD0 : Hid (Hnd w20 w24 B_A B_M a1 a2 s.length c1 c2 w20.heap.size w22.heap.size G G2 d.length cc cc2) :=
        ⟨unhide KK_24, unhide A_24, unhide M_24, unhide GA_24, unhide GM_24, unhide RA_24, unhide RM_24⟩
      have hGG : ¬ G = G2 := by have := unhide LG; have := unhide HG2; omega
      have hGG' : ¬ G2 = G := fun h => hGG h.symm
      have HG2' : Hid (w20.heap.size ≤ G2) := hide (by have := (unhide KK_22').size; have := unhide HG2; omega)
      clear T0_24 T1_24 T4_24 V0_24 V1_24 V4_24 A0_24 A1_24 A4_24 M0_24 M1_24 M4_24 GA_24 GM_24 RA_24 RM_24 A_24 M_24
      go_wp2
      go_loopw [9] (fun i wr => ∃ j : Nat, j ≤ d.length ∧ i = .int .i64 j ∧ Hid (Hnd w20 wr B_A B_M a1 a2 s.length c1 c2 w20.heap.size w22.heap.size G G2 d.length cc cc2)) (fun i _ => d.length - (intOf i).toNat)
      case atStart => exact ⟨0, Nat.zero_le _, rfl, unhide HD0⟩
      case round wr =>
        obtain ⟨j, hj, rfl, HR⟩ := hrel
        obtain ⟨p0, p1, -, -, p4⟩ := (unhide HR).ba.o
        obtain ⟨q0, q1, -, -, q4⟩ := (unhide HR).bm.o
        by_cases hlt : j < d.length
        · obtain ⟨v1, hv1⟩ := (unhide HR).ga.cell (show j < cc by have := unhide HC; omega)
          obtain ⟨v2, hv2⟩ := (unhide HR).gm.cell (show j < cc2 by have := unhide HC2; omega)
          have hz1 := (unhide HR).ga.frozen j
          have hz2 := (unhide HR).gm.frozen j
          have hjd : (j : Int) < (d.length : Int) := by omega
          have t1 := (unhide HR).ga.ne (unhide HR).ba (by decide)
          have t2 := (unhide HR).ga.ne (unhide HR).bm (by decide)
          have t3 := (unhide HR).gm.ne (unhide HR).ba (by decide)
          have t4 := (unhide HR).gm.ne (unhide HR).bm (by decide)
          have t5 : ¬ G = B_A := fun h => t1 h.symm
          have t6 : ¬ G = B_M := fun h => t2 h.symm
          have t7 : ¬ G2 = B_A := fun h => t3 h.symm
          have t8 : ¬ G2 = B_M := fun h => t4 h.symm
          go_wp2
          go_region
          have HR' := hide ((((unhide HR).set (unhide HR).ga (by decide) (unhide HG) j (.float .f64 x)).set ((unhide HR).gm.set G j (.float .f64 x)) (by decide) (unhide HG2') j (.float .f64 x)).drew)
          clear p0 p1 p4 q0 q1 q4 hv1 hv2 hz1 hz2 t1 t2 t3 t4 t5 t6 t7 t8
          generalize ((wr.setCell ⟨G, j, none⟩ (.float .f64 x)).setCell ⟨G2, j, none⟩ (.float .f64 x)).drew = wn at *
          go_wp2
          go_roundw
          case rel => exact ⟨j + 1, by omega, by go_num, unhide HR'⟩
          case measure => simp [intOf]; omega
        · clear HD0
          go_wp2
          clear p0 p1 p4 q0 q1 q4
          go_loopw [10] (fun i wr => ∃ j : Nat, j ≤ s.length ∧ i = .int .i64 j ∧ Hid (Hnd w20 wr B_A B_M a1 a2 s.length c1 c2 w20.heap.size w22.heap.size G G2 d.length cc cc2)) (fun i _ => s.length - (intOf i).toNat)
          case atStart => exact ⟨0, Nat.zero_le _, rfl, unhide HR⟩
          case round =>
            obtain ⟨k, hk, rfl, HZ⟩ := hrel
            obtain ⟨p0, p1, -, -, p4⟩ := (unhide HZ).ba.o
            obtain ⟨q0, q1, -, -, q4⟩ := (unhide HZ).bm.o
            by_cases hlk : k < s.length
            · obtain ⟨g1, ha1, hg1, hc1, bl1⟩ := (unhide HZ).ra (by omega)
              obtain ⟨g2, ha2, hg2, hc2, bl2⟩ := (unhide HZ).rm (by omega)
              have hg3 := (unhide LR) (by omega) g1 ha1
              subst ha1 ha2
              obtain ⟨v1, hv1⟩ := bl1.cell (show k < c1 by omega)
              obtain ⟨v2, hv2⟩ := bl2.cell (show k < c2 by omega)
              have hz1 := bl1.frozen k
              have hz2 := bl2.frozen k
              have hks : (k : Int) < (s.length : Int) := by omega
              have t1 := bl1.ne (unhide HZ).ba (by decide)
              have t2 := bl1.ne (unhide HZ).bm (by decide)
              have t3 := bl2.ne (unhide HZ).ba (by decide)
              have t4 := bl2.ne (unhide HZ).bm (by decide)
              have t5 : ¬ g1 = B_A := fun h => t1 h.symm
              have t6 : ¬ g1 = B_M := fun h => t2 h.symm
              have t7 : ¬ g2 = B_A := fun h => t3 h.symm
              have t8 : ¬ g2 = B_M := fun h => t4 h.symm
              have t9 : ¬ g1 = g2 := by omega
              have t0 : ¬ g2 = g1 := by omega
              have HZ' := hide ((((unhide HZ).set bl1 (by decide) hg1 k (.int .i64 77)).set (bl2.set g1 k (.int .i64 77)) (by decide) (Nat.le_trans (unhide KK_22').size hg2) k (.int .i64 77)).drew)
              clear bl1 bl2
              go_wp2
              go_region
              clear p0 p1 p4 q0 q1 q4 hv1 hv2 hz1 hz2 t1 t2 t3 t4 t5 t6 t7 t8
              generalize ((wr.setCell ⟨g1, k, none⟩ (.int .i64 77)).setCell ⟨g2, k, none⟩ (.int .i64 77)).drew = wn at *
              go_wp2
              go_roundw
              case rel => exact ⟨k + 1, by omega, by go_num, unhide HZ'⟩
              case measure => simp [intOf]; omega
            · have kf := (unhide HZ).kp
              obtain ⟨T0, T1, -, -, T4⟩ := ((unhide T_20').keep kf).o
              obtain ⟨V0, V1, -, -, V4⟩ := ((unhide V_20').keep kf).o
              have S_f := hide ((unhide S_20').keep kf)
              have D_f := hide ((unhide D_20').keep kf)
              have P_f := hide ((unhide P_20').keep kf)
              have E_f := hide ((unhide E_20').keep kf)
              have K_f := hide ((unhide K_20').trans kf)
              clear kf
              go_wp2_with fail
              refine (rsameT_any _ _ _ _ s d s d wr (unhide S_f) (unhide D_f) (unhide P_f) (unhide E_f)).mono ?_
              rw [sameT_refl]
              rintro e wy ⟨rfl, ky⟩
              have K_y := hide ((unhide K_f).trans ky)
              clear ky
              go_wp2
              go_ret
              exact ⟨rfl, unhide K_y⟩

set_option maxHeartbeats 1000000 in
theorem hands_e1 (p p' : Option Addr) (c c' x : Nat) (s : List Int) (d : List Nat) (w : World) (ms : s.length ≤ 9223372036854775807) (md : d.length ≤ 9223372036854775807) (GT : Hid ((decide (s.length ≤ 40) && decide (d.length ≤ 8192)) = false)) :
    Calls Try.prog 7 #[.agg #[.slice p s.length c, .slice p' d.length c'], .float .f64 x] w fun e w' => e = .returned (.bool true) ∧ Kp w w' := by
    go_enter Try.func7, Try.ntmps7
    go_wp2_with fail
    have T_1 := hide (Bx.madeAt w (.slice p s.length c) (.slice p' d.length c') (w.heap.size) rfl)
    have q1 := Kp.alloc w (.cells #[(.slice p s.length c), (.slice p' d.length c')] 27)
    generalize (w.alloc (.cells #[(.slice p s.length c), (.slice p' d.length c')] 27)) = w1 at *
    have K1 := hide q1
    clear q1
    generalize w.heap.size = B_T at *
    obtain ⟨T0_1, T1_1, -, -, T4_1⟩ := (unhide T_1).o
    refine (awake3_any w1).mono ?_
    rintro e w2 ⟨rfl, k2⟩
    have K2 := hide ((unhide K1).trans k2)
    have T_2 := hide ((unhide T_1).keep k2)
    clear K1 T_1 T0_1 T1_1 T4_1
    obtain ⟨T0_2, T1_2, -, -, T4_2⟩ := (unhide T_2).o
    clear k2
    go_wp2_with fail
    refine (small_any p p' s.length c d.length c' w2 ms md).mono ?_
    rw [unhide GT]
    rintro e w3 ⟨rfl, k3⟩
    have K3 := hide ((unhide K2).trans k3)
    have T_3 := hide ((unhide T_2).keep k3)
    clear K2 T_2 T0_2 T1_2 T4_2
    obtain ⟨T0_3, T1_3, -, -, T4_3⟩ := (unhide T_3).o
    clear k3
    go_wp2
    go_ret
    exact ⟨rfl, unhide K3⟩

set_option maxHeartbeats 1000000 in
theorem hands_e2 (p p' : Option Addr) (c c' x : Nat) (s : List Int) (d : List Nat) (w : World) (ms : s.length ≤ 9223372036854775807) (md : d.length ≤ 9223372036854775807) (S_0 : Hid (Ints w (.slice p s.length c) s)) (D_0 : Hid (Flts w (.slice p' d.length c') d))
    (GT : Hid ((decide (s.length ≤ 40) && decide (d.length ≤ 8192)) = true)) (HM : Hid (mayT s d = false)) :
    Calls Try.prog 7 #[.agg #[.slice p s.length c, .slice p' d.length c'], .float .f64 x] w fun e w' => e = .returned (.bool true) ∧ Kp w w' := by
    go_enter Try.func7, Try.ntmps7
    go_wp2_with fail
    have T_1 := hide (Bx.madeAt w (.slice p s.length c) (.slice p' d.length c') (w.heap.size) rfl)
    have q1 := Kp.alloc w (.cells #[(.slice p s.length c), (.slice p' d.length c')] 27)
    generalize (w.alloc (.cells #[(.slice p s.length c), (.slice p' d.length c')] 27)) = w1 at *
    have K1 := hide q1
    have S_1 := hide ((unhide S_0).keep q1)
    have D_1 := hide ((unhide D_0).keep q1)
    clear S_0 D_0
    clear q1
    generalize w.heap.size = B_T at *
    obtain ⟨T0_1, T1_1, -, -, T4_1⟩ := (unhide T_1).o
    refine (awake3_any w1).mono ?_
    rintro e w2 ⟨rfl, k2⟩
    have K2 := hide ((unhide K1).trans k2)
    have S_2 := hide ((unhide S_1).keep k2)
    have D_2 := hide ((unhide D_1).keep k2)
    have T_2 := hide ((unhide T_1).keep k2)
    clear K1 S_1 D_1 T_1 T0_1 T1_1 T4_1
    obtain ⟨T0_2, T1_2, -, -, T4_2⟩ := (unhide T_2).o
    clear k2
    go_wp2_with fail
    refine (small_any p p' s.length c d.length c' w2 ms md).mono ?_
    rw [unhide GT]
    rintro e w3 ⟨rfl, k3⟩
    have K3 := hide ((unhide K2).trans k3)
    have S_3 := hide ((unhide S_2).keep k3)
    have D_3 := hide ((unhide D_2).keep k3)
    have T_3 := hide ((unhide T_2).keep k3)
    clear K2 S_2 D_2 T_2 T0_2 T1_2 T4_2
    obtain ⟨T0_3, T1_3, -, -, T4_3⟩ := (unhide T_3).o
    clear k3
    go_wp2_with fail
    refine (rmayT_any _ _ s d w3 (unhide S_3) (unhide D_3)).mono ?_
    rw [unhide HM]
    rintro e w4 ⟨rfl, k4⟩
    have K4 := hide ((unhide K3).trans k4)
    have S_4 := hide ((unhide S_3).keep k4)
    have D_4 := hide ((unhide D_3).keep k4)
    have T_4 := hide ((unhide T_3).keep k4)
    clear K3 S_3 D_3 T_3 T0_3 T1_3 T4_3
    obtain ⟨T0_4, T1_4, -, -, T4_4⟩ := (unhide T_4).o
    clear k4
    go_wp2
    go_ret
    exact ⟨rfl, unhide K4⟩

theorem hands_walk (p p' : Option Addr) (c c' x : Nat) (s : List Int) (d : List Nat) (w : World) (ms : s.length ≤ 9223372036854775807) (md : d.length ≤ 9223372036854775807) (hx : W64 x)
    (hS : s.length ≤ 1000000 → Ints w (.slice p s.length c) s) (hD : d.length ≤ 1000000 → Flts w (.slice p' d.length c') d) :
    Calls Try.prog 7 #[.agg #[.slice p s.length c, .slice p' d.length c'], .float .f64 x] w fun e w' => e = .returned (.bool true) ∧ Kp w w' := by
  by_cases g1 : s.length ≤ 40 ∧ d.length ≤ 8192
  · have GT : Hid ((decide (s.length ≤ 40) && decide (d.length ≤ 8192)) = true) := by unfold Hid; rw [decide_eq_true g1.1, decide_eq_true g1.2]; rfl
    have S0 := hS (by omega)
    have D0 := hD (by omega)
    cases hm : mayT s d
    · exact hands_e2 p p' c c' x s d w ms md S0 D0 GT hm
    · exact hands_yes p p' c c' x s d w ms md S0 D0 g1.1 g1.2 GT hm
  · have GT : Hid ((decide (s.length ≤ 40) && decide (d.length ≤ 8192)) = false) := by
      unfold Hid
      cases h : (decide (s.length ≤ 40) && decide (d.length ≤ 8192))
      · rfl
      · simp at h; omega
    exact hands_e1 p p' c c' x s d w ms md GT

end Go.Proofs.Ytehlkbgjaegpjaa
