
/- SchedAll: what its closure does. -/
import Derived.Test.YtenbmfhhmbfgoaaSchX
namespace Go.Proofs.Ytenbmfhhmbfgoaa
open Go.RowKit

set_option maxRecDepth 20000 in
set_option maxHeartbeats 4000000 in
theorem closesA (W0 : World) (ps : List Int) (s Lf Lr Pk At Ok n : Nat) (pv : Value) (Is : List Nat) (hX : ∀ k, XA Lf Lr Pk At Ok Is k → W0.heap.size ≤ k) (hn : n ≤ 60) (hlp : ps.length ≤ 200) (hpv : BysN W0 pv ps) :
    Closes2 W0 (XA Lf Lr Pk At Ok Is) (IA Lf Lr Pk At Ok n pv Is) s ps stepA := by
  intro c A F w hs hst h0 hp i hi hin
  obtain ⟨-, hwt, hfn, hab, hk, hIs, hsm⟩ := hp.i
  refine ⟨_, _, _, hfn i hin, Try.call25, fun w1 hs1 hp1 => ?_⟩
  have ma := hp1.i.1
  have XAt : XA Lf Lr Pk At Ok Is At := .inr (.inr (.inr (.inl rfl)))
  have XOk : XA Lf Lr Pk At Ok Is Ok := .inr (.inr (.inr (.inr (.inl rfl))))
  have XLr : XA Lf Lr Pk At Ok Is Lr := .inr (.inl rfl)
  obtain ⟨hin1, hin2⟩ := (hab i).1 hin
  have ok := hs.ok
  have hbnd : ∀ x ∈ A.ab, 0 ≤ x ∧ x < (n : Int) := fun x hx => by
    have hb := ok.abb x hx
    have := (hab x.toNat).1 (by rw [show ((x.toNat : Nat) : Int) = x by omega]; exact hx)
    omega
  have hall := posL_all (xs := A.ab) (n := n) (fun x hx => (hbnd x hx).2)
  -- who ought to be picked
  obtain ⟨K, hK⟩ : ∃ K, pickI ps c.at_ A.ab.length = K := ⟨_, rfl⟩
  have hKi : A.ab.getD K 0 = (i : Int) := by rw [hi]; unfold pickS; rw [hk, hK]
  have hKl : K < A.ab.length := by
    rw [← hK]; unfold pickI
    split
    · exact h0
    · exact Nat.mod_lt _ h0
  have hpos : ∀ q : Nat, (q : Int) ∈ A.ab → posL A.ab q = K → q = i := fun q h1 h2 => by
    have := posL_hit ok.abr h1
    rw [h2, hKi] at this
    omega
  have hposi : posL A.ab (i : Int) = K := by
    have h1 := posL_hit ok.abr hin
    rcases Nat.lt_trichotomy (posL A.ab (i : Int)) K with h | h | h
    · have := ok.abr.get h hKl; omega
    · exact h
    · have h2 := posL_lt h; omega
  have hA60 : A.ab.length ≤ n := rise_length A.ab ok.abr hbnd
  have cf := ma.lf.cell
  have ck := ma.pk.cell
  have ca := ma.at_.cell
  have fa := ma.at_.frozen
  have hci := (ma.ids i (by omega)).cell
  obtain ⟨I, hI⟩ : ∃ I, Is.getD i 0 = I := ⟨_, rfl⟩
  rw [hI] at hci ⊢
  have HI := hide hI
  clear hI
  have hll := ma.ll
  have CE := hide (fun (q : Nat) (hq : q < n) => ma.cell hq)
  have HS := hide (fun q => posL_succ ok.abr q)
  have HZ := hide (posL_zero (xs := A.ab) (fun x hx => (hbnd x hx).1))
  have HA := hide hab
  have HK := hide hpos
  have HKP := hide hposi
  have HL := hide hall
  have HPI := hide hK
  have HMO := hide (fun (a b : Int) (h : a ≤ b) => posL_mono (xs := A.ab) h)
  have HPR := hide (fun q : Nat => posL_le A.ab (q : Int))
  have HB := hide (hpv.keep hp1.kp)
  -- behind the look: the worlds
  have M1 := hide (fun w2 (k : Kp w1 w2) => (show MA Lf Lr Pk At Ok n pv Is ⟨c.left, c.at_ + 1⟩ (w2.setCell ⟨At, 0, none⟩ (.int .i64 ((c.at_ : Int) + 1))) ∧ Sc (w2.setCell ⟨At, 0, none⟩ (.int .i64 ((c.at_ : Int) + 1))) s F ps { A with st := true, now := (i : Int) } ∧ Kp W0 (w2.setCell ⟨At, 0, none⟩ (.int .i64 ((c.at_ : Int) + 1))) ∧ ∀ k, XA Lf Lr Pk At Ok Is k → k < (w2.setCell ⟨At, 0, none⟩ (.int .i64 ((c.at_ : Int) + 1))).heap.size from by
    have m2 := (ma.of (fun q x => k.block q (hp1.xl q x))).setAt (c.at_ + 1)
    rw [show ((c.at_ + 1 : Nat) : Int) = (c.at_ : Int) + 1 by omega] at m2
    have kc := grown_cell w2 At 0 (.int .i64 ((c.at_ : Int) + 1))
    exact ⟨m2, (hs1.keep k).wide kc (by intro q e; cases e; exact fun e => (hp1.fx At e).2 XAt), (hp1.kp.trans k).of_grown kc (fun q e => by cases e; exact hX _ XAt), fun q x => Nat.lt_of_lt_of_le (hp1.xl q x) (Nat.le_trans k.size kc.size)⟩))
  have HFX := hide hp1.fx
  have HIS := hide hIs
  have HLEN := hide hll
  have HE : Hid (∀ w3, MA Lf Lr Pk At Ok n pv Is ⟨c.left.set i (c.left.getD i 0 - 1), c.at_ + 1⟩ w3 → Sc w3 s F ps { A with st := true, now := (i : Int) } → Kp W0 w3 → (∀ k, XA Lf Lr Pk At Ok Is k → k < w3.heap.size) → ∃ F', Sc w3 s F' ps { A with st := true, now := (i : Int) } ∧ (i : Int) ∈ A.ab ∧ PC W0 (XA Lf Lr Pk At Ok Is) (IA Lf Lr Pk At Ok n pv Is) ⟨c.left.set i (c.left.getD i 0 - 1), c.at_ + 1⟩ (afterS { A with st := true, now := (i : Int) } i (ansA (c.left.getD i 0))) F' w3) := by
    intro w3 m3 s3 k3 x3
    obtain ⟨q1, q2, q3, q4, -⟩ := ia_after ok hin hwt hll hab (i : Int)
    have hsd := sum_dec c.left i hin2
    refine ⟨F, s3, hin, k3, hp1.fx, ⟨m3, q1, fun j hj => ?_, q2, by rw [q3, hk], hIs, by show c.at_ + 1 + (c.left.set i _).sum ≤ 1000; omega⟩, x3⟩
    obtain ⟨j1, j2⟩ := q4 j hj
    rw [j2]
    exact hfn j j1
  have hat : c.at_ ≤ 1000 := by omega
  have hlb : c.left.getD i 0 ≤ 1000 := by have := le_sum c.left i; omega
  have XLK := hide (hX _ XLr)
  have XOKs := hide (hX _ XOk)
  have XIN := hide XLr
  have XON := hide XOk
  have hInI : (i : Int) < (n : Int) := by omega
  have e0 : (stepA c { A with st := true, now := (i : Int) } i) = (ansA (c.left.getD i 0), ⟨c.left.set i (c.left.getD i 0 - 1), c.at_ + 1⟩, { A with st := true, now := (i : Int) }) := rfl
  rw [e0]
  have h060 : (n : Int) ≤ 60 := by omega
  clear hp hp1 hs hs1 hfn hab hk hIs hsm hst h0 hi hpos hposi hall ok hbnd hpv e0 ma XAt XOk XLr hwt
  generalize hL : A.ab.length = L at *
  have HLL := hide hL
  clear hL
  go_enter Try.func25, Try.ntmps25
  go_wp2_with fail
  go_loopw [7, 8] (fun m j wr => ∃ q : Nat, q ≤ n ∧ j = .int .i64 q ∧ m = .int .i64 (posL A.ab (q : Int) : Int) ∧ wr = w1) (fun _ j _ => n - (intOf j).toNat)
  case atStart => exact ⟨0, Nat.zero_le _, rfl, by rw [show (((0 : Nat)) : Int) = 0 from rfl, unhide HZ]; rfl, rfl⟩
  case round =>
    obtain ⟨q, hq, rfl, rfl, rfl⟩ := hrel
    have hpr := unhide HPR q
    have hprI : (posL A.ab (q : Int) : Int) ≤ 60 := by have := unhide HLL; omega
    by_cases hqn : q < n
    · have cq := unhide CE q hqn
      have hqI : (q : Int) < (n : Int) := by omega
      have hs := unhide HS q
      by_cases hm : (q : Int) ∈ A.ab
      · rw [if_pos hm] at hs
        have hpq := ((unhide HA q).1 hm).2
        have hpI : 0 < ((c.left.getD q 0 : Nat) : Int) := by omega
        have HSq := hide hs
        clear hs hm hpr
        generalize c.left.getD q 0 = lq at *
        generalize posL A.ab (q : Int) = pq at *
        go_wp2_with fail
        go_roundw
        case rel => exact ⟨q + 1, by omega, by go_num, by rw [show (((q + 1 : Nat)) : Int) = (q : Int) + 1 by omega, unhide HSq]; go_num, trivial⟩
        case measure => simp [intOf]; omega
      · rw [if_neg hm] at hs
        have hpq : c.left.getD q 0 = 0 := by
          have h1 := (unhide HA q)
          by_cases h2 : 0 < c.left.getD q 0
          · exact absurd (h1.2 ⟨hqn, h2⟩) hm
          · omega
        rw [hpq] at cq
        have HSq := hide hs
        clear hs hm hpr hpq
        generalize posL A.ab (q : Int) = pq at *
        go_wp2_with fail
        go_roundw
        case rel => exact ⟨q + 1, by omega, by go_num, by rw [show (((q + 1 : Nat)) : Int) = (q : Int) + 1 by omega, unhide HSq], trivial⟩
        case measure => simp [intOf]; omega
    · have hqn2 : n = q := by omega
      subst hqn2
      rw [unhide HL]
      have hatI : (c.at_ : Int) ≤ 1000 := by omega
      obtain ⟨pb0, -, pa, pc, rfl, hpc⟩ := unhide HB
      have hLI : (L : Int) ≤ 60 := by omega
      clear hpr hprI hqn hq
      by_cases hp0 : ps.length = 0
      · have hK0 : K = 0 := by rw [← hK]; unfold pickI; rw [if_pos hp0]
        rw [hp0] at ck
        clear hpc pb0 HB
        have hK00 := hide hK0
        clear hK0
        generalize hps : ps.length = pl at *
        have HPL := hide hps
        clear hps
        subst hp0
        go_wp2_with fail
        have M2 := hide (unhide M1 wr (Kp.refl wr))
        clear M1 CE ca fa cf ck hci hK HPI
        generalize wr.setCell ⟨At, 0, none⟩ (.int .i64 ((c.at_ : Int) + 1)) = w2 at *
        have CE := hide (fun (q : Nat) (hq : q < n) => (unhide M2).1.cell hq)
        have cf := (unhide M2).1.lf.cell
        have co := (unhide M2).1.ok.cell
        have fo := (unhide M2).1.ok.frozen
        have hci := ((unhide M2).1.ids i (by rw [unhide HIS]; exact hin1)).cell
        rw [unhide HI] at hci
        go_loopw [6, 9] (fun m j wr => ∃ q : Nat, q ≤ n ∧ j = .int .i64 q ∧ m = .int .i64 ((K : Int) - (posL A.ab (q : Int) : Int)) ∧ posL A.ab (q : Int) ≤ K ∧ wr = w2) (fun _ j _ => n - (intOf j).toNat)
        case atStart => exact ⟨0, Nat.zero_le _, rfl, by rw [show (((0 : Nat)) : Int) = 0 from rfl, unhide HZ]; simp [unhide hK00], by rw [show (((0 : Nat)) : Int) = 0 from rfl, unhide HZ]; exact Nat.zero_le _, rfl⟩
        case round =>
          obtain ⟨q, hq, rfl, rfl, hqK, rfl⟩ := hrel
          have hqn : q < n := by
            by_cases h : q = n
            · subst h
              have := unhide HL
              omega
            · omega
          have cq := unhide CE q hqn
          have hqI : (q : Int) < (n : Int) := by omega
          have hs := unhide HS q
          have hKI : (K : Int) ≤ 60 := by omega
          by_cases hm : (q : Int) ∈ A.ab
          · rw [if_pos hm] at hs
            have hpq := ((unhide HA q).1 hm).2
            have hpI : 0 < ((c.left.getD q 0 : Nat) : Int) := by omega
            by_cases hz : posL A.ab (q : Int) = K
            · have hqi := unhide HK q hm hz
              have hz0 : (K : Int) - (posL A.ab (q : Int) : Int) = 0 := by omega
              have M3 := hide (unhide M2).1.setOk
              have kO := grown_cell wr Ok 0 (.bool true)
              have S3 := hide ((unhide M2).2.1.wide kO (by intro q e; cases e; exact fun e => (unhide HFX Ok e).2 (unhide XON)))
              have K3 := hide ((unhide M2).2.2.1.of_grown kO (fun q e => by cases e; exact unhide XOKs))
              have X3 := hide (fun k (x : XA Lf Lr Pk At Ok Is k) => Nat.lt_of_lt_of_le ((unhide M2).2.2.2 k x) kO.size)
              clear kO M2 CE hs hqK hz hm HZ HS HK HMO HPR
              rw [hz0]
              clear hz0
              subst hqi
              generalize posL A.ab (q : Int) = pq at *
              have d1 := (unhide M3).lf.cell
              have d2 := ((unhide M3).ids q (by rw [unhide HIS]; exact hin1)).cell
              rw [unhide HI] at d2
              have d3 := (unhide M3).cell hin1
              have d4 := (unhide M3).lr.frozen q
              simp only at d3
              have HVt : Hid (c.left.getD q 0 = 1 → Ending.returned (.int .i64 3) = .returned (.int .i64 (ansA (c.left.getD q 0)))) := fun h => by rw [show ansA (c.left.getD q 0) = 3 from if_pos h]
              have HVf : Hid (¬ c.left.getD q 0 = 1 → Ending.returned (.int .i64 1) = .returned (.int .i64 (ansA (c.left.getD q 0)))) := fun h => by rw [show ansA (c.left.getD q 0) = 1 from if_neg h]
              by_cases hone : c.left.getD q 0 = 1
              · have HV := hide (unhide HVt hone)
                have hl1 : (((c.left.getD q 0 - 1 : Nat)) : Int) = 0 := by omega
                have M4 := hide ((unhide M3).setL q (c.left.getD q 0 - 1))
                rw [hl1] at M4
                have kL := grown_cell (wr.setCell ⟨Ok, 0, none⟩ (.bool true)) Lr q (.int .i64 0)
                have S4 := hide ((unhide S3).wide kL (by intro q e; cases e; exact fun e => (unhide HFX Lr e).2 (unhide XIN)))
                have K4 := hide ((unhide K3).of_grown kL (fun q e => by cases e; exact unhide XLK))
                have X4 := hide (fun k (x : XA Lf Lr Pk At Ok Is k) => Nat.lt_of_lt_of_le (unhide X3 k x) kL.size)
                have HF4 := hide (unhide HE _ (unhide M4) (unhide S4) (unhide K4) (unhide X4))
                have g1 := (unhide M4).lf.cell
                have g2 := ((unhide M4).ids q (by rw [unhide HIS]; exact hin1)).cell
                rw [unhide HI] at g2
                have g3 := (unhide M4).cell hin1
                simp only at g3
                rw [getD_setA (by rw [unhide HLEN]; exact hin1), if_pos rfl, hl1] at g3
                clear kL M3 M4 S3 S4 K3 K4 X3 X4 HE HFX
                rw [hone] at d3 cq
                rw [show (((1 : Nat)) : Int) = 1 from rfl] at d3 cq
                clear hone HVt HVf hin2 hlb hpq hpI hl1 hin
                go_wp2_with fail
                go_ret
                obtain ⟨F', y1, y2, y4⟩ := unhide HF4
                refine ⟨unhide HV, F', y1, y2, trivial, ?_⟩
                rw [unhide HPL]
                exact y4
              · have HV := hide (unhide HVf hone)
                have hl1 : (((c.left.getD q 0 - 1 : Nat)) : Int) = ((c.left.getD q 0 : Nat) : Int) - 1 := by omega
                have M4 := hide ((unhide M3).setL q (c.left.getD q 0 - 1))
                rw [hl1] at M4
                have kL := grown_cell (wr.setCell ⟨Ok, 0, none⟩ (.bool true)) Lr q (.int .i64 (((c.left.getD q 0 : Nat) : Int) - 1))
                have S4 := hide ((unhide S3).wide kL (by intro q e; cases e; exact fun e => (unhide HFX Lr e).2 (unhide XIN)))
                have K4 := hide ((unhide K3).of_grown kL (fun q e => by cases e; exact unhide XLK))
                have X4 := hide (fun k (x : XA Lf Lr Pk At Ok Is k) => Nat.lt_of_lt_of_le (unhide X3 k x) kL.size)
                have HF4 := hide (unhide HE _ (unhide M4) (unhide S4) (unhide K4) (unhide X4))
                have g1 := (unhide M4).lf.cell
                have g2 := ((unhide M4).ids q (by rw [unhide HIS]; exact hin1)).cell
                rw [unhide HI] at g2
                have g3 := (unhide M4).cell hin1
                simp only at g3
                rw [getD_setA (by rw [unhide HLEN]; exact hin1), if_pos rfl, hl1] at g3
                clear kL M3 M4 S3 S4 K3 K4 X3 X4 HE HFX
                obtain ⟨lq, hlq⟩ : ∃ lq, c.left.getD q 0 = lq := ⟨_, rfl⟩
                rw [hlq] at d3 g1 g2 g3 cq hone hpq hlb HF4
                have honeI : ¬ (lq : Int) - 1 = 0 := by omega
                have hlqI : (lq : Int) ≤ 1000 := by omega
                have hlq0 : 0 < (lq : Int) := by omega
                have HLQ := hide hlq
                clear hone HVt HVf hlq hin2 hpI hl1 hin
                go_wp2_with fail
                go_ret
                rw [← unhide HLQ] at HF4
                obtain ⟨F', y1, y2, y4⟩ := unhide HF4
                rw [← unhide HLQ]
                refine ⟨unhide HV, F', y1, y2, trivial, ?_⟩
                rw [unhide HPL]
                exact y4
            · have hz0 : ¬ (K : Int) - (posL A.ab (q : Int) : Int) = 0 := by omega
              have hqK2 : posL A.ab (q : Int) + 1 ≤ K := by omega
              have HSq := hide hs
              clear hs hm hz
              generalize c.left.getD q 0 = lq at *
              generalize posL A.ab (q : Int) = pq at *
              go_wp2_with fail
              go_roundw
              case rel => exact ⟨q + 1, by omega, by go_num, by rw [show (((q + 1 : Nat)) : Int) = (q : Int) + 1 by omega, unhide HSq]; go_num, by rw [show (((q + 1 : Nat)) : Int) = (q : Int) + 1 by omega, unhide HSq]; exact hqK2, trivial⟩
              case measure => simp [intOf]; omega
          · rw [if_neg hm] at hs
            have hpq : c.left.getD q 0 = 0 := by
              have h1 := (unhide HA q)
              by_cases h2 : 0 < c.left.getD q 0
              · exact absurd (h1.2 ⟨hqn, h2⟩) hm
              · omega
            rw [hpq] at cq
            have HSq := hide hs
            clear hs hm hpq
            generalize posL A.ab (q : Int) = pq at *
            go_wp2_with fail
            go_roundw
            case rel => exact ⟨q + 1, by omega, by go_num, by rw [show (((q + 1 : Nat)) : Int) = (q : Int) + 1 by omega, unhide HSq], by rw [show (((q + 1 : Nat)) : Int) = (q : Int) + 1 by omega, unhide HSq]; exact hqK, trivial⟩
            case measure => simp [intOf]; omega
      · have hmod : c.at_ % ps.length < ps.length := Nat.mod_lt _ (by omega)
        obtain ⟨pb, po, rfl, hpbl, hpc⟩ := hpc (by omega)
        have x0 := hpc (c.at_ % ps.length) hmod
        have xb := pb0 (ps.getD (c.at_ % ps.length) 0) (by rw [List.getD_eq_getElem?_getD, List.getElem?_eq_getElem hmod]; exact List.getElem_mem _)
        have hK1 : (ps.getD (c.at_ % ps.length) 0).toNat % L = K := by rw [← hK]; unfold pickI; rw [if_neg hp0]
        obtain ⟨x, hx⟩ : ∃ x : Nat, ps.getD (c.at_ % ps.length) 0 = (x : Int) := ⟨(ps.getD (c.at_ % ps.length) 0).toNat, by omega⟩
        rw [hx] at x0 xb hK1
        have hx2 : ((x : Int)).toNat = x := by omega
        rw [hx2] at hK1
        clear hx hx2 hpc pb0 HB
        generalize hps : ps.length = pl at *
        have HPL := hide hps
        clear hps
        have t1 : Int.tmod (c.at_ : Int) (pl : Int) = ((c.at_ % pl : Nat) : Int) := by rw [Int.ofNat_tmod]
        have t2 : Int.tmod (x : Int) (L : Int) = (K : Int) := by rw [← hK1, Int.ofNat_tmod]
        generalize c.at_ % pl = j at *
        have b1 : (j : Int) < (pl : Int) := by omega
        have bK : (K : Int) ≤ 60 := by omega
        have xI : (x : Int) < 256 := by omega
        have w1 : IntKind.i64.wrap (j : Int) = (j : Int) := by rw [IntKind.wrap_i64]; omega
        have w2 : IntKind.i64.wrap (x : Int) = (x : Int) := by rw [IntKind.wrap_i64]; omega
        have w3 : IntKind.i64.wrap (K : Int) = (K : Int) := by rw [IntKind.wrap_i64]; omega
        have m0 : ¬ pl = 0 := hp0
        have n0 : ¬ L = 0 := by omega
        have hplI : 0 < (pl : Int) := by omega
        go_wp2_with fail
        go_quiet (fail)
        have ca' : (wr.drewN nq).cell? ⟨At, 0, none⟩ = some (.int .i64 (c.at_ : Int)) := ca
        have fa' : (wr.drewN nq).frozen? ⟨At, 0, none⟩ = false := fa
        clear w1 w2 w3 t1 t2 hK1 x0
        go_wp2_with fail
        have M2 := hide (unhide M1 (wr.drewN nq) (Kp.drewN wr nq))
        clear M1 CE ca fa cf ck hci hK HPI ca' fa'
        generalize (wr.drewN nq).setCell ⟨At, 0, none⟩ (.int .i64 ((c.at_ : Int) + 1)) = w2 at *
        have CE := hide (fun (q : Nat) (hq : q < n) => (unhide M2).1.cell hq)
        have cf := (unhide M2).1.lf.cell
        have co := (unhide M2).1.ok.cell
        have fo := (unhide M2).1.ok.frozen
        have hci := ((unhide M2).1.ids i (by rw [unhide HIS]; exact hin1)).cell
        rw [unhide HI] at hci
        go_loopw [6, 9] (fun m j wr => ∃ q : Nat, q ≤ n ∧ j = .int .i64 q ∧ m = .int .i64 ((K : Int) - (posL A.ab (q : Int) : Int)) ∧ posL A.ab (q : Int) ≤ K ∧ wr = w2) (fun _ j _ => n - (intOf j).toNat)
        case atStart => exact ⟨0, Nat.zero_le _, rfl, by rw [show (((0 : Nat)) : Int) = 0 from rfl, unhide HZ]; simp, by rw [show (((0 : Nat)) : Int) = 0 from rfl, unhide HZ]; exact Nat.zero_le _, rfl⟩
        case round =>
          obtain ⟨q, hq, rfl, rfl, hqK, rfl⟩ := hrel
          have hqn : q < n := by
            by_cases h : q = n
            · subst h
              have := unhide HL
              omega
            · omega
          have cq := unhide CE q hqn
          have hqI : (q : Int) < (n : Int) := by omega
          have hs := unhide HS q
          have hKI : (K : Int) ≤ 60 := by omega
          by_cases hm : (q : Int) ∈ A.ab
          · rw [if_pos hm] at hs
            have hpq := ((unhide HA q).1 hm).2
            have hpI : 0 < ((c.left.getD q 0 : Nat) : Int) := by omega
            by_cases hz : posL A.ab (q : Int) = K
            · have hqi := unhide HK q hm hz
              have hz0 : (K : Int) - (posL A.ab (q : Int) : Int) = 0 := by omega
              have M3 := hide (unhide M2).1.setOk
              have kO := grown_cell wr Ok 0 (.bool true)
              have S3 := hide ((unhide M2).2.1.wide kO (by intro q e; cases e; exact fun e => (unhide HFX Ok e).2 (unhide XON)))
              have K3 := hide ((unhide M2).2.2.1.of_grown kO (fun q e => by cases e; exact unhide XOKs))
              have X3 := hide (fun k (x : XA Lf Lr Pk At Ok Is k) => Nat.lt_of_lt_of_le ((unhide M2).2.2.2 k x) kO.size)
              clear kO M2 CE hs hqK hz hm HZ HS HK HMO HPR
              rw [hz0]
              clear hz0
              subst hqi
              generalize posL A.ab (q : Int) = pq at *
              have d1 := (unhide M3).lf.cell
              have d2 := ((unhide M3).ids q (by rw [unhide HIS]; exact hin1)).cell
              rw [unhide HI] at d2
              have d3 := (unhide M3).cell hin1
              have d4 := (unhide M3).lr.frozen q
              simp only at d3
              have HVt : Hid (c.left.getD q 0 = 1 → Ending.returned (.int .i64 3) = .returned (.int .i64 (ansA (c.left.getD q 0)))) := fun h => by rw [show ansA (c.left.getD q 0) = 3 from if_pos h]
              have HVf : Hid (¬ c.left.getD q 0 = 1 → Ending.returned (.int .i64 1) = .returned (.int .i64 (ansA (c.left.getD q 0)))) := fun h => by rw [show ansA (c.left.getD q 0) = 1 from if_neg h]
              by_cases hone : c.left.getD q 0 = 1
              · have HV := hide (unhide HVt hone)
                have hl1 : (((c.left.getD q 0 - 1 : Nat)) : Int) = 0 := by omega
                have M4 := hide ((unhide M3).setL q (c.left.getD q 0 - 1))
                rw [hl1] at M4
                have kL := grown_cell (wr.setCell ⟨Ok, 0, none⟩ (.bool true)) Lr q (.int .i64 0)
                have S4 := hide ((unhide S3).wide kL (by intro q e; cases e; exact fun e => (unhide HFX Lr e).2 (unhide XIN)))
                have K4 := hide ((unhide K3).of_grown kL (fun q e => by cases e; exact unhide XLK))
                have X4 := hide (fun k (x : XA Lf Lr Pk At Ok Is k) => Nat.lt_of_lt_of_le (unhide X3 k x) kL.size)
                have HF4 := hide (unhide HE _ (unhide M4) (unhide S4) (unhide K4) (unhide X4))
                have g1 := (unhide M4).lf.cell
                have g2 := ((unhide M4).ids q (by rw [unhide HIS]; exact hin1)).cell
                rw [unhide HI] at g2
                have g3 := (unhide M4).cell hin1
                simp only at g3
                rw [getD_setA (by rw [unhide HLEN]; exact hin1), if_pos rfl, hl1] at g3
                clear kL M3 M4 S3 S4 K3 K4 X3 X4 HE HFX
                rw [hone] at d3 cq
                rw [show (((1 : Nat)) : Int) = 1 from rfl] at d3 cq
                clear hone HVt HVf hin2 hlb hpq hpI hl1 hin
                go_wp2_with fail
                go_ret
                obtain ⟨F', y1, y2, y4⟩ := unhide HF4
                refine ⟨unhide HV, F', y1, y2, trivial, ?_⟩
                rw [unhide HPL]
                exact y4
              · have HV := hide (unhide HVf hone)
                have hl1 : (((c.left.getD q 0 - 1 : Nat)) : Int) = ((c.left.getD q 0 : Nat) : Int) - 1 := by omega
                have M4 := hide ((unhide M3).setL q (c.left.getD q 0 - 1))
                rw [hl1] at M4
                have kL := grown_cell (wr.setCell ⟨Ok, 0, none⟩ (.bool true)) Lr q (.int .i64 (((c.left.getD q 0 : Nat) : Int) - 1))
                have S4 := hide ((unhide S3).wide kL (by intro q e; cases e; exact fun e => (unhide HFX Lr e).2 (unhide XIN)))
                have K4 := hide ((unhide K3).of_grown kL (fun q e => by cases e; exact unhide XLK))
                have X4 := hide (fun k (x : XA Lf Lr Pk At Ok Is k) => Nat.lt_of_lt_of_le (unhide X3 k x) kL.size)
                have HF4 := hide (unhide HE _ (unhide M4) (unhide S4) (unhide K4) (unhide X4))
                have g1 := (unhide M4).lf.cell
                have g2 := ((unhide M4).ids q (by rw [unhide HIS]; exact hin1)).cell
                rw [unhide HI] at g2
                have g3 := (unhide M4).cell hin1
                simp only at g3
                rw [getD_setA (by rw [unhide HLEN]; exact hin1), if_pos rfl, hl1] at g3
                clear kL M3 M4 S3 S4 K3 K4 X3 X4 HE HFX
                obtain ⟨lq, hlq⟩ : ∃ lq, c.left.getD q 0 = lq := ⟨_, rfl⟩
                rw [hlq] at d3 g1 g2 g3 cq hone hpq hlb HF4
                have honeI : ¬ (lq : Int) - 1 = 0 := by omega
                have hlqI : (lq : Int) ≤ 1000 := by omega
                have hlq0 : 0 < (lq : Int) := by omega
                have HLQ := hide hlq
                clear hone HVt HVf hlq hin2 hpI hl1 hin
                go_wp2_with fail
                go_ret
                rw [← unhide HLQ] at HF4
                obtain ⟨F', y1, y2, y4⟩ := unhide HF4
                rw [← unhide HLQ]
                refine ⟨unhide HV, F', y1, y2, trivial, ?_⟩
                rw [unhide HPL]
                exact y4
            · have hz0 : ¬ (K : Int) - (posL A.ab (q : Int) : Int) = 0 := by omega
              have hqK2 : posL A.ab (q : Int) + 1 ≤ K := by omega
              have HSq := hide hs
              clear hs hm hz
              generalize c.left.getD q 0 = lq at *
              generalize posL A.ab (q : Int) = pq at *
              go_wp2_with fail
              go_roundw
              case rel => exact ⟨q + 1, by omega, by go_num, by rw [show (((q + 1 : Nat)) : Int) = (q : Int) + 1 by omega, unhide HSq]; go_num, by rw [show (((q + 1 : Nat)) : Int) = (q : Int) + 1 by omega, unhide HSq]; exact hqK2, trivial⟩
              case measure => simp [intOf]; omega
          · rw [if_neg hm] at hs
            have hpq : c.left.getD q 0 = 0 := by
              have h1 := (unhide HA q)
              by_cases h2 : 0 < c.left.getD q 0
              · exact absurd (h1.2 ⟨hqn, h2⟩) hm
              · omega
            rw [hpq] at cq
            have HSq := hide hs
            clear hs hm hpq
            generalize posL A.ab (q : Int) = pq at *
            go_wp2_with fail
            go_roundw
            case rel => exact ⟨q + 1, by omega, by go_num, by rw [show (((q + 1 : Nat)) : Int) = (q : Int) + 1 by omega, unhide HSq], by rw [show (((q + 1 : Nat)) : Int) = (q : Int) + 1 by omega, unhide HSq]; exact hqK, trivial⟩
            case measure => simp [intOf]; omega

end Go.Proofs.Ytenbmfhhmbfgoaa
