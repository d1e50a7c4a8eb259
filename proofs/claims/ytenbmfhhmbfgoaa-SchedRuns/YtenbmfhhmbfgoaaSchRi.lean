
/- The document's scheduler: Run. -/
import Derived.Test.YtenbmfhhmbfgoaaSchRh
import Derived.Deep.DeepCutAuto
import Derived.BigQuiet
import Derived.Deep.QuietTactic
namespace Go.Proofs.Ytenbmfhhmbfgoaa
open Go.RowKit

set_option maxRecDepth 20000 in
set_option maxHeartbeats 8000000 in
theorem mrun_any (W0 : World) (M : Nat) (pv : Value) (ps : List Int) (Bs : List Nat) (ds : List (Value × List (Value × List Int × Int))) (c : DC) (A : SS) (G : Nat → Prop) (most : Nat) (w : World) (h : MO W0 M pv ps Bs ds c A G w) (hm : most ≤ 1048576) (hb : A.k + most ≤ 900000000) :
    Calls Try.prog 16 #[.pointer (some ⟨M, 0, none⟩), .int .i64 (most : Int)] w fun e w' => e = .returned (.tuple #[.int .i64 ((runF ps (stepD ds) most (c, A)).1 : Int), .int .i64 (runF ps (stepD ds) most (c, A)).2.1]) ∧ Hid (∃ G', MO W0 M pv ps Bs ds (runF ps (stepD ds) most (c, A)).2.2.1 (runF ps (stepD ds) most (c, A)).2.2.2 G' w' ∧ Wd G G' w w') := by
  have HM := hide h
  have hmI : (most : Int) ≤ 1048576 := by omega
  have HE := hide (fun (m : Nat) (x : DC × SS) (h0 : ¬ x.2.ab.length = 0) => (show runF ps (stepD ds) (m + 1) x = ((runF ps (stepD ds) m (oneF ps (stepD ds) x)).1 + 1, (runF ps (stepD ds) m (oneF ps (stepD ds) x)).2) from by
    conv => lhs; unfold runF
    rw [if_neg h0]))
  clear h
  go_enter Try.func16, Try.ntmps16
  go_wp2_with fail
  go_loopw [6] (fun i wr => ∃ (k : Nat) (x : DC × SS) (G' : Nat → Prop), k ≤ most ∧ i = .int .i64 k ∧ Hid (MO W0 M pv ps Bs ds x.1 x.2 G' wr ∧ Wd G G' w wr ∧ x.2.k ≤ A.k + k) ∧ Hid (runF ps (stepD ds) most (c, A) = ((runF ps (stepD ds) (most - k) x).1 + k, (runF ps (stepD ds) (most - k) x).2))) (fun i _ => most - (intOf i).toNat)
  case atStart => exact ⟨0, (c, A), G, Nat.zero_le _, rfl, ⟨unhide HM, Wd.refl _ _, Nat.le_refl _⟩, by unfold Hid; simp⟩
  case round =>
    obtain ⟨k, x, G', hk, rfl, HR, HQ⟩ := hrel
    have CA := hide (mrun_able (unhide HR).1.m)
    clear HM
    go_wp2_with fail
    refine (unhide CA).mono ?_
    clear CA
    rintro e w2 ⟨v, rfl, HRow⟩
    obtain ⟨la, lc, rfl, hcell⟩ := (unhide HRow).cells
    have HM2 := hide ((unhide HR).1.keep (unhide HRow).2.2)
    have l128 : x.2.ab.length ≤ 128 := by
      have ok := (unhide HR).1.m.ok
      exact Nat.le_trans (rise_length _ ok.abr ok.abb) ok.lts
    have HD2 := hide ((unhide HR).2.1.trans (Wd.of_kp (unhide HRow).2.2))
    have HKb := hide (unhide HR).2.2
    by_cases h0 : x.2.ab.length = 0
    · have CO := hide (mopen_any (unhide HM2).m)
      have HX : Hid (runF ps (stepD ds) most (c, A) = (k, endE x.2, x)) := by
        unfold Hid
        rw [unhide HQ, runF_none h0]
        simp
      have HZ : Hid (∃ G', MO W0 M pv ps Bs ds (runF ps (stepD ds) most (c, A)).2.2.1 (runF ps (stepD ds) most (c, A)).2.2.2 G' w2 ∧ Wd G G' w w2) := by
        unfold Hid
        rw [unhide HX]
        exact ⟨G', unhide HM2, unhide HD2⟩
      have hwl : x.2.wt.length ≤ 128 := by
        have ok := (unhide HR).1.m.ok
        exact Nat.le_trans (rise_length _ ok.wtr ok.wtb) ok.lts
      rw [h0] at CO
      by_cases hw : x.2.wt.length = 0
      · have HY : Hid (Ending.returned (.tuple #[.int .i64 (k : Int), .int .i64 0]) = .returned (.tuple #[.int .i64 ((runF ps (stepD ds) most (c, A)).1 : Int), .int .i64 (runF ps (stepD ds) most (c, A)).2.1])) := by
          unfold Hid
          rw [unhide HX]
          simp [endE, hw]
        rw [hw] at CO
        have e0 : ((0 : Nat) : Int) + ((0 : Nat) : Int) = 0 := rfl
        rw [e0] at CO
        rw [h0]
        clear HX hw HQ HR HRow hcell HM2 HD2 HKb h0 e0 hwl
        go_wp2_with fail
        refine (unhide CO).mono ?_
        clear CO
        rintro e w3 ⟨rfl, rfl⟩
        go_wp2_with fail
        go_ret2
        exact ⟨unhide HY, unhide HZ⟩
      · have HY : Hid (Ending.returned (.tuple #[.int .i64 (k : Int), .int .i64 12]) = .returned (.tuple #[.int .i64 ((runF ps (stepD ds) most (c, A)).1 : Int), .int .i64 (runF ps (stepD ds) most (c, A)).2.1])) := by
          unfold Hid
          rw [unhide HX]
          simp [endE, hw]
        have hw2 : 0 < x.2.wt.length := by omega
        rw [h0]
        have e0 : ((0 : Nat) : Int) + (x.2.wt.length : Int) = (x.2.wt.length : Int) := by omega
        rw [e0] at CO
        clear HX hw HQ HR HRow hcell HM2 HD2 HKb h0 e0
        generalize x.2.wt.length = m at *
        have hw2I : (0 : Int) < (m : Int) := by omega
        go_wp2_with fail
        refine (unhide CO).mono ?_
        clear CO
        rintro e w3 ⟨rfl, rfl⟩
        go_wp2_with fail
        go_ret2
        exact ⟨unhide HY, unhide HZ⟩
    · have h0I : ¬ (x.2.ab.length : Int) = 0 := by omega
      by_cases hkm : k = most
      · subst hkm
        have HX : Hid (runF ps (stepD ds) k (c, A) = (k, 13, x)) := by
          unfold Hid
          rw [unhide HQ, Nat.sub_self]
          show ((0 : Nat) + k, ((if x.2.ab.length = 0 then endE x.2 else 13), x)) = _
          rw [if_neg h0]
          simp
        have HZ : Hid (∃ G', MO W0 M pv ps Bs ds (runF ps (stepD ds) k (c, A)).2.2.1 (runF ps (stepD ds) k (c, A)).2.2.2 G' w2 ∧ Wd G G' w w2) := by
          unfold Hid
          rw [unhide HX]
          exact ⟨G', unhide HM2, unhide HD2⟩
        have HY : Hid (Ending.returned (.tuple #[.int .i64 (k : Int), .int .i64 13]) = .returned (.tuple #[.int .i64 ((runF ps (stepD ds) k (c, A)).1 : Int), .int .i64 (runF ps (stepD ds) k (c, A)).2.1])) := by
          unfold Hid
          rw [unhide HX]
        clear HX HQ HR HRow hcell HM2 HD2 HKb
        generalize x.2.ab.length = n at *
        go_wp2_with fail
        go_ret2
        exact ⟨unhide HY, unhide HZ⟩
      · have hkI : ¬ (k : Int) = (most : Int) := by omega
        obtain ⟨c0, c2, fr, ml, -⟩ := (unhide HM2).m.own
        obtain ⟨hpb, hpl, pa, pc, epv, hpc⟩ := (unhide HM2).pb.keep (unhide HM2).kp
        rw [epv] at c0
        obtain ⟨q, hqq⟩ : ∃ q, pickI ps x.2.k x.2.ab.length = q := ⟨_, rfl⟩
        have hql : q < x.2.ab.length := by
          rw [← hqq]
          unfold pickI
          split
          · omega
          · exact Nat.mod_lt _ (by omega)
        obtain ⟨g, rfl, hg⟩ := hcell (by omega)
        have d0 := hg q hql
        have hpk : pickS ps x.2 = x.2.ab.getD q 0 := by unfold pickS; rw [hqq]
        have hpin := pick_in (ps := ps) (A := x.2) (by omega)
        have hpin2 := (unhide HR).1.m.ok.abb _ hpin
        obtain ⟨i, hi⟩ : ∃ i : Nat, (i : Int) = pickS ps x.2 := ⟨(pickS ps x.2).toNat, by omega⟩
        rw [← hpk, ← hi] at d0
        have hgM : g ≠ M := by
          have h1 := (unhide HRow).2.1 g rfl
          have h2 := (unhide HR).1.m.own.2.2.2.1
          omega
        have hgl : g < w2.heap.size := World.block_lt_of_cell? w2 _ d0
        have hkk : x.2.k ≤ 900000000 := by have := unhide HKb; omega
        have HI := hide hi
        have HQ2 := hide hqq
        have H0 := hide h0
        have EM : Hid (∀ wx, Kp w2 wx → wx.cell? ⟨M, 2, none⟩ = some (.int .i64 (x.2.k : Int)) ∧ wx.frozen? ⟨M, 2, none⟩ = false ∧ (wx.setCell ⟨M, 2, none⟩ (.int .i64 ((x.2.k + 1 : Nat) : Int))).cell? ⟨g, q, none⟩ = some (.int .i64 (i : Int)) ∧ Calls Try.prog 35 #[.pointer (some ⟨M, 0, none⟩), .int .i64 (i : Int)] (wx.setCell ⟨M, 2, none⟩ (.int .i64 ((x.2.k + 1 : Nat) : Int))) fun e w' => e = .returned (.tuple #[]) ∧ Hid (∃ G'', MO W0 M pv ps Bs ds (oneF ps (stepD ds) x).1 (oneF ps (stepD ds) x).2 G'' w' ∧ Wd G G'' w w')) := by
          intro wx kx
          have mx := (unhide HM2).keep kx
          obtain ⟨-, c2x, frx, mlx, -⟩ := mx.m.own
          have dx := cell_of kx d0
          refine ⟨c2x, frx 2, (Kx.cell (grown_cell wx M 2 (.int .i64 ((x.2.k + 1 : Nat) : Int))) (p := ⟨g, q, none⟩) (World.block_lt_of_cell? wx _ dx) hgM).trans dx, (mone_any mx (by omega) (by omega) hi).mono ?_⟩
          rintro e w' ⟨rfl, G'', m2, d2⟩
          exact ⟨rfl, G'', m2, ((unhide HD2).trans (Wd.of_kp kx)).trans d2⟩
        clear hcell hg hpk hpin hpin2 hi HRow hgM hgl fr h0
        generalize hnn : x.2.ab.length = n at *
        have HNN := hide hnn
        generalize hKK : x.2.k = KK at *
        have HKK := hide hKK
        clear hnn hKK hqq
        go_upto_if 36 with fail
        go_cut [8] (fun p wx => p = .int .i64 (q : Int) ∧ Hid (Kp w2 wx))
        case first =>
          have hqq := unhide HQ2
          by_cases hp : ps.length = 0
          · have e : q = 0 := by rw [← hqq]; unfold pickI; rw [if_pos hp]
            subst e
            rw [hp] at c0
            clear EM hpc hpb
            go_wp2_with fail
            go_meet
            exact ⟨rfl, Kp.refl _⟩
          · obtain ⟨gb, go, rfl, hgb, hpcc⟩ := hpc (by omega)
            have hmod : KK % ps.length < ps.length := Nat.mod_lt _ (by omega)
            have p0 := hpcc _ hmod
            have pe : ps.getD (KK % ps.length) 0 = ps[KK % ps.length] := by simp [hmod]
            have hpb2 := hpb _ (List.getElem_mem hmod)
            rw [← pe] at hpb2
            have e : q = (ps.getD (KK % ps.length) 0).toNat % n := by rw [← hqq]; unfold pickI; rw [if_neg hp]
            obtain ⟨z, hz⟩ : ∃ z : Nat, ps.getD (KK % ps.length) 0 = (z : Int) := ⟨(ps.getD (KK % ps.length) 0).toNat, by omega⟩
            rw [hz] at e p0 hpb2
            rw [Int.toNat_natCast] at e
            clear hz pe hpcc hpb hqq hpc
            generalize ps.length = m at *
            have t1 : Int.tmod (KK : Int) (m : Int) = ((KK % m : Nat) : Int) := by rw [Int.ofNat_tmod]
            have t2 : Int.tmod (z : Int) (n : Int) = ((z % n : Nat) : Int) := by rw [Int.ofNat_tmod]
            generalize KK % m = ii at *
            rw [← e] at t2
            clear e
            have b1 : (ii : Int) < (m : Int) := by omega
            have b2 : (q : Int) < (n : Int) := by omega
            have hw1 : IntKind.i64.wrap (ii : Int) = (ii : Int) := by rw [IntKind.wrap_i64]; omega
            have hw2 : IntKind.i64.wrap (z : Int) = (z : Int) := by rw [IntKind.wrap_i64]; omega
            have hw3 : IntKind.i64.wrap (q : Int) = (q : Int) := by rw [IntKind.wrap_i64]; omega
            have m0 : ¬ m = 0 := hp
            have n0 : ¬ n = 0 := by omega
            clear EM
            go_wp2_with fail
            go_quiet (fail)
            go_wp2_with fail
            go_meet
            exact ⟨rfl, Kp.drewN _ _⟩
        case rest =>
          obtain ⟨rfl, HKx⟩ := hcut
          obtain ⟨e1, e2, e3, cs⟩ := unhide EM _ (unhide HKx)
          rw [show ((KK + 1 : Nat) : Int) = (KK : Int) + 1 by omega] at e3 cs
          have CS := hide cs
          have hql2 : (q : Int) < (n : Int) := by omega
          have HQ3 : Hid (runF ps (stepD ds) most (c, A) = ((runF ps (stepD ds) (most - (k + 1)) (oneF ps (stepD ds) x)).1 + (k + 1), (runF ps (stepD ds) (most - (k + 1)) (oneF ps (stepD ds) x)).2)) := by
            unfold Hid
            rw [unhide HQ, show most - k = (most - (k + 1)) + 1 by omega, unhide HE _ x (by rw [unhide HNN]; exact unhide H0)]
            simp only [Prod.mk.injEq, and_true]
            omega
          have HK1 : Hid ((oneF ps (stepD ds) x).2.k ≤ A.k + (k + 1)) := by
            have := one_kq ps ds x
            have h2 := unhide HKb
            have h3 := unhide HKK
            unfold Hid
            omega
          clear cs EM hpc hpb HR HQ HM2 HD2 HKb HI HQ2 H0 HNN HKK
          go_wp2_with fail
          refine (unhide CS).mono ?_
          clear CS
          rintro e w6 ⟨rfl, HN⟩
          go_wp2_with fail
          obtain ⟨G2, m2, d2⟩ := unhide HN
          go_roundw
          case rel => exact ⟨k + 1, oneF ps (stepD ds) x, G2, by omega, by go_num, ⟨m2, d2, unhide HK1⟩, unhide HQ3⟩
          case measure => simp [intOf]; omega

end Go.Proofs.Ytenbmfhhmbfgoaa
