
/- SchedLimit. -/
import Derived.Test.YtenbmfhhmbfgoaaSchQ
import Derived.OpenShut
namespace Go.Proofs.Ytenbmfhhmbfgoaa
open Go.RowKit

def fL (M : Nat) : Value := .func (.func 26) #[] #[.pointer (some ⟨M, 0, none⟩)]
def IL (M : Nat) (c : Nat) (A : SS) (w : World) : Prop := Boxed w M 3 (.int .i64 (c : Int)) ∧ A.wt = [] ∧ (∀ i : Nat, (i : Int) ∈ A.ab → (A.ts.getD i tk0).1 = wrapF (fL M)) ∧ c + A.ab.length ≤ 128 ∧ A.k = c
def stepL (c : Nat) (A : SS) (_ : Nat) : Int × Nat × SS := (3, c + 1, A)
theorem keepsL (W0 : World) (M : Nat) : Keeps W0 (fun k => k = M) (IL M) := ⟨fun _ _ _ _ h _ _ hb => ⟨boxed_of h.1 (hb M rfl), h.2⟩⟩
theorem afterS_done {A : SS} {i : Nat} : afterS A i 3 = { A with st := false, k := A.k + 1, ab := delL (i : Int) A.ab, ts := A.ts.set i tk0 } := by
  unfold afterS settleS
  rw [if_pos rfl]
theorem closesL (W0 : World) (M s : Nat) (hM : W0.heap.size ≤ M) : Closes W0 (fun k => k = M) (IL M) s [] stepL := by
  intro c A F w hs hst h0 hp i hi hin
  obtain ⟨hb, hwt, hfn, hle, hk⟩ := hp.i
  refine ⟨_, _, _, hfn i hin, Try.call26, fun w1 hs1 hp1 => ?_⟩
  obtain ⟨hb1, -⟩ := hp1.i
  have c0 := hb1.cell
  have f0 := hb1.frozen
  have hh := (hasL_iff hs.ok.abr).2 hin
  have hdl := delL_length hh
  have hM1 : ¬ F M := fun e => (hp1.fx M e).2 rfl
  have kc := grown_cell w1 M 0 (.int .i64 ((c : Int) + 1))
  have HX : Hid (∃ F', Sc (w1.setCell ⟨M, 0, none⟩ (.int .i64 ((c : Int) + 1))) s F' [] { A with st := true, now := (i : Int) } ∧ (i : Int) ∈ A.ab ∧ A.k ≤ 1000000000000 ∧ PC W0 (fun k => k = M) (IL M) (c + 1) (afterS { A with st := true, now := (i : Int) } i 3) F' (w1.setCell ⟨M, 0, none⟩ (.int .i64 ((c : Int) + 1)))) := by
    refine ⟨F, hs1.wide kc (by intro q e; cases e; exact hM1), hin, by omega, ?_, hp1.fx, ?_, fun k e => Nat.lt_of_lt_of_le (hp1.xl k e) kc.size⟩
    · exact (hp1.kp).of_grown kc (fun k e => by cases e; exact hM)
    · rw [afterS_done]
      refine ⟨?_, hwt, fun j hj => ?_, ?_, ?_⟩
      · have := hb1.set (.int .i64 ((c : Int) + 1))
        rw [show (((c + 1 : Nat)) : Int) = (c : Int) + 1 by omega]
        exact this
      · obtain ⟨j1, j2⟩ := (delL_mem hs.ok.abr hh).1 hj
        have hne : i ≠ j := by intro e; subst e; exact j2 rfl
        show ((A.ts.set i tk0).getD j tk0).1 = _
        rw [show (A.ts.set i tk0).getD j tk0 = A.ts.getD j tk0 by simp [List.getD, hne]]
        exact hfn j j1
      · show c + 1 + (delL (i : Int) A.ab).length ≤ 128
        omega
      · show A.k + 1 = c + 1
        omega
  have hc : (c : Int) ≤ 128 := by omega
  clear hp hb hfn hs hs1 hp1 hb1 kc
  go_enter Try.func26, Try.ntmps26
  go_wp2_with fail
  go_ret
  exact ⟨rfl, unhide HX⟩

theorem run_limit : ∀ (m : Nat) (c : Nat) (A : SS), SOk [] A → A.wt = [] → A.ab.length ≤ m → ∃ X, runF [] stepL m (c, A) = (A.ab.length, 0, (c + A.ab.length, X)) ∧ X.ts.length = A.ts.length
  | 0, c, A, ok, hw, hl => by
    have h0 : A.ab.length = 0 := by omega
    refine ⟨A, ?_, rfl⟩
    rw [runF_none h0, h0]
    simp [endE, hw]
  | m + 1, c, A, ok, hw, hl => by
    by_cases h0 : A.ab.length = 0
    · refine ⟨A, ?_, rfl⟩
      rw [runF_none h0, h0]
      simp [endE, hw]
    · have hpk := pick_in (ps := []) (A := A) (by omega)
      have hpb := ok.abb _ hpk
      obtain ⟨i, hi⟩ : ∃ i, (pickS [] A).toNat = i := ⟨_, rfl⟩
      have hiI : (i : Int) = pickS [] A := by omega
      have hin : (i : Int) ∈ A.ab := by rw [hiI]; exact hpk
      have hh := (hasL_iff ok.abr).2 hin
      have hdl := delL_length hh
      have hone : oneF [] stepL (c, A) = (c + 1, afterS { A with st := true, now := (i : Int) } i 3) := by
        unfold oneF stepL
        simp only [hi]
      rw [afterS_done] at hone
      have ok2 : SOk [] { A with st := false, now := (i : Int), k := A.k + 1, ab := delL (i : Int) A.ab, ts := A.ts.set i tk0 } := (ok.done hin).numbers _ _ _
      obtain ⟨X, e, hX⟩ := run_limit m (c + 1) { A with st := false, now := (i : Int), k := A.k + 1, ab := delL (i : Int) A.ab, ts := A.ts.set i tk0 } ok2 hw (by show (delL (i : Int) A.ab).length ≤ m; omega)
      refine ⟨X, ?_, hX.trans (by simp)⟩
      unfold runF
      rw [if_neg h0, hone, e]
      simp only [Prod.mk.injEq, true_and]
      refine ⟨hdl, ?_, trivial⟩
      show c + 1 + (delL (i : Int) A.ab).length = _
      omega

set_option maxRecDepth 20000 in
set_option maxHeartbeats 8000000 in
theorem limit_any (more : Nat) (hmore : more < 256) (w : World) : Calls Try.prog 6 #[.int .u8 (more : Int)] w fun e w' => e = .returned (.bool true) ∧ Kp w w' := by
  have HA := hide (awake15_any w)
  have HN := hide (fun w1 => snew_any (.slice none 0 0) [] w1 (Bys.nil w1))
  have hmI : (more : Int) < 256 := by omega
  go_enter Try.func6, Try.ntmps6
  go_wp2_with fail
  refine (unhide HA).mono ?_
  clear HA
  rintro e w1 ⟨rfl, k1⟩
  have K1 := hide k1
  clear k1
  go_wp2_with fail
  refine (unhide HN w1).mono ?_
  clear HN
  rintro e w2 ⟨s, F, rfl, sc, k2, hF⟩
  have D0 : Hid (CO w (fun k => k = w2.heap.size) (IL w2.heap.size) s [] 0 newS (w2.alloc (.cells #[.int .i64 0] 3))) := by
    refine ⟨rfl, F, sc.keep (Kp.alloc _ _), ((unhide K1).trans k2).trans (Kp.alloc _ _), fun k e => ⟨Nat.le_trans (unhide K1).size (hF k e), fun e2 => by have := sc.fb k e; omega⟩, ⟨?_, rfl, (by intro i hi; simp [newS] at hi), (by simp [newS]), rfl⟩, fun k e => by rw [e]; simp⟩
    unfold Boxed
    simp only [World.alloc, Array.getElem?_push_size]
    rfl
  have hM : Hid (w.heap.size ≤ w2.heap.size) := ((unhide K1).trans k2).size
  clear sc k2 hF K1
  go_wp2_with fail
  generalize w2.heap.size = M at *
  generalize w2.alloc (.cells #[.int .i64 0] 3) = w3 at *
  go_loopw [5, 6, 7] (fun i _ _ wr => ∃ (k : Nat) (A : SS), k ≤ 128 + more ∧ i = .int .i64 k ∧ Hid (CO w (fun k => k = M) (IL M) s [] 0 A wr ∧ A.ts.length = min k 128 ∧ A.ab.length = min k 128)) (fun i _ _ _ => 128 + more - (intOf i).toNat)
  case atStart => exact ⟨0, newS, Nat.zero_le _, rfl, unhide D0, rfl, rfl⟩
  case round =>
    obtain ⟨k, A, hk, rfl, HC⟩ := hrel
    by_cases hlt : k < 128 + more
    · have hltI : (k : Int) < 128 + (more : Int) := by omega
      by_cases h128 : k < 128
      · have CG : Hid (Calls Try.prog 12 #[.pointer (some ⟨s, 0, none⟩), fL M] wr fun e w' => e = .returned (.tuple #[.int .i64 (k : Int), .int .i64 0]) ∧ Hid (CO w (fun k => k = M) (IL M) s [] 0 (goS A (fL M)) w' ∧ (goS A (fL M)).ts.length = min (k + 1) 128 ∧ (goS A (fL M)).ab.length = min (k + 1) 128)) := by
          obtain ⟨h1, h2, h3⟩ := unhide HC
          have e2 : min k 128 = k := by omega
          have e3 : min (k + 1) 128 = k + 1 := by omega
          rw [e2] at h2 h3
          rw [e3]
          refine (go_co (keepsL w M) h1 (n := k) h2 h128 26 #[] #[.pointer (some ⟨M, 0, none⟩)] ?_).mono ?_
          · intro w' hi
            obtain ⟨i1, i2, i3, i4, i5⟩ := hi
            refine ⟨i1, i2, fun j hj => ?_, ?_, i5⟩
            · show ((A.ts ++ [_]).getD j tk0).1 = _
              rcases insL_mem.1 hj with e | e
              · have e' : j = A.ts.length := by omega
                rw [e', getD_snoc (by omega), if_pos rfl]
                rfl
              · obtain ⟨F, sc, -⟩ := h1.at_
                have hjb := sc.ok.abb _ e
                rw [getD_snoc (by omega), if_neg (by omega)]
                exact i3 j e
            · show 0 + (insL _ A.ab).length ≤ 128
              rw [insL_length]
              omega
          · rintro e w' ⟨rfl, hc⟩
            refine ⟨rfl, hc, ?_, ?_⟩
            · show (A.ts ++ [_]).length = _
              simp [h2]
            · show (insL _ A.ab).length = _
              rw [insL_length, h3]
        unfold fL at CG
        have b1 : (k : Int) < 128 := by omega
        clear HC
        go_wp2_with fail
        refine (unhide CG).mono ?_
        clear CG
        rintro e w4 ⟨rfl, HC2⟩
        go_wp2_with fail
        go_roundw
        case rel => exact ⟨k + 1, _, by omega, by go_num, HC2⟩
        case measure => simp [intOf]; omega
      · have CG : Hid (Calls Try.prog 12 #[.pointer (some ⟨s, 0, none⟩), fL M] wr fun e w' => e = .returned (.tuple #[.int .i64 0, .int .i64 13]) ∧ w' = wr) := by
          obtain ⟨h1, h2, h3⟩ := unhide HC
          obtain ⟨F, sc, -⟩ := h1.at_
          exact go_full s F [] A _ _ _ wr sc (by omega)
        have HC2 : Hid (CO w (fun k => k = M) (IL M) s [] 0 A wr ∧ A.ts.length = min (k + 1) 128 ∧ A.ab.length = min (k + 1) 128) := by
          obtain ⟨h1, h2, h3⟩ := unhide HC
          exact ⟨h1, by omega, by omega⟩
        unfold fL at CG
        have b1 : ¬ (k : Int) < 128 := by omega
        clear HC
        go_wp2_with fail
        refine (unhide CG).mono ?_
        clear CG
        rintro e w4 ⟨rfl, rfl⟩
        go_wp2_with fail
        go_roundw
        case rel => exact ⟨k + 1, _, by omega, by go_num, HC2⟩
        case measure => simp [intOf]; omega
    · have hkI : ¬ (k : Int) < 128 + (more : Int) := by omega
      have CR : Hid (Calls Try.prog 15 #[.pointer (some ⟨s, 0, none⟩), .int .i64 1048576] wr fun e w' => e = .returned (.tuple #[.int .i64 128, .int .i64 0]) ∧ Hid (∃ A', CO w (fun k => k = M) (IL M) s [] 128 A' w' ∧ A'.ts.length = 128)) := by
        obtain ⟨h1, h2, h3⟩ := unhide HC
        have e2 : min k 128 = 128 := by omega
        rw [e2] at h2 h3
        obtain ⟨F, sc, -⟩ := h1.at_
        obtain ⟨X, hX, hl⟩ := run_limit 1048576 0 A sc.ok h1.i.1.2.1 (by omega)
        have hr := run_co (keepsL w M) (closesL w M s (unhide hM)) h1 (most := 1048576) (by decide)
        rw [hX, h3] at hr
        exact hr.mono (by
          rintro e w' ⟨rfl, hc⟩
          exact ⟨rfl, X, hc, hl.trans h2⟩)
      clear HC
      go_wp2_with fail
      refine (unhide CR).mono ?_
      clear CR
      rintro e w4 ⟨rfl, HX⟩
      obtain ⟨A', hc, hl⟩ := unhide HX
      have CG : Hid (Calls Try.prog 12 #[.pointer (some ⟨s, 0, none⟩), .func (.func 27) #[] #[]] w4 fun e w' => e = .returned (.tuple #[.int .i64 0, .int .i64 13]) ∧ w' = w4) := by
        obtain ⟨F, sc, -⟩ := hc.at_
        exact go_full s F [] A' _ _ _ w4 sc hl
      have c0 : w4.cell? ⟨M, 0, none⟩ = some (.int .i64 128) := hc.i.1.1.cell
      have KK := hide hc.i.2
      clear hc hl HX
      go_wp2_with fail
      refine (unhide CG).mono ?_
      clear CG
      rintro e w5 ⟨rfl, rfl⟩
      go_wp2_with fail
      go_ret
      exact ⟨rfl, unhide KK⟩

theorem u8G {a : Int} (h : (Lit.int .u8 a).wf = true) : ∃ n : Nat, a = n ∧ n < 256 := by
  have h2 := bounds_u8 h
  exact ⟨a.toNat, by omega, by omega⟩
theorem limit_law (a : Int) (h : (Lit.int .u8 a).wf = true) (w : World) : Calls Try.prog 6 #[.int .u8 a] w fun e w' => e = .returned (.bool true) ∧ Kp w w' := by
  obtain ⟨n, rfl, hn⟩ := u8G h
  exact limit_any n hn w

end Go.Proofs.Ytenbmfhhmbfgoaa
