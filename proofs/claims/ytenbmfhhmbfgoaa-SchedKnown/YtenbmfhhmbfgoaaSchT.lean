
/- SchedKnown. -/
import Derived.Test.YtenbmfhhmbfgoaaSchS
namespace Go.Proofs.Ytenbmfhhmbfgoaa
open Go.RowKit

def fK (M Sv : Nat) : Value := .func (.func 23) #[] #[.pointer (some ⟨M, 0, none⟩), .pointer (some ⟨Sv, 0, none⟩)]
def fK2 : Value := .func (.func 24) #[] #[]
def IK (s Sv M U uo : Nat) (v : Value) (c : Nat) (A : SS) (w : World) : Prop := Boxed w Sv 27 (.pointer (some ⟨s, 0, none⟩)) ∧ Boxed w M 3 (.int .i64 (c : Int)) ∧ w.cell? ⟨U, uo, none⟩ = some v ∧ ∀ i : Nat, ((i : Int) ∈ A.ab ∨ (i : Int) ∈ A.wt) → (i = 0 ∧ (A.ts.getD 0 tk0).1 = wrapF (fK M Sv) ∧ c ≤ 2) ∨ (i = 1 ∧ (A.ts.getD 1 tk0).1 = wrapF fK2)
def stepK (c : Nat) (A : SS) (i : Nat) : Int × Nat × SS := if i = 0 then (if c < 2 then 2 else 3, c + 1, (wakeS A 0).2) else (2, c, A)
theorem keepsK (W0 : World) (s Sv M U uo : Nat) (v : Value) : Keeps W0 (fun k => k = Sv ∨ k = M ∨ k = U) (IK s Sv M U uo v) := ⟨fun _ _ _ _ h _ _ hb => ⟨boxed_of h.1 (hb Sv (.inl rfl)), boxed_of h.2.1 (hb M (.inr (.inl rfl))), (World.cell?_of_block (hb U (.inr (.inr rfl)))).trans h.2.2.1, h.2.2.2⟩⟩

set_option maxHeartbeats 2000000 in
theorem closesK (W0 : World) (s Sv M U uo : Nat) (v : Value) (hM : W0.heap.size ≤ M) (hne : Sv ≠ M) (hU : U ≠ M) : Closes2 W0 (fun k => k = Sv ∨ k = M ∨ k = U) (IK s Sv M U uo v) s [] stepK := by
  intro c A F w hs hst h0 hp i hi hin
  obtain ⟨-, -, -, hfn⟩ := hp.i
  rcases hfn i (.inl hin) with ⟨rfl, hf, hc2⟩ | ⟨rfl, hf⟩
  · refine ⟨_, _, _, hf, Try.call23, fun w1 hs1 hp1 => ?_⟩
    obtain ⟨hb1, hb2, hb5, -⟩ := hp1.i
    have c0 := hb2.cell
    have f0 := hb2.frozen
    have hM1 : ¬ F M := fun e => (hp1.fx M e).2 (.inr (.inl rfl))
    have kc := grown_cell w1 M 0 (.int .i64 ((c : Int) + 1))
    have s2 := hs1.wide kc (by intro q e; cases e; exact hM1)
    have b1 : Boxed (w1.setCell ⟨M, 0, none⟩ (.int .i64 ((c : Int) + 1))) Sv 27 (.pointer (some ⟨s, 0, none⟩)) := boxed_of hb1 (kc.block Sv hb1.lt (by intro e; cases e; exact hne rfl))
    have b2 := hb2.set (.int .i64 ((c : Int) + 1))
    have q1 := b1.cell
    have ul := hp1.xl U (.inr (.inr rfl))
    have b6 := kc.block U ul (by intro e; cases e; exact hU rfl)
    have kp2 := (hp1.kp).of_grown kc (fun k e => by cases e; exact hM)
    have CW : Hid (Calls Try.prog 21 #[.pointer (some ⟨s, 0, none⟩), .int .i64 0] (w1.setCell ⟨M, 0, none⟩ (.int .i64 ((c : Int) + 1))) fun e w' => ∃ bb, e = .returned (.bool bb) ∧ w'.cell? ⟨M, 0, none⟩ = some (.int .i64 ((c : Int) + 1)) ∧ Hid (∃ F', Sc w' s F' [] (wakeS { A with st := true, now := ((0 : Nat) : Int) } 0).2 ∧ ((0 : Nat) : Int) ∈ (wakeS { A with st := true, now := ((0 : Nat) : Int) } 0).2.ab ∧ (wakeS { A with st := true, now := ((0 : Nat) : Int) } 0).2.k = A.k ∧ PC W0 (fun k => k = Sv ∨ k = M ∨ k = U) (IK s Sv M U uo v) (c + 1) (afterS (wakeS { A with st := true, now := ((0 : Nat) : Int) } 0).2 0 (if c < 2 then 2 else 3)) F' w')) := by
      refine (wake_any s F [] _ 0 _ s2).mono ?_
      rintro e w' ⟨rfl, F', hs', d⟩
      have wk := Wk.wake s2.ok 0
      have e1 := d.block M b2.lt hM1
      have b3 := boxed_of b2 e1
      have b4 := boxed_of b1 (d.block Sv b1.lt (fun e => (hp1.fx Sv e).2 (.inl rfl)))
      have hi2 := wk.ab _ hin
      refine ⟨_, rfl, b3.cell, F', hs', hi2, wk.k, Wd.kp kp2 d (fun k e => (hp1.fx k e).1), fun k e => ?_, ⟨b4, ?_, (World.cell?_of_block (w := w1) ((d.block U (Nat.lt_of_lt_of_le ul kc.size) (fun e => (hp1.fx U e).2 (.inr (.inr rfl)))).trans b6)).trans hb5, fun j hj => ?_⟩, fun k e => Nat.lt_of_lt_of_le (hp1.xl k e) (Nat.le_trans kc.size d.size)⟩
      · rcases d.new k e with e | e
        · exact hp1.fx k e
        · exact ⟨Nat.le_trans kp2.size e, fun x => by have := hp1.xl k x; have := kc.size; omega⟩
      · rw [show (((c + 1 : Nat)) : Int) = (c : Int) + 1 by omega]
        exact b3
      · have okA : SOk [] { (wakeS { A with st := true, now := ((0 : Nat) : Int) } 0).2 with st := false, k := (wakeS { A with st := true, now := ((0 : Nat) : Int) } 0).2.k + 1 } := ⟨hs'.ok.lts, hs'.ok.lps, hs'.ok.psb, hs'.ok.abr, hs'.ok.abb, hs'.ok.wtr, hs'.ok.wtb, hs'.ok.dj⟩
        obtain ⟨hx1, hx2⟩ := settle_un okA hi2 hj
        have hx3 := wk.un _ hx1
        rcases hfn j hx3 with ⟨rfl, g1, g2⟩ | ⟨rfl, g1⟩
        · have hr : ¬ (if c < 2 then (2 : Int) else 3) = 3 := fun e => hx2 e rfl
          refine .inl ⟨rfl, ?_, ?_⟩
          · unfold afterS
            rw [settle_fn _ _ _ _ (fun e => absurd e hr)]
            show ((wakeS _ _).2.ts.getD 0 tk0).1 = _
            rw [wk.fn]
            exact g1
          · by_cases h : c < 2
            · omega
            · rw [if_neg h] at hr
              exact absurd rfl hr
        · refine .inr ⟨rfl, ?_⟩
          unfold afterS
          rw [settle_fn _ _ _ _ (fun _ => by decide)]
          show ((wakeS _ _).2.ts.getD 1 tk0).1 = _
          rw [wk.fn]
          exact g1
    have e0 : stepK c { A with st := true, now := ((0 : Nat) : Int) } 0 = (if c < 2 then 2 else 3, c + 1, (wakeS { A with st := true, now := ((0 : Nat) : Int) } 0).2) := by unfold stepK; rw [if_pos rfl]
    rw [e0]
    have hcI : (c : Int) ≤ 2 := by omega
    clear hp hfn hf hs hs1 hp1 hb1 hb2 s2 b1 b2 kc kp2 e0 hi hin hb5 b6 ul
    by_cases hc : c < 2
    · have h3 : (c : Int) + 1 < 3 := by omega
      rw [if_pos hc] at CW ⊢
      go_enter Try.func23, Try.ntmps23
      go_wp2_with fail
      refine (unhide CW).mono ?_
      clear CW
      rintro e w3 ⟨bb, rfl, z0, HX⟩
      go_wp2_with fail
      go_ret
      exact ⟨rfl, unhide HX⟩
    · have h3 : ¬ (c : Int) + 1 < 3 := by omega
      rw [if_neg hc] at CW ⊢
      go_enter Try.func23, Try.ntmps23
      go_wp2_with fail
      refine (unhide CW).mono ?_
      clear CW
      rintro e w3 ⟨bb, rfl, z0, HX⟩
      go_wp2_with fail
      go_ret
      exact ⟨rfl, unhide HX⟩
  · refine ⟨_, _, _, hf, Try.call24, fun w1 hs1 hp1 => ?_⟩
    have e0 : stepK c { A with st := true, now := ((1 : Nat) : Int) } 1 = (2, c, { A with st := true, now := ((1 : Nat) : Int) }) := by unfold stepK; rw [if_neg (by decide)]
    rw [e0]
    have HX : Hid (∃ F', Sc w1 s F' [] { A with st := true, now := ((1 : Nat) : Int) } ∧ ((1 : Nat) : Int) ∈ A.ab ∧ A.k = A.k ∧ PC W0 (fun k => k = Sv ∨ k = M ∨ k = U) (IK s Sv M U uo v) c (afterS { A with st := true, now := ((1 : Nat) : Int) } 1 2) F' w1) := by
      obtain ⟨hb1, hb2, hb5, -⟩ := hp1.i
      refine ⟨F, hs1, hin, rfl, hp1.kp, hp1.fx, ⟨hb1, hb2, hb5, fun j hj => ?_⟩, hp1.xl⟩
      have okA : SOk [] { A with st := false, now := ((1 : Nat) : Int), k := A.k + 1 } := hs.ok.numbers _ _ _
      obtain ⟨hx1, -⟩ := settle_un okA hin hj
      unfold afterS
      rw [settle_fn _ _ _ _ (by decide), settle_fn _ _ _ _ (by decide)]
      exact hfn j hx1
    clear hp hfn hf hs hs1 hp1 e0 hi hin
    go_enter Try.func24, Try.ntmps24
    go_wp2_with fail
    go_ret
    obtain ⟨F', q1, q2, -, q4⟩ := unhide HX
    exact ⟨rfl, F', q1, q2, q4⟩

section
variable (M Sv : Nat)
def kA1 : SS := goS newS (fK M Sv)
def kA2 : SS := (runF [] stepK 10 (0, kA1 M Sv)).2.2.2
def kA3 : SS := goS (kA2 M Sv) fK2
def kA4 : SS := (runF [] stepK 10 (3, kA3 M Sv)).2.2.2
def kA5 : SS := (wakeS (kA4 M Sv) 1).2
def kA6 : SS := (wakeS (kA5 M Sv) 0).2
def kA7 : SS := (wakeS (kA6 M Sv) 9).2
theorem kr1 : runF [] stepK 10 (0, kA1 M Sv) = (3, 0, (3, kA2 M Sv)) := by kernel_rfl
theorem kr2 : runF [] stepK 10 (3, kA3 M Sv) = (1, 12, (3, kA4 M Sv)) := by kernel_rfl
theorem kr3 : runF [] stepK 0 (3, kA7 M Sv) = (0, 13, (3, kA7 M Sv)) := by kernel_rfl
theorem kl2 : (kA2 M Sv).ts.length = 1 := by kernel_rfl
theorem kk3 : (kA3 M Sv).k = 3 := by kernel_rfl
theorem kk7 : (kA7 M Sv).k = 4 := by kernel_rfl
theorem kk1 : (kA1 M Sv).k = 0 := by kernel_rfl
theorem kf3 : ((kA3 M Sv).ts.getD 1 tk0).1 = wrapF fK2 := by kernel_rfl
theorem kw4 : (kA4 M Sv).wt = [1] := by kernel_rfl
theorem kb1 : (wakeS (kA4 M Sv) 1).1 = true := by kernel_rfl
theorem kb2 : (wakeS (kA5 M Sv) 0).1 = false := by kernel_rfl
theorem kb3 : (wakeS (kA6 M Sv) 9).1 = false := by kernel_rfl
theorem kab : (kA7 M Sv).ab.length = 1 := by kernel_rfl
theorem kwt : (kA7 M Sv).wt.length = 0 := by kernel_rfl
end

theorem CO.sok {γ : Type} {W0 : World} {X : Nat → Prop} {I : γ → SS → World → Prop} {s : Nat} {ps : List Int} {c : γ} {A : SS} {w : World} (h : CO W0 X I s ps c A w) : SOk ps A := by
  obtain ⟨F, sc, -⟩ := h.at_
  exact sc.ok
theorem ik_wake {ps : List Int} {s Sv M U uo c : Nat} {v : Value} {A : SS} {w : World} (ok : SOk ps A) (h : IK s Sv M U uo v c A w) (id : Int) : IK s Sv M U uo v c (wakeS A id).2 w := by
  have wk := Wk.wake ok id
  refine ⟨h.1, h.2.1, h.2.2.1, fun i hi => ?_⟩
  rw [wk.fn, wk.fn]
  exact h.2.2.2 i (wk.un _ hi)
theorem ik_go {s Sv M U uo c : Nat} {v : Value} {A : SS} {w : World} (hl : A.ts.length = 1) (hc : ¬ c ≤ 2) (h : IK s Sv M U uo v c A w) : IK s Sv M U uo v c (goS A fK2) w := by
  obtain ⟨i1, i2, i4, i3⟩ := h
  refine ⟨i1, i2, i4, fun i hi => ?_⟩
  have hf : ((goS A fK2).ts.getD 1 tk0).1 = wrapF fK2 := by
    show ((A.ts ++ [_]).getD 1 tk0).1 = _
    rw [getD_snoc (by omega), if_pos hl.symm]
  have hi2 : i = 1 ∨ ((i : Int) ∈ A.ab ∨ (i : Int) ∈ A.wt) := by
    rcases hi with hi | hi
    · rcases insL_mem.1 hi with e | e
      · rw [hl] at e; left; omega
      · exact .inr (.inl e)
    · exact .inr (.inr hi)
  rcases hi2 with rfl | hi2
  · exact .inr ⟨rfl, hf⟩
  · rcases i3 i hi2 with ⟨rfl, q1, q2⟩ | ⟨rfl, q1⟩
    · exact absurd q2 hc
    · exact .inr ⟨rfl, hf⟩

theorem run_zero {W0 : World} {X : Nat → Prop} {I : Nat → SS → World → Prop} (hI : Keeps W0 X I) {s : Nat} (hC : Closes2 W0 X I s [] stepK) {c : Nat} {A : SS} {w : World} (h : CO W0 X I s [] c A w) (hk : A.k ≤ 1000000000000) (h1 : A.ab.length = 1) :
    Calls Try.prog 15 #[.pointer (some ⟨s, 0, none⟩), .int .i64 0] w fun e w' => e = .returned (.tuple #[.int .i64 0, .int .i64 13]) ∧ CO W0 X I s [] c A w' := by
  have e : runF [] stepK 0 (c, A) = (0, 13, (c, A)) := by
    unfold runF
    rw [if_neg (by rw [h1]; decide)]
  have hr := run2_co hI hC h (most := 0) (by decide) (by omega)
  rw [e] at hr
  exact hr
/-- what waits, in a row that is new -/
theorem clone_new (v : Value) (x : Int) (w : World) (h : Ints w v [x]) :
    Calls Try.prog 36 #[v] w fun e w' => ∃ g cap, e = .returned (.slice (some ⟨g, 0, none⟩) 1 cap) ∧ w'.cell? ⟨g, 0, none⟩ = some (.int .i64 x) ∧ w.heap.size ≤ g ∧ g < w'.heap.size ∧ Kp w w' := by
  have q : ∀ (w : World) (a : Option Addr) (n c n' c' : Nat), (binOp .eql 61 (.slice a n c) (.slice none n' c')).run Try.prog w = .ok (.bool a.isNone) w := fun w a n c n' c' => Lib.run_eql_slice_nil w _ _ a n c n' c' Try.underlying61
  have AP := hide (h.keep (Kp.alloc w (.cells #[] 3)))
  obtain ⟨a, cap, rfl, hv⟩ := h.val
  obtain ⟨b, off, rfl, -⟩ := hv (by simp)
  clear h hv
  have INFO := hide infoN
  have OW := hide (Own.lit w 3 [] #[] w.heap.size 0 w.heap.size rfl rfl rfl (Nat.le_refl _) (by decide))
  have BS : Hid (w.heap.size ≤ (w.alloc (.cells #[] 3)).heap.size) := (Kp.alloc _ _).size
  have KA := hide (Kp.alloc w (.cells #[] 3))
  have hl : [x].length = 1 := rfl
  rw [hl] at AP ⊢
  clear hl
  go_enter Try.func36, Try.ntmps36
  go_wp2_with (at_builtin; go_must (refine wpList_append_ints _ rfl (.tmp 5) (.tmp 6) 61 rfl w.heap.size 3 (unhide INFO) Try.underlying61 _ _ [] [x] rfl rfl (unhide OW) (unhide AP) (by show (0 + 1) * 8 ≤ 140737488351232; decide) (unhide BS) ?_); intro v2 w2 o2 g2)
  have HX : Hid (∃ g cap, v2 = .slice (some ⟨g, 0, none⟩) 1 cap ∧ w2.cell? ⟨g, 0, none⟩ = some (.int .i64 x) ∧ w.heap.size ≤ g ∧ g < w2.heap.size) := by
    have h2 := o2
    obtain ⟨_, ⟨_, e⟩ | ⟨g, cap, cur, rfl, hg, hh, _⟩⟩ := o2
    · simp at e
    · exact ⟨g, cap, rfl, h2.cellAt 0 (by simp), hg, (Array.getElem?_eq_some_iff.1 hh).1⟩
  have K2 := hide ((unhide KA).of_grown g2 (fun k hk => (unhide OW).block k hk))
  clear o2 g2
  obtain ⟨g, cap, rfl, q1, q2, q3⟩ := unhide HX
  go_wp2
  go_ret
  exact ⟨g, cap, rfl, q1, q2, q3, unhide K2⟩
theorem waiting2_any (s : Nat) (F : Nat → Prop) (ps : List Int) (A : SS) (x : Int) (w : World) (h : Sc w s F ps A) (hw : A.wt = [x]) :
    Calls Try.prog 20 #[.pointer (some ⟨s, 0, none⟩)] w fun e w' => ∃ g cap, e = .returned (.slice (some ⟨g, 0, none⟩) 1 cap) ∧ w'.cell? ⟨g, 0, none⟩ = some (.int .i64 x) ∧ w.heap.size ≤ g ∧ g < w'.heap.size ∧ Kp w w' := by
  obtain ⟨pv, tv, av, wv, v⟩ := h.opn
  obtain ⟨-, -, -, c3, -, -, -⟩ := v.sb.cells
  have hI := v.wo.ints (i64_of h.ok.wtb h.ok.lts) (by rw [hw]; simp)
  rw [hw] at hI
  have CC : Hid (Calls Try.prog 36 #[wv] w fun e w' => ∃ g cap, e = .returned (.slice (some ⟨g, 0, none⟩) 1 cap) ∧ Hid (w'.cell? ⟨g, 0, none⟩ = some (.int .i64 x) ∧ w.heap.size ≤ g ∧ g < w'.heap.size ∧ Kp w w')) := clone_new wv x w hI
  obtain ⟨b, bcap, rfl, -⟩ := v.wo.shape
  rw [hw] at CC c3
  clear h v hI hw
  go_enter Try.func20, Try.ntmps20
  go_wp2_with fail
  refine (unhide CC).mono ?_
  clear CC
  rintro e w1 ⟨g, cap, rfl, HX⟩
  go_wp2_with fail
  go_ret
  exact ⟨g, cap, rfl, unhide HX⟩
theorem waiting2_co {W0 : World} {s Sv M : Nat} {v : Value} {c : Nat} {A : SS} {w : World} {x : Int} (h : CO W0 (fun k => k = Sv ∨ k = M ∨ k = Sv) (IK s Sv M Sv 0 v) s [] c A w) (hw : A.wt = [x]) :
    Calls Try.prog 20 #[.pointer (some ⟨s, 0, none⟩)] w fun e w' => ∃ g cap, e = .returned (.slice (some ⟨g, 0, none⟩) 1 cap) ∧ w'.cell? ⟨g, 0, none⟩ = some (.int .i64 x) ∧ CO W0 (fun k => k = Sv ∨ k = M ∨ k = g) (IK s Sv M g 0 (.int .i64 x)) s [] c A w' ∧ g ≠ M := by
  obtain ⟨F, sc, p⟩ := h.at_
  refine (waiting2_any s F [] A x w sc hw).mono ?_
  rintro e w' ⟨g, cap, rfl, q1, q2, q3, k⟩
  obtain ⟨i1, i2, i3, i4⟩ := p.i
  have lS := i1.lt
  have lM := i2.lt
  refine ⟨g, cap, rfl, q1, ⟨h.st, F, sc.keep k, p.kp.trans k, fun q e => ⟨(p.fx q e).1, ?_⟩, ⟨boxed_of i1 (k.block _ lS), boxed_of i2 (k.block _ lM), q1, i4⟩, ?_⟩, by omega⟩
  · have := sc.fb q e
    rintro (e2 | e2 | e2)
    · exact (p.fx q e).2 (.inl e2)
    · exact (p.fx q e).2 (.inr (.inl e2))
    · omega
  · have := k.size
    rintro q (e2 | e2 | e2)
    · omega
    · omega
    · omega

set_option maxRecDepth 20000 in
set_option maxHeartbeats 8000000 in
theorem known15_any (w : World) : Calls Try.prog 4 #[] w fun e w' => e = .returned (.bool true) ∧ Kp w w' := by
  have HA := hide (awake15_any w)
  have HN := hide (fun w1 => snew_any (.slice none 0 0) [] w1 (Bys.nil w1))
  go_enter Try.func4, Try.ntmps4
  go_wp2_with fail
  refine (unhide HA).mono ?_
  clear HA
  rintro e w1 ⟨rfl, k1⟩
  have K1 := hide k1
  clear k1
  go_wp2_with fail
  refine (unhide HN w1).mono ?_
  clear HN
  rintro e w2 ⟨s, F, rfl, sc, k2, hF⟩
  have SC := hide sc
  have HF := hide hF
  have K2 := hide ((unhide K1).trans k2)
  have K12 := hide k2
  clear sc k2 hF
  go_wp2_with fail
  have D0 : Hid (CO w (fun k => k = w2.heap.size ∨ k = w2.heap.size + 1 ∨ k = w2.heap.size) (IK s w2.heap.size (w2.heap.size + 1) w2.heap.size 0 (.pointer (some ⟨s, 0, none⟩))) s [] 0 newS ((w2.alloc (.cells #[.pointer (some ⟨s, 0, none⟩)] 27)).alloc (.cells #[.int .i64 0] 3))) := by
    have ka := Kp.alloc w2 (.cells #[.pointer (some ⟨s, 0, none⟩)] 27)
    have kb := Kp.alloc (w2.alloc (.cells #[.pointer (some ⟨s, 0, none⟩)] 27)) (.cells #[.int .i64 0] 3)
    refine ⟨rfl, F, ((unhide SC).keep ka).keep kb, ((unhide K2).trans ka).trans kb, fun k e => ⟨Nat.le_trans (unhide K1).size (unhide HF k e), fun e2 => by have := (unhide SC).fb k e; omega⟩, ⟨?_, ?_, ?_, (by intro i hi; simp [newS] at hi)⟩, fun k e => by rw [size_alloc, size_alloc]; omega⟩
    · refine boxed_of (w := w2.alloc (.cells #[.pointer (some ⟨s, 0, none⟩)] 27)) ?_ (kb.block _ (by rw [size_alloc]; omega))
      unfold Boxed
      simp only [World.alloc, Array.getElem?_push_size]
    · unfold Boxed
      rw [show w2.heap.size + 1 = (w2.alloc (.cells #[.pointer (some ⟨s, 0, none⟩)] 27)).heap.size by rw [size_alloc]]
      simp only [World.alloc, Array.getElem?_push_size]
      rfl
    · have z : Boxed (w2.alloc (.cells #[.pointer (some ⟨s, 0, none⟩)] 27)) w2.heap.size 27 (.pointer (some ⟨s, 0, none⟩)) := by
        unfold Boxed
        simp only [World.alloc, Array.getElem?_push_size]
      exact (boxed_of z (kb.block _ (by rw [size_alloc]; omega))).cell
  have hM : Hid (w.heap.size ≤ w2.heap.size + 1) := Nat.le_succ_of_le (unhide K2).size
  have hne : Hid (w2.heap.size ≠ w2.heap.size + 1) := by unfold Hid; omega
  clear SC HF K2 K12 K1
  generalize (w2.alloc (.cells #[.pointer (some ⟨s, 0, none⟩)] 27)).alloc (.cells #[.int .i64 0] 3) = W at *
  generalize w2.heap.size + 1 = M at *
  generalize w2.heap.size = Sv at *
  have kI := hide (keepsK w s Sv M Sv 0 (.pointer (some ⟨s, 0, none⟩)))
  have cI := hide (closesK w s Sv M Sv 0 (.pointer (some ⟨s, 0, none⟩)) (unhide hM) (unhide hne) (unhide hne))
  have CL := hide (fun (c : Nat) (A : SS) (w' : World) (h : CO w (fun k => k = Sv ∨ k = M ∨ k = Sv) (IK s Sv M Sv 0 (.pointer (some ⟨s, 0, none⟩))) s [] c A w') => h.i.1.1.cell)
  have G1 : Hid (Calls Try.prog 12 #[.pointer (some ⟨s, 0, none⟩), fK M Sv] W fun e w' => e = .returned (.tuple #[.int .i64 0, .int .i64 0]) ∧ CO w (fun k => k = Sv ∨ k = M ∨ k = Sv) (IK s Sv M Sv 0 (.pointer (some ⟨s, 0, none⟩))) s [] 0 (kA1 M Sv) w') := by
    refine go_co (unhide kI) (unhide D0) (n := 0) rfl (by decide) _ _ _ ?_
    rintro w' ⟨i1, i2, i4, -⟩
    refine ⟨i1, i2, i4, fun i hi => .inl ?_⟩
    have hi0 : i = 0 := by
      rcases hi with hi | hi
      · rcases insL_mem.1 hi with e | e
        · simp [newS] at e; omega
        · simp [newS] at e
      · simp [goS, newS] at hi
    exact ⟨hi0, rfl, by decide⟩
  unfold fK at G1
  clear D0
  refine (unhide G1).mono ?_
  clear G1
  rintro e w3 ⟨rfl, h3⟩
  have c3 := unhide CL _ _ _ h3
  have R1 := hide (run2_co (unhide kI) (unhide cI) h3 (most := 10) (by decide) (by rw [kk1]; decide))
  rw [kr1] at R1
  have GN := hide (go_nil s w3)
  clear h3
  go_wp2_with fail
  refine (unhide GN).mono ?_
  clear GN
  rintro e w4 ⟨rfl, rfl⟩
  go_wp2_with fail
  refine (unhide R1).mono ?_
  clear R1 c3
  rintro e w5 ⟨rfl, h5⟩
  have c5 := unhide CL _ _ _ h5
  have G2 : Hid (Calls Try.prog 12 #[.pointer (some ⟨s, 0, none⟩), .func (.func 24) #[] #[]] w5 fun e w' => e = .returned (.tuple #[.int .i64 ((1 : Nat) : Int), .int .i64 0]) ∧ CO w (fun k => k = Sv ∨ k = M ∨ k = Sv) (IK s Sv M Sv 0 (.pointer (some ⟨s, 0, none⟩))) s [] 3 (kA3 M Sv) w') := by
    have hl := kl2 M Sv
    unfold kA3
    generalize kA2 M Sv = A at *
    exact go_co (unhide kI) h5 (n := 1) hl (by decide) _ _ _ (fun w' h => ik_go hl (by decide) h)
  clear h5
  go_wp2_with fail
  refine (unhide G2).mono ?_
  clear G2 c5
  rintro e w6 ⟨rfl, h6⟩
  have c6 := unhide CL _ _ _ h6
  have R2 := hide (run2_co (unhide kI) (unhide cI) h6 (most := 10) (by decide) (by rw [kk3]; decide))
  rw [kr2] at R2
  clear h6
  go_wp2_with fail
  refine (unhide R2).mono ?_
  clear R2 c6
  rintro e w7 ⟨rfl, h7⟩
  have c7 := unhide CL _ _ _ h7
  have WT := hide (waiting2_co h7 (kw4 M Sv))
  go_wp2_with fail
  refine (unhide WT).mono ?_
  clear WT c7 CL kI cI
  rintro e w8 ⟨ub, uc, rfl, U0, h8⟩
  have h8' := hide h8
  clear h8 h7
  have kI := hide (keepsK w s Sv M ub 0 (.int .i64 1))
  have cI := hide (closesK w s Sv M ub 0 (.int .i64 1) (unhide hM) (unhide hne) (unhide h8').2)
  have CL := hide (fun (c : Nat) (A : SS) (w' : World) (h : CO w (fun k => k = Sv ∨ k = M ∨ k = ub) (IK s Sv M ub 0 (.int .i64 1)) s [] c A w') => h.i.1.1.cell)
  have c8 := unhide CL _ _ _ (unhide h8').1
  have C1 : Hid (∀ w0, Kp w8 w0 → Calls Try.prog 21 #[.pointer (some ⟨s, 0, none⟩), .int .i64 1] w0 fun e w' => e = .returned (.bool true) ∧ Hid (CO w (fun k => k = Sv ∨ k = M ∨ k = ub) (IK s Sv M ub 0 (.int .i64 1)) s [] 3 (kA5 M Sv) w') ∧ w'.cell? ⟨Sv, 0, none⟩ = some (.pointer (some ⟨s, 0, none⟩))) := by
    intro w0 k0
    have hb := kb1 M Sv
    unfold kA5
    generalize kA4 M Sv = A at *
    refine (wake_co (unhide kI) ((unhide h8').1.keep (unhide kI) k0) 1 (fun w' h => ik_wake (unhide h8').1.sok h 1)).mono ?_
    rw [hb]
    rintro e w' ⟨rfl, hc⟩
    exact ⟨rfl, hc, unhide CL _ _ _ hc⟩
  have C2 : Hid (∀ w0, CO w (fun k => k = Sv ∨ k = M ∨ k = ub) (IK s Sv M ub 0 (.int .i64 1)) s [] 3 (kA5 M Sv) w0 → Calls Try.prog 21 #[.pointer (some ⟨s, 0, none⟩), .int .i64 0] w0 fun e w' => e = .returned (.bool false) ∧ Hid (CO w (fun k => k = Sv ∨ k = M ∨ k = ub) (IK s Sv M ub 0 (.int .i64 1)) s [] 3 (kA6 M Sv) w') ∧ w'.cell? ⟨Sv, 0, none⟩ = some (.pointer (some ⟨s, 0, none⟩))) := by
    intro w0 h0
    have hb := kb2 M Sv
    unfold kA6
    generalize kA5 M Sv = A at *
    refine (wake_co (unhide kI) h0 0 (fun w' h => ik_wake h0.sok h 0)).mono ?_
    rw [hb]
    rintro e w' ⟨rfl, hc⟩
    exact ⟨rfl, hc, unhide CL _ _ _ hc⟩
  have C3 : Hid (∀ w0, CO w (fun k => k = Sv ∨ k = M ∨ k = ub) (IK s Sv M ub 0 (.int .i64 1)) s [] 3 (kA6 M Sv) w0 → Calls Try.prog 21 #[.pointer (some ⟨s, 0, none⟩), .int .i64 9] w0 fun e w' => e = .returned (.bool false) ∧ Hid (CO w (fun k => k = Sv ∨ k = M ∨ k = ub) (IK s Sv M ub 0 (.int .i64 1)) s [] 3 (kA7 M Sv) w') ∧ w'.cell? ⟨Sv, 0, none⟩ = some (.pointer (some ⟨s, 0, none⟩))) := by
    intro w0 h0
    have hb := kb3 M Sv
    unfold kA7
    generalize kA6 M Sv = A at *
    refine (wake_co (unhide kI) h0 9 (fun w' h => ik_wake h0.sok h 9)).mono ?_
    rw [hb]
    rintro e w' ⟨rfl, hc⟩
    exact ⟨rfl, hc, unhide CL _ _ _ hc⟩
  clear U0
  go_wp2_with fail
  go_region_held3 (fun w' => w'.cell? ⟨Sv, 0, none⟩ = some (.pointer (some ⟨s, 0, none⟩))) (go_keep)
    (first
      | (go_at_call 21; (have q := Y2; clear q); refine ((unhide C3) _ (unhide Y2)).mono ?_; rintro e w11 ⟨rfl, Y3, y3⟩)
      | (go_at_call 21; (have q := Y1; clear q); refine ((unhide C2) _ (unhide Y1)).mono ?_; rintro e w10 ⟨rfl, Y2, y2⟩)
      | (go_at_call 21; refine ((unhide C1) _ ?_).mono ?_; (first | exact Kp.drew w8 | exact Kp.refl w8); rintro e w9 ⟨rfl, Y1, y1⟩))
  all_goals (
    clear C1 C2 C3 c8 y1 y2 Y1 Y2 h8'
    have R0 : Hid (∀ most : Int, (most < 0 ∨ 1048576 < most) → Calls Try.prog 15 #[.pointer (some ⟨s, 0, none⟩), .int .i64 most] w11 fun e w' => e = .returned (.tuple #[.int .i64 0, .int .i64 1]) ∧ w' = w11) := by
      intro most hm
      have h := unhide Y3
      obtain ⟨F, sc, -⟩ := h.at_
      exact run_refuses s F [] _ most w11 sc h.st hm
    have RA := hide (unhide R0 (-1) (by decide))
    have RB := hide (unhide R0 1048577 (by decide))
    have RC : Hid (Calls Try.prog 15 #[.pointer (some ⟨s, 0, none⟩), .int .i64 0] w11 fun e w' => e = .returned (.tuple #[.int .i64 0, .int .i64 13]) ∧ Hid (CO w (fun k => k = Sv ∨ k = M ∨ k = ub) (IK s Sv M ub 0 (.int .i64 1)) s [] 3 (kA7 M Sv) w')) := run_zero (unhide kI) (unhide cI) (unhide Y3) (by rw [kk7]; decide) (kab M Sv)
    clear R0 Y3
    go_wp2_with fail
    refine (unhide RA).mono ?_
    clear RA
    rintro e w12 ⟨rfl, rfl⟩
    go_wp2_with fail
    refine (unhide RB).mono ?_
    clear RB
    rintro e w13 ⟨rfl, rfl⟩
    go_wp2_with fail
    refine (unhide RC).mono ?_
    clear RC y3
    rintro e w14 ⟨rfl, h14⟩
    have c14 := unhide CL _ _ _ (unhide h14)
    have u14 := (unhide h14).i.1.2.2.1
    have OP := hide (open_co (unhide kI) (unhide h14))
    rw [kab, kwt] at OP
    clear h14
    go_wp2_with fail
    refine (unhide OP).mono ?_
    clear OP c14 u14
    rintro e w15 ⟨rfl, h15⟩
    have c15 := unhide CL _ _ _ h15
    have NW := hide (now_co h15)
    have KK := hide h15.i.2
    clear h15
    go_wp2_with fail
    refine (unhide NW).mono ?_
    clear NW
    rintro e w16 ⟨rfl, rfl⟩
    go_wp2_with fail
    go_ret
    exact ⟨rfl, unhide KK⟩)

end Go.Proofs.Ytenbmfhhmbfgoaa
