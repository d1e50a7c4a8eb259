
/- A scheduler: what an answer does to a task; one step. -/
import Derived.Test.YtenbmfhhmbfgoaaSchI
namespace Go.Proofs.Ytenbmfhhmbfgoaa
open Go.RowKit

def settleS (A : SS) (i : Nat) (r : Int) : SS :=
  if r = 3 then { A with ab := delL (i : Int) A.ab, ts := A.ts.set i tk0 }
  else if r = 2 then (if (A.ts.getD i tk0).2 = true then { A with ts := wokenT A.ts (i : Int) false } else { A with ab := delL (i : Int) A.ab, wt := insL (i : Int) A.wt })
  else A
theorem SOk.done {ps : List Int} {A : SS} (h : SOk ps A) {i : Nat} (hi : (i : Int) ∈ A.ab) : SOk ps { A with ab := delL (i : Int) A.ab, ts := A.ts.set i tk0 } := by
  have hh := (hasL_iff h.abr).2 hi
  have hl : (A.ts.set i tk0).length = A.ts.length := by simp
  refine ⟨?_, h.lps, h.psb, delL_rise h.abr, fun x hx => ?_, h.wtr, fun x hx => ?_, fun x hx hx2 => h.dj x hx ((delL_mem h.abr hh).1 hx2).1⟩
  · show (A.ts.set i tk0).length ≤ 128
    rw [hl]; exact h.lts
  · show 0 ≤ x ∧ x < ((A.ts.set i tk0).length : Int)
    rw [hl]
    exact h.abb x ((delL_mem h.abr hh).1 hx).1
  · show 0 ≤ x ∧ x < ((A.ts.set i tk0).length : Int)
    rw [hl]
    exact h.wtb x hx
theorem SOk.wait {ps : List Int} {A : SS} (h : SOk ps A) {i : Nat} (hi : (i : Int) ∈ A.ab) : SOk ps { A with ab := delL (i : Int) A.ab, wt := insL (i : Int) A.wt } := by
  have hh := (hasL_iff h.abr).2 hi
  refine ⟨h.lts, h.lps, h.psb, delL_rise h.abr, fun x hx => h.abb x ((delL_mem h.abr hh).1 hx).1, insL_rise h.wtr (fun e => h.dj _ e hi), fun x hx => ?_, fun x hx hx2 => ?_⟩
  · rcases insL_mem.1 hx with e | e
    · rw [e]; exact h.abb _ hi
    · exact h.wtb x e
  · obtain ⟨h1, h2⟩ := (delL_mem h.abr hh).1 hx2
    rcases insL_mem.1 hx with e | e
    · exact h2 e
    · exact h.dj x e h1
theorem SOk.numbers {ps : List Int} {A : SS} (h : SOk ps A) (k : Nat) (st : Bool) (now : Int) : SOk ps { A with k := k, st := st, now := now } :=
  ⟨h.lts, h.lps, h.psb, h.abr, h.abb, h.wtr, h.wtb, h.dj⟩
theorem OwnT.set {w : World} {g n cap : Nat} {ms : List (Value × Bool)} (h : OwnT w (.slice (some ⟨g, 0, none⟩) n cap) ms) (hn : ms.length = n) (i : Nat) (p : Value × Bool) : OwnT ((w.setCell ⟨g, i * 2, none⟩ p.1).setCell ⟨g, i * 2 + 1, none⟩ (.bool p.2)) (.slice (some ⟨g, 0, none⟩) n cap) (ms.set i p) := by
  unfold OwnT at h ⊢
  rw [tkC_set, List.length_set]
  subst hn
  exact ((h.stored _ _).1.stored _ _).1

set_option maxRecDepth 20000 in
set_option maxHeartbeats 4000000 in
theorem settle_any (s : Nat) (F : Nat → Prop) (ps : List Int) (A : SS) (i : Nat) (r : Int) (w : World) (h : Sc w s F ps A) (hi : (i : Int) ∈ A.ab) :
    Calls Try.prog 42 #[.pointer (some ⟨s, 0, none⟩), .int .i64 (i : Int), .int .i64 r] w fun e w' => e = .returned (.tuple #[]) ∧ ∃ F', Sc w' s F' ps (settleS A i r) ∧ Wd F F' w w' := by
  have l1 := h.lab
  have l2 := h.lwt
  have ok := h.ok
  have i1 := i64_of ok.abb ok.lts
  have i2 := i64_of ok.wtb ok.lts
  have hb := ok.abb _ hi
  have hb2 : i < A.ts.length := by omega
  have hh := (hasL_iff ok.abr).2 hi
  obtain ⟨pv, tv, av, wv, v⟩ := h.opn
  obtain ⟨-, c1, c2, c3, -, -, -⟩ := v.sb.cells
  obtain ⟨g, cap, rfl⟩ := v.tt.shape hb2
  have CT := hide (take_yes s 2 av A.ab (i : Int) w v.ao (by omega) i1 ok.abr c2 (v.sb.frozen 2) (own_ne_s v.sb v.ao (by decide)) hh)
  have hbi : (i : Int) < (A.ts.length : Int) := by omega
  by_cases h3 : r = 3
  · subst h3
    have CX : Hid (∀ w1, TakeR w w1 s 2 av (delL (i : Int) A.ab) → (∃ x, w1.cell? ⟨g, i * 2, none⟩ = some x) ∧ (∃ x, w1.cell? ⟨g, i * 2 + 1, none⟩ = some x) ∧ w1.frozen? ⟨g, i * 2, none⟩ = false ∧ w1.frozen? ⟨g, i * 2 + 1, none⟩ = false ∧ Hid (∃ F', Sc ((w1.setCell ⟨g, i * 2, none⟩ .nilFunc).setCell ⟨g, i * 2 + 1, none⟩ (.bool false)) s F' ps (settleS A i 3) ∧ Wd F F' w ((w1.setCell ⟨g, i * 2, none⟩ .nilFunc).setCell ⟨g, i * 2 + 1, none⟩ (.bool false)))) := by
      intro w1 ht
      obtain ⟨F1, av1, v1, d1⟩ := v.put_ab ht.put
      obtain ⟨t0, t1, tf⟩ := v1.tt.at rfl hb2
      refine ⟨⟨_, t0⟩, ⟨_, t1⟩, tf _, tf _, ?_⟩
      obtain ⟨v2, d2⟩ := v1.task (v1.tt.set rfl i tk0) (grown_trans (grown_cell w1 g (i * 2) tk0.1) (grown_cell _ g (i * 2 + 1) (.bool tk0.2)))
      refine ⟨F1, ?_, d1.trans d2⟩
      have e : settleS A i 3 = { A with ab := delL (i : Int) A.ab, ts := A.ts.set i tk0 } := by unfold settleS; rw [if_pos rfl]
      rw [e]
      exact v2.sc (ok.done hi)
    clear h v c2 c3 i1 i2 ok hb hh hi l1 l2
    have hst : ∀ (a : Addr) (w : World), (store a .nilFunc).run Try.prog w = stored Try.prog w a .nilFunc .plain := fun a w => run_store _ w a _ _ rfl
    generalize A.ts.length = n at *
    go_enter Try.func42, Try.ntmps42
    go_wp2_with fail
    refine (unhide CT).mono ?_
    clear CT
    rintro e w1 ⟨rfl, ht⟩
    obtain ⟨⟨x0, t0⟩, ⟨x1, t1⟩, f0, f1, HX⟩ := unhide CX w1 ht
    clear CX ht
    go_wp2_with fail
    refine bodyPost_end (v := .tuple #[]) (results_none Try.results42 _ _ _) rfl ⟨rfl, unhide HX⟩
  · by_cases h2 : r = 2
    · subst h2
      obtain ⟨t0, t1, tf⟩ := v.tt.at rfl hb2
      have tf1 := tf (i * 2 + 1)
      by_cases hk : (A.ts.getD i tk0).2 = true
      · rw [hk] at t1
        have e : settleS A i 2 = { A with ts := wokenT A.ts (i : Int) false } := by unfold settleS; rw [if_neg (by decide), if_pos rfl, if_pos hk]
        obtain ⟨v2, d2⟩ := v.task (v.tt.woken rfl (id := (i : Int)) false (by omega)) (grown_cell w g ((i : Int).toNat * 2 + 1) (.bool false))
        have HX : Hid (∃ F', Sc (w.setCell ⟨g, i * 2 + 1, none⟩ (.bool false)) s F' ps (settleS A i 2) ∧ Wd F F' w (w.setCell ⟨g, i * 2 + 1, none⟩ (.bool false))) := by
          rw [e]
          exact ⟨F, v2.sc (ok.woken _ _), d2⟩
        clear h v c2 c3 i1 i2 ok hb hh hi l1 l2 CT hk e v2 d2 tf t0
        generalize A.ts.length = n at *
        go_enter Try.func42, Try.ntmps42
        go_wp2_with fail
        refine bodyPost_end (v := .tuple #[]) (results_none Try.results42 _ _ _) rfl ⟨rfl, unhide HX⟩
      · have hk' : (A.ts.getD i tk0).2 = false := by simpa using hk
        rw [hk'] at t1
        have e : settleS A i 2 = { A with ab := delL (i : Int) A.ab, wt := insL (i : Int) A.wt } := by unfold settleS; rw [if_neg (by decide), if_pos rfl, if_neg hk]
        have CP : Hid (∀ w1, TakeR w w1 s 2 av (delL (i : Int) A.ab) → Calls Try.prog 31 #[.pointer (some ⟨s, 3, none⟩), .int .i64 (i : Int)] w1 fun e w' => e = .returned (.tuple #[]) ∧ Hid (∃ F', Sc w' s F' ps (settleS A i 2) ∧ Wd F F' w w')) := by
          intro w1 ht
          obtain ⟨F1, av1, v1, d1⟩ := v.put_ab ht.put
          obtain ⟨-, -, -, c3', -, -, -⟩ := v1.sb.cells
          refine (put_any s 3 wv A.wt (i : Int) w1 v1.wo (by omega) i2 ok.wtr c3' (v1.sb.frozen 3) (own_ne_s v1.sb v1.wo (by decide))).mono ?_
          rintro e' w' ⟨rfl, hp⟩
          obtain ⟨F2, wv2, v2, d2⟩ := v1.put_wt hp
          rw [e]
          exact ⟨rfl, F2, v2.sc (ok.wait hi), d1.trans d2⟩
        clear h v c2 c3 i1 i2 ok hb hh hi l1 l2 hk hk' e tf t0
        generalize A.ts.length = n at *
        go_enter Try.func42, Try.ntmps42
        go_wp2_with fail
        refine (unhide CT).mono ?_
        clear CT
        rintro e w1 ⟨rfl, ht⟩
        have CP2 := hide (unhide CP w1 ht)
        clear CP ht
        go_wp2_with fail
        refine (unhide CP2).mono ?_
        rintro e w2 ⟨rfl, HX⟩
        go_wp2_with fail
        refine bodyPost_end (v := .tuple #[]) (results_none Try.results42 _ _ _) rfl ⟨rfl, unhide HX⟩
    · have e : settleS A i r = A := by unfold settleS; rw [if_neg h3, if_neg h2]
      have HX : Hid (∃ F', Sc w s F' ps (settleS A i r) ∧ Wd F F' w w) := by rw [e]; exact ⟨F, h, Wd.refl _ _⟩
      clear h v c2 c3 i1 i2 ok hb hh hi l1 l2 CT e
      generalize A.ts.length = n at *
      go_enter Try.func42, Try.ntmps42
      go_wp2_with fail
      refine bodyPost_end (v := .tuple #[]) (results_none Try.results42 _ _ _) rfl ⟨rfl, unhide HX⟩

/-- what the step of a task leaves -/
def afterS (A : SS) (i : Nat) (r : Int) : SS := settleS { A with st := false, k := A.k + 1 } i r

set_option maxRecDepth 20000 in
set_option maxHeartbeats 4000000 in
theorem one_any (s : Nat) (F : Nat → Prop) (ps : List Int) (A : SS) (i : Nat) (f : Value) (Q : Int → SS → (Nat → Prop) → World → Prop) (w : World) (h : Sc w s F ps A) (hi : (i : Int) ∈ A.ab) (hf : (A.ts.getD i tk0).1 = wrapF f)
    (hstep : ∀ w1, Sc w1 s F ps { A with st := true, now := (i : Int) } → Wd F F w w1 → Calls Try.prog 30 #[f] w1 fun e w2 => ∃ r, e = .returned (.int .i64 r) ∧ ∃ A' F', Sc w2 s F' ps A' ∧ (i : Int) ∈ A'.ab ∧ A'.k ≤ 1000000000000 ∧ Q r A' F' w2) :
    Calls Try.prog 32 #[.pointer (some ⟨s, 0, none⟩), .int .i64 (i : Int)] w fun e w' => e = .returned (.tuple #[]) ∧ ∃ r A' F' w2 F'', Q r A' F' w2 ∧ Sc w' s F'' ps (afterS A' i r) ∧ Wd F' F'' w2 w' := by
  have hb := h.ok.abb _ hi
  have hb2 : i < A.ts.length := by omega
  obtain ⟨pv, tv, av, wv, v⟩ := h.opn
  obtain ⟨g, cap, rfl⟩ := v.tt.shape hb2
  obtain ⟨-, -, -, -, -, c5, c6⟩ := v.sb.cells
  have f5 := v.sb.frozen 5
  have f6 := v.sb.frozen 6
  obtain ⟨v1, d1⟩ := v.num (A' := { A with now := (i : Int) }) (v.sb.setnow (i : Int)) rfl rfl rfl
  obtain ⟨v2, d2⟩ := v1.num (A' := { A with st := true, now := (i : Int) }) (v1.sb.setst true) rfl rfl rfl
  have CS : Hid (Calls Try.prog 30 #[f] ((w.setCell ⟨s, 6, none⟩ (.int .i64 (i : Int))).setCell ⟨s, 5, none⟩ (.bool true)) fun e w2 => ∃ r, e = .returned (.int .i64 r) ∧ Hid (∃ A' F', Sc w2 s F' ps A' ∧ (i : Int) ∈ A'.ab ∧ A'.k ≤ 1000000000000 ∧ Q r A' F' w2)) :=
    hstep _ (v2.sc (h.ok.numbers _ _ _)) (d1.trans d2)
  obtain ⟨-, c1', -, -, -, -, -⟩ := v2.sb.cells
  obtain ⟨t0, -, -⟩ := v2.tt.at rfl hb2
  rw [show (A.ts.getD i tk0).1 = wrapF f from hf] at t0
  unfold wrapF at t0
  have hbi : (i : Int) < (A.ts.length : Int) := by omega
  have CW : Hid (∀ w2 r, (∃ A' F', Sc w2 s F' ps A' ∧ (i : Int) ∈ A'.ab ∧ A'.k ≤ 1000000000000 ∧ Q r A' F' w2) → ∃ k : Nat, k ≤ 1000000000000 ∧ w2.cell? ⟨s, 5, none⟩ = some (.bool true) ∨ True) := fun _ _ _ => ⟨0, .inr trivial⟩
  have CZ : Hid (∀ w2 r, Hid (∃ A' F', Sc w2 s F' ps A' ∧ (i : Int) ∈ A'.ab ∧ A'.k ≤ 1000000000000 ∧ Q r A' F' w2) → ∃ (k : Nat) (b : Bool), k ≤ 1000000000000 ∧ w2.cell? ⟨s, 5, none⟩ = some (.bool b) ∧ w2.frozen? ⟨s, 5, none⟩ = false ∧ w2.cell? ⟨s, 4, none⟩ = some (.int .i64 (k : Int)) ∧ w2.frozen? ⟨s, 4, none⟩ = false ∧
      Hid (Calls Try.prog 42 #[.pointer (some ⟨s, 0, none⟩), .int .i64 (i : Int), .int .i64 r] ((w2.setCell ⟨s, 5, none⟩ (.bool false)).setCell ⟨s, 4, none⟩ (.int .i64 ((k : Int) + 1))) fun e w' => e = .returned (.tuple #[]) ∧ Hid (∃ r A' F' w2 F'', Q r A' F' w2 ∧ Sc w' s F'' ps (afterS A' i r) ∧ Wd F' F'' w2 w'))) := by
    rintro w2 r ⟨A', F', h', hi', hk', q⟩
    obtain ⟨pv, tv, av, wv, v⟩ := h'.opn
    obtain ⟨-, -, -, -, c4, c5, -⟩ := v.sb.cells
    obtain ⟨v1, d1⟩ := v.num (A' := { A' with st := false }) (v.sb.setst false) rfl rfl rfl
    obtain ⟨v2, d2⟩ := v1.num (A' := { A' with st := false, k := A'.k + 1 }) (v1.sb.setk (A'.k + 1)) rfl rfl rfl
    have e : ((A'.k + 1 : Nat) : Int) = (A'.k : Int) + 1 := by omega
    rw [e] at v2 d2
    refine ⟨A'.k, A'.st, hk', c5, v.sb.frozen 5, c4, v.sb.frozen 4, (settle_any s F' ps _ i r _ (v2.sc (h'.ok.numbers _ _ _)) hi').mono ?_⟩
    rintro e w' ⟨rfl, F'', hs, hd⟩
    exact ⟨rfl, r, A', F', w2, F'', q, hs, (d1.trans d2).trans hd⟩
  clear h v v1 v2 d1 d2 hstep hb hi hf CW
  generalize A.ts.length = n at *
  go_enter Try.func32, Try.ntmps32
  go_wp2_with fail
  refine (unhide CS).mono ?_
  clear CS c5 c6 f5 f6 c1' t0
  rintro e w2 ⟨r, rfl, HQ⟩
  obtain ⟨k, b, hk, c5, f5, c4, f4, CT⟩ := unhide CZ w2 r HQ
  clear CZ HQ
  go_wp2_with fail
  refine (unhide CT).mono ?_
  clear CT
  rintro e w3 ⟨rfl, HX⟩
  go_wp2_with fail
  refine bodyPost_end (v := .tuple #[]) (results_none Try.results32 _ _ _) rfl ⟨rfl, unhide HX⟩

end Go.Proofs.Ytenbmfhhmbfgoaa
