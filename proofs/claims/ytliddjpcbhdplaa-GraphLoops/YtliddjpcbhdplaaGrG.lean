
/- The contracts of the ten checks of a node. -/
import Derived.Test.YtliddjpcbhdplaaGrC
import Derived.Test.YtliddjpcbhdplaaGa
import Derived.Deep.QuietTactic
import Derived.BigQuiet
namespace Go.Proofs.Ytliddjpcbhdplaa
open Go.RowKit

def unE (b : Bool) (e : Int) : Int := if b then 0 else e
def mayOp (op : Int) : Bool := decide (1 ≤ op) && decide (op ≤ 16)
def manyZ (op : Int) : Int :=
  if mayOp op = false then -1 else if op = 1 ∨ op = 2 ∨ op = 3 then 0 else if op = 4 ∨ op = 5 ∨ op = 6 ∨ op = 7 ∨ op = 12 then 2 else 1

/-- the slices of a node that lies by itself -/
structure NdR (w : World) (a1 a2 a4 a5 a6 : Option Addr) (c1 c2 c4 c5 c6 : Nat) (n : Nd) : Prop where
  wop : I64 n.op
  wno : I64 n.no
  inn : Ints w (.slice a1 n.inn.length c1) n.inn
  tt : Ints w (.slice a2 n.tt.length c2) n.tt
  s : Ints w (.slice a4 n.s.length c4) n.s
  d : Flts w (.slice a5 n.d.length c5) n.d
  hk : Hooks w (.slice a6 n.hk.length c6) n.hk
theorem NdR.keep {w w' : World} {a1 a2 a4 a5 a6 : Option Addr} {c1 c2 c4 c5 c6 : Nat} {n : Nd} (h : NdR w a1 a2 a4 a5 a6 c1 c2 c4 c5 c6 n) (k : Kp w w') : NdR w' a1 a2 a4 a5 a6 c1 c2 c4 c5 c6 n :=
  ⟨h.wop, h.wno, h.inn.keep k, h.tt.keep k, h.s.keep k, h.d.keep k, h.hk.keep k⟩

set_option maxHeartbeats 400000 in
theorem unless_any (b : Bool) (e : Int) (w : World) : Calls Try.prog 41 #[.bool b, .int .i64 e] w fun r w' => r = .returned (.int .i64 (unE b e)) ∧ w' = w := by
  cases b
  · go_enter Try.func41, Try.ntmps41
    go_wp2
    go_ret
    exact ⟨rfl, rfl⟩
  · go_enter Try.func41, Try.ntmps41
    go_wp2
    go_ret
    exact ⟨rfl, rfl⟩
set_option maxHeartbeats 400000 in
theorem opmay_any (op : Int) (w : World) : Calls Try.prog 42 #[.int .i64 op] w fun r w' => r = .returned (.bool (mayOp op)) ∧ w' = w := by
  by_cases h0 : 1 ≤ op
  · have E1 : decide (1 ≤ op) = true := decide_eq_true h0
    have E : Hid (mayOp op = decide (op ≤ 16)) := by unfold Hid mayOp; rw [E1]; rfl
    go_enter Try.func42, Try.ntmps42
    go_wp2
    go_ret
    exact ⟨ret_bool (unhide E).symm, rfl⟩
  · have E1 : decide (1 ≤ op) = false := decide_eq_false h0
    have E : Hid (mayOp op = false) := by unfold Hid mayOp; rw [E1]; rfl
    go_enter Try.func42, Try.ntmps42
    go_wp2
    go_ret
    exact ⟨ret_bool (unhide E).symm, rfl⟩
set_option maxHeartbeats 4000000 in
theorem opmany_any (op : Int) (w : World) : Calls Try.prog 43 #[.int .i64 op] w fun r w' => r = .returned (.int .i64 (manyZ op)) ∧ w' = w := by
  by_cases hm : mayOp op = true
  · have h1 : 1 ≤ op ∧ op ≤ 16 := by unfold mayOp at hm; simpa using hm
    have h2 : op = 1 ∨ op = 2 ∨ op = 3 ∨ op = 4 ∨ op = 5 ∨ op = 6 ∨ op = 7 ∨ op = 8 ∨ op = 9 ∨ op = 10 ∨ op = 11 ∨ op = 12 ∨ op = 13 ∨ op = 14 ∨ op = 15 ∨ op = 16 := by omega
    clear h1 hm
    rcases h2 with rfl | rfl | rfl | rfl | rfl | rfl | rfl | rfl | rfl | rfl | rfl | rfl | rfl | rfl | rfl | rfl
    all_goals
      go_enter Try.func43, Try.ntmps43
      go_wp2_with (go_at_call 42; refine (opmay_any _ _).mono ?_; rintro e w' ⟨rfl, rfl⟩)
      go_ret
      exact ⟨rfl, rfl⟩
  · have hm' := eq_false_of_ne_true hm
    have E : Hid (manyZ op = -1) := if_pos hm'
    clear hm
    go_enter Try.func43, Try.ntmps43
    go_wp2_with (go_at_call 42; refine (opmay_any _ _).mono ?_; rw [hm']; rintro e w' ⟨rfl, rfl⟩)
    go_ret
    exact ⟨ret_int (unhide E).symm, rfl⟩
set_option maxRecDepth 20000 in
set_option maxHeartbeats 2000000 in
theorem operator_any (gc : Int) (la : Option Addr) (lc : Nat) (lv : List (List Int)) (at_ : Int) (a1 a2 a4 a5 a6 : Option Addr) (c1 c2 c4 c5 c6 : Nat) (n : Nd) (w : World) (hl : Rows2 w (.slice la lv.length lc) lv) (hn : NdR w a1 a2 a4 a5 a6 c1 c2 c4 c5 c6 n) :
    Calls Try.prog 23 #[.agg #[.int .i64 gc, .slice la lv.length lc], .int .i64 at_, .agg #[.int .i64 n.op, .slice a1 n.inn.length c1, .slice a2 n.tt.length c2, .int .i64 n.no, .slice a4 n.s.length c4, .slice a5 n.d.length c5, .slice a6 n.hk.length c6]] w fun e w' => e = .returned (.int .i64 (unE (mayOp n.op) 4)) ∧ Kp w w' := by
  have HN := hide hn
  have HL := hide hl
  clear hn hl
  go_enter Try.func23, Try.ntmps23
  go_wp2_with (first | (go_at_call 42; refine (opmay_any _ _).mono ?_; rintro e w' ⟨rfl, rfl⟩) | (go_at_call 41; refine (unless_any _ _ _).mono ?_; rintro e w' ⟨rfl, rfl⟩))
  go_ret
  exact ⟨rfl, ((Kp.alloc _ _).trans (Kp.alloc _ _))⟩

set_option maxRecDepth 20000 in
set_option maxHeartbeats 2000000 in
theorem many_any (gc : Int) (la : Option Addr) (lc : Nat) (lv : List (List Int)) (at_ : Int) (a1 a2 a4 a5 a6 : Option Addr) (c1 c2 c4 c5 c6 : Nat) (n : Nd) (w : World) (hl : Rows2 w (.slice la lv.length lc) lv) (hn : NdR w a1 a2 a4 a5 a6 c1 c2 c4 c5 c6 n) :
    Calls Try.prog 24 #[.agg #[.int .i64 gc, .slice la lv.length lc], .int .i64 at_, .agg #[.int .i64 n.op, .slice a1 n.inn.length c1, .slice a2 n.tt.length c2, .int .i64 n.no, .slice a4 n.s.length c4, .slice a5 n.d.length c5, .slice a6 n.hk.length c6]] w fun e w' => e = .returned (.int .i64 (unE (decide ((n.inn.length : Int) = manyZ n.op)) 1)) ∧ Kp w w' := by
  have HN := hide hn
  have HL := hide hl
  clear hn hl
  have E : Hid (decide ((n.inn.length : Int) = manyZ n.op) = ((n.inn.length : Int) == manyZ n.op)) := by
    unfold Hid
    by_cases h : (n.inn.length : Int) = manyZ n.op
    · rw [decide_eq_true h, h]; simp
    · rw [decide_eq_false h]; exact (beq_eq_false_iff_ne.2 h).symm
  have hle := (unhide HN).inn.room
  rw [unhide E]
  go_enter Try.func24, Try.ntmps24
  go_wp2_with fail
  have g1 : ∀ x W, Calls Try.prog 43 #[.int .i64 x] W fun e w' => e = .returned (.int .i64 (manyZ x)) ∧ w' = W := fun x W => opmany_any x W
  go_quiet (first | (go_at_call 43; exact Calls.quiet_of_same (g1 _ _)) | (go_at_call 41; exact Calls.quiet_of_same (unless_any _ _ _)))
  go_wp2
  go_ret
  exact ⟨rfl, ((Kp.alloc _ _).trans (Kp.alloc _ _)).trans (Kp.drewN _ _)⟩

set_option maxRecDepth 20000 in
set_option maxHeartbeats 2000000 in
theorem param_any (gc : Int) (la : Option Addr) (lc : Nat) (lv : List (List Int)) (at_ : Int) (a1 a2 a4 a5 a6 : Option Addr) (c1 c2 c4 c5 c6 : Nat) (n : Nd) (w : World) (hl : Rows2 w (.slice la lv.length lc) lv) (hn : NdR w a1 a2 a4 a5 a6 c1 c2 c4 c5 c6 n) :
    Calls Try.prog 25 #[.agg #[.int .i64 gc, .slice la lv.length lc], .int .i64 at_, .agg #[.int .i64 n.op, .slice a1 n.inn.length c1, .slice a2 n.tt.length c2, .int .i64 n.no, .slice a4 n.s.length c4, .slice a5 n.d.length c5, .slice a6 n.hk.length c6]] w fun e w' => e = .returned (.int .i64 (unE (decide (n.op ≠ 3) || decide (at_ = 0)) 1)) ∧ Kp w w' := by
  have HN := hide hn
  have HL := hide hl
  clear hn hl
  by_cases h3 : n.op = 3
  · have q3 : (n.op != 3) = false := by rw [h3]; rfl
    have E : Hid ((decide (n.op ≠ 3) || decide (at_ = 0)) = (at_ == 0)) := by
      unfold Hid
      rw [decide_eq_false (fun h => h h3)]
      by_cases h0 : at_ = 0
      · subst h0; rfl
      · rw [decide_eq_false h0]; exact (beq_eq_false_iff_ne.2 h0).symm
    rw [unhide E]
    go_enter Try.func25, Try.ntmps25
    go_wp2_with (go_at_call 41; refine (unless_any _ _ _).mono ?_; rintro e w' ⟨rfl, rfl⟩)
    go_ret
    exact ⟨rfl, ((Kp.alloc _ _).trans (Kp.alloc _ _))⟩
  · have q3 : (n.op != 3) = true := bne_iff_ne.2 h3
    have E : Hid ((decide (n.op ≠ 3) || decide (at_ = 0)) = true) := by unfold Hid; rw [decide_eq_true h3]; rfl
    rw [unhide E]
    go_enter Try.func25, Try.ntmps25
    go_wp2_with (go_at_call 41; refine (unless_any _ _ _).mono ?_; rintro e w' ⟨rfl, rfl⟩)
    go_ret
    exact ⟨rfl, ((Kp.alloc _ _).trans (Kp.alloc _ _))⟩

set_option maxRecDepth 20000 in
set_option maxHeartbeats 2000000 in
theorem called_any (gc : Int) (la : Option Addr) (lc : Nat) (lv : List (List Int)) (at_ : Int) (a1 a2 a4 a5 a6 : Option Addr) (c1 c2 c4 c5 c6 : Nat) (n : Nd) (w : World) (hl : Rows2 w (.slice la lv.length lc) lv) (hn : NdR w a1 a2 a4 a5 a6 c1 c2 c4 c5 c6 n) :
    Calls Try.prog 28 #[.agg #[.int .i64 gc, .slice la lv.length lc], .int .i64 at_, .agg #[.int .i64 n.op, .slice a1 n.inn.length c1, .slice a2 n.tt.length c2, .int .i64 n.no, .slice a4 n.s.length c4, .slice a5 n.d.length c5, .slice a6 n.hk.length c6]] w fun e w' => e = .returned (.int .i64 (unE (decide (n.op ≠ 16) || (decide (0 ≤ n.no) && decide (n.no < gc))) 6)) ∧ Kp w w' := by
  have HN := hide hn
  have HL := hide hl
  clear hn hl
  by_cases h3 : n.op = 16
  · have q3 : (n.op != 16) = false := by rw [h3]; rfl
    have E : Hid ((decide (n.op ≠ 16) || (decide (0 ≤ n.no) && decide (n.no < gc))) = ((decide (0 ≤ n.no) && decide (n.no < gc)))) := by
      unfold Hid
      rw [decide_eq_false (fun h => h h3)]
      rfl
    rw [unhide E]
    go_enter Try.func28, Try.ntmps28
    go_wp2_with (first | (go_at_call 37; refine (within_any _ _ _).mono ?_; rintro e w' ⟨rfl, rfl⟩) | (go_at_call 41; refine (unless_any _ _ _).mono ?_; rintro e w' ⟨rfl, rfl⟩))
    go_ret
    exact ⟨rfl, ((Kp.alloc _ _).trans (Kp.alloc _ _))⟩
  · have q3 : (n.op != 16) = true := bne_iff_ne.2 h3
    have E : Hid ((decide (n.op ≠ 16) || (decide (0 ≤ n.no) && decide (n.no < gc))) = true) := by unfold Hid; rw [decide_eq_true h3]; rfl
    rw [unhide E]
    go_enter Try.func28, Try.ntmps28
    go_wp2_with (go_at_call 41; refine (unless_any _ _ _).mono ?_; rintro e w' ⟨rfl, rfl⟩)
    go_ret
    exact ⟨rfl, ((Kp.alloc _ _).trans (Kp.alloc _ _))⟩

set_option maxRecDepth 20000 in
set_option maxHeartbeats 2000000 in
theorem leaf_any (gc : Int) (la : Option Addr) (lc : Nat) (lv : List (List Int)) (at_ : Int) (a1 a2 a4 a5 a6 : Option Addr) (c1 c2 c4 c5 c6 : Nat) (n : Nd) (w : World) (hl : Rows2 w (.slice la lv.length lc) lv) (hn : NdR w a1 a2 a4 a5 a6 c1 c2 c4 c5 c6 n) :
    Calls Try.prog 29 #[.agg #[.int .i64 gc, .slice la lv.length lc], .int .i64 at_, .agg #[.int .i64 n.op, .slice a1 n.inn.length c1, .slice a2 n.tt.length c2, .int .i64 n.no, .slice a4 n.s.length c4, .slice a5 n.d.length c5, .slice a6 n.hk.length c6]] w fun e w' => e = .returned (.int .i64 (unE (decide (n.op ≠ 1) || (decide (0 ≤ n.no) && decide (n.no < (lv.length : Int)))) 7)) ∧ Kp w w' := by
  have HN := hide hn
  have HL := hide hl
  clear hn hl
  by_cases h3 : n.op = 1
  · have q3 : (n.op != 1) = false := by rw [h3]; rfl
    have E : Hid ((decide (n.op ≠ 1) || (decide (0 ≤ n.no) && decide (n.no < (lv.length : Int)))) = ((decide (0 ≤ n.no) && decide (n.no < (lv.length : Int))))) := by
      unfold Hid
      rw [decide_eq_false (fun h => h h3)]
      rfl
    rw [unhide E]
    go_enter Try.func29, Try.ntmps29
    go_wp2_with (first | (go_at_call 37; refine (within_any _ _ _).mono ?_; rintro e w' ⟨rfl, rfl⟩) | (go_at_call 41; refine (unless_any _ _ _).mono ?_; rintro e w' ⟨rfl, rfl⟩))
    go_ret
    exact ⟨rfl, ((Kp.alloc _ _).trans (Kp.alloc _ _))⟩
  · have q3 : (n.op != 1) = true := bne_iff_ne.2 h3
    have E : Hid ((decide (n.op ≠ 1) || (decide (0 ≤ n.no) && decide (n.no < (lv.length : Int)))) = true) := by unfold Hid; rw [decide_eq_true h3]; rfl
    rw [unhide E]
    go_enter Try.func29, Try.ntmps29
    go_wp2_with (go_at_call 41; refine (unless_any _ _ _).mono ?_; rintro e w' ⟨rfl, rfl⟩)
    go_ret
    exact ⟨rfl, ((Kp.alloc _ _).trans (Kp.alloc _ _))⟩

set_option maxRecDepth 20000 in
set_option maxHeartbeats 2000000 in
theorem leafshape_any (gc : Int) (la : Option Addr) (lc : Nat) (lv : List (List Int)) (at_ : Int) (a1 a2 a4 a5 a6 : Option Addr) (c1 c2 c4 c5 c6 : Nat) (n : Nd) (w : World) (hl : Rows2 w (.slice la lv.length lc) lv) (hn : NdR w a1 a2 a4 a5 a6 c1 c2 c4 c5 c6 n) (hin : n.op = 1 → 0 ≤ n.no ∧ n.no < lv.length) :
    Calls Try.prog 30 #[.agg #[.int .i64 gc, .slice la lv.length lc], .int .i64 at_, .agg #[.int .i64 n.op, .slice a1 n.inn.length c1, .slice a2 n.tt.length c2, .int .i64 n.no, .slice a4 n.s.length c4, .slice a5 n.d.length c5, .slice a6 n.hk.length c6]] w fun e w' => e = .returned (.int .i64 (unE (decide (n.op ≠ 1) || mayB (lv.getD n.no.toNat [])) 2)) ∧ Kp w w' := by
  have HN := hide hn
  have HL := hide hl
  clear hn hl
  by_cases h3 : n.op = 1
  · have q3 : (n.op != 1) = false := by rw [h3]; rfl
    have E : Hid ((decide (n.op ≠ 1) || mayB (lv.getD n.no.toNat [])) = (mayB (lv.getD n.no.toNat []))) := by
      unfold Hid
      rw [decide_eq_false (fun h => h h3)]
      rfl
    rw [unhide E]
    obtain ⟨h0, h1⟩ := hin h3
    obtain ⟨i, hi⟩ : ∃ i : Nat, n.no = (i : Int) := ⟨n.no.toNat, by omega⟩
    have hlr := (unhide HL).room
    obtain ⟨b, off, a', c', rfl, hb, cc, hr⟩ := (unhide HL).one (Kp.refl w) (show i < lv.length by omega)
    have HR := hide hr
    have hiI : (i : Int) < (lv.length : Int) := by omega
    clear hr h0 h1
    rw [hi, show ((i : Int).toNat) = i by omega]
    go_enter Try.func30, Try.ntmps30
    go_wp2_with fail
    refine (may_any _ (lv.getD i []) _ ((unhide HR).keep ((Kp.alloc _ _).trans (Kp.alloc _ _)))).mono ?_
    rintro e w2 ⟨rfl, k2⟩
    have K2 := hide (((Kp.alloc _ _).trans (Kp.alloc _ _)).trans k2)
    clear k2
    go_wp2_with (go_at_call 41; refine (unless_any _ _ _).mono ?_; rintro e w' ⟨rfl, rfl⟩)
    go_ret
    exact ⟨rfl, unhide K2⟩
  · have q3 : (n.op != 1) = true := bne_iff_ne.2 h3
    have E : Hid ((decide (n.op ≠ 1) || mayB (lv.getD n.no.toNat [])) = true) := by unfold Hid; rw [decide_eq_true h3]; rfl
    rw [unhide E]
    go_enter Try.func30, Try.ntmps30
    go_wp2_with (go_at_call 41; refine (unless_any _ _ _).mono ?_; rintro e w' ⟨rfl, rfl⟩)
    go_ret
    exact ⟨rfl, ((Kp.alloc _ _).trans (Kp.alloc _ _))⟩

set_option maxRecDepth 20000 in
set_option maxHeartbeats 2000000 in
theorem value_any (gc : Int) (la : Option Addr) (lc : Nat) (lv : List (List Int)) (at_ : Int) (a1 a2 a4 a5 a6 : Option Addr) (c1 c2 c4 c5 c6 : Nat) (n : Nd) (w : World) (hl : Rows2 w (.slice la lv.length lc) lv) (hn : NdR w a1 a2 a4 a5 a6 c1 c2 c4 c5 c6 n) :
    Calls Try.prog 31 #[.agg #[.int .i64 gc, .slice la lv.length lc], .int .i64 at_, .agg #[.int .i64 n.op, .slice a1 n.inn.length c1, .slice a2 n.tt.length c2, .int .i64 n.no, .slice a4 n.s.length c4, .slice a5 n.d.length c5, .slice a6 n.hk.length c6]] w fun e w' => e = .returned (.int .i64 (unE (decide (n.op ≠ 2) || mayT n.s n.d) 2)) ∧ Kp w w' := by
  have HN := hide hn
  have HL := hide hl
  clear hn hl
  by_cases h3 : n.op = 2
  · have q3 : (n.op != 2) = false := by rw [h3]; rfl
    have E : Hid ((decide (n.op ≠ 2) || mayT n.s n.d) = (mayT n.s n.d)) := by
      unfold Hid
      rw [decide_eq_false (fun h => h h3)]
      rfl
    rw [unhide E]
    go_enter Try.func31, Try.ntmps31
    go_wp2_with fail
    refine (mayT_any _ _ n.s n.d _ ((unhide HN).s.keep ((Kp.alloc _ _).trans (Kp.alloc _ _))) ((unhide HN).d.keep ((Kp.alloc _ _).trans (Kp.alloc _ _)))).mono ?_
    rintro e w2 ⟨rfl, k2⟩
    have K2 := hide (((Kp.alloc _ _).trans (Kp.alloc _ _)).trans k2)
    clear k2
    go_wp2_with (go_at_call 41; refine (unless_any _ _ _).mono ?_; rintro e w' ⟨rfl, rfl⟩)
    go_ret
    exact ⟨rfl, unhide K2⟩
  · have q3 : (n.op != 2) = true := bne_iff_ne.2 h3
    have E : Hid ((decide (n.op ≠ 2) || mayT n.s n.d) = true) := by unfold Hid; rw [decide_eq_true h3]; rfl
    rw [unhide E]
    go_enter Try.func31, Try.ntmps31
    go_wp2_with (go_at_call 41; refine (unless_any _ _ _).mono ?_; rintro e w' ⟨rfl, rfl⟩)
    go_ret
    exact ⟨rfl, ((Kp.alloc _ _).trans (Kp.alloc _ _))⟩

set_option maxRecDepth 20000 in
set_option maxHeartbeats 2000000 in
theorem hooks_any (gc : Int) (la : Option Addr) (lc : Nat) (lv : List (List Int)) (at_ : Int) (a1 a2 a4 a5 a6 : Option Addr) (c1 c2 c4 c5 c6 : Nat) (n : Nd) (w : World) (hl : Rows2 w (.slice la lv.length lc) lv) (hn : NdR w a1 a2 a4 a5 a6 c1 c2 c4 c5 c6 n) :
    Calls Try.prog 32 #[.agg #[.int .i64 gc, .slice la lv.length lc], .int .i64 at_, .agg #[.int .i64 n.op, .slice a1 n.inn.length c1, .slice a2 n.tt.length c2, .int .i64 n.no, .slice a4 n.s.length c4, .slice a5 n.d.length c5, .slice a6 n.hk.length c6]] w fun e w' => e = .returned (.int .i64 (unE (mayH n.hk) 8)) ∧ Kp w w' := by
  have HN := hide hn
  have HL := hide hl
  clear hn hl
  go_enter Try.func32, Try.ntmps32
  go_wp2_with fail
  refine (mayH_run _ n.hk _ ((unhide HN).hk.keep ((Kp.alloc _ _).trans (Kp.alloc _ _)))).mono ?_
  rintro e w2 ⟨rfl, k2⟩
  have K2 := hide (((Kp.alloc _ _).trans (Kp.alloc _ _)).trans k2)
  clear k2
  go_wp2_with (go_at_call 41; refine (unless_any _ _ _).mono ?_; rintro e w' ⟨rfl, rfl⟩)
  go_ret
  exact ⟨rfl, unhide K2⟩

set_option maxHeartbeats 400000 in
theorem below1_any (x at_ : Int) (B : Nat) (w : World) (hc : w.cell? ⟨B, 0, none⟩ = some (.int .i64 at_)) :
    Calls Try.prog 44 #[.int .i64 x, .pointer (some ⟨B, 0, none⟩)] w fun e w' => e = .returned (.bool (decide (at_ ≤ x))) ∧ w' = w := by
  go_enter Try.func44, Try.ntmps44
  go_wp2
  go_ret
  exact ⟨rfl, rfl⟩
set_option maxHeartbeats 400000 in
theorem inside1_any (x : Int) (w : World) :
    Calls Try.prog 46 #[.int .i64 x] w fun e w' => e = .returned (.bool (decide (x < 0))) ∧ w' = w := by
  go_enter Try.func46, Try.ntmps46
  go_wp2
  go_ret
  exact ⟨rfl, rfl⟩
def anyP (p : Int → Bool) (xs : List Int) : Bool := xs.any p
theorem anyP_at {p : Int → Bool} {xs : List Int} {k : Nat} (hk : k < xs.length) (h : p (xs.getD k 0) = true) : anyP p xs = true := by
  have e : xs.getD k 0 = xs[k] := by simp [hk]
  rw [e] at h
  exact List.any_eq_true.2 ⟨_, List.getElem_mem hk, h⟩
theorem anyP_no {p : Int → Bool} {xs : List Int} (h : ∀ k, k < xs.length → p (xs.getD k 0) = false) : anyP p xs = false := by
  unfold anyP
  rw [List.any_eq_false]
  intro x hx
  obtain ⟨i, hi, rfl⟩ := List.getElem_of_mem hx
  have := h i hi
  have e : xs.getD i 0 = xs[i] := by simp [hi]
  rw [e] at this
  simp [this]
set_option maxHeartbeats 1000000 in
theorem ixb_any (B : Nat) (p : Int → Bool) (v : Value) (xs : List Int) (w : World) (h : Ints w v xs) (hp : ∀ x w', Kp w w' → Calls Try.prog 44 #[.int .i64 x, .pointer (some ⟨B, 0, none⟩)] w' fun e w2 => e = .returned (.bool (p x)) ∧ w2 = w') :
    Calls Try.prog 55 #[v, .func (.func 44) #[] #[.pointer (some ⟨B, 0, none⟩)]] w fun e w' => ∃ i : Int, e = .returned (.int .i64 i) ∧ (decide (0 ≤ i) = anyP p xs) ∧ Kp w w' := by
  have hr := h.room
  have H := hide h
  have HP := hide hp
  obtain ⟨a, cap, rfl, hcells⟩ := h.val
  have HC := hide hcells
  clear h hp hcells
  have hcall := Try.call44
  go_enter Try.func55, Try.ntmps55
  go_wp2
  go_loopw [8] (fun i wr => ∃ k : Nat, k ≤ xs.length ∧ i = .int .i64 k ∧ Hid (∀ j, j < k → p (xs.getD j 0) = false) ∧ Hid (Kp w wr)) (fun i _ => xs.length - (intOf i).toNat)
  case atStart => exact ⟨0, Nat.zero_le _, rfl, by unfold Hid; omega, Kp.refl _⟩
  case round =>
    obtain ⟨k, hk, rfl, HA, KR⟩ := hrel
    by_cases hlt : k < xs.length
    · obtain ⟨b, off, rfl, hb, hc⟩ := unhide HC (by omega)
      have c0 := (unhide KR).cellT (hc k hlt)
      clear hc
      have hkI : (k : Int) < (xs.length : Int) := by omega
      have HB : Hid (p (xs.getD k 0) = false → ∀ j, j < k + 1 → p (xs.getD j 0) = false) := by
        intro hx j hj
        by_cases e : j = k
        · subst e; exact hx
        · exact unhide HA j (by omega)
      have HT : Hid (p (xs.getD k 0) = true → anyP p xs = true) := fun hx => anyP_at hlt hx
      generalize xs.getD k 0 = y at *
      cases hx : p y
      · have HX := hide hx
        clear hx
        go_wp2_with fail
        refine (unhide HP y wr (unhide KR)).mono ?_
        rw [unhide HX]
        rintro e w2 ⟨rfl, hw2⟩
        obtain rfl := hw2.symm
        go_wp2
        go_roundw
        case rel => exact ⟨k + 1, by omega, by go_num, unhide HB (unhide HX), unhide KR⟩
        case measure => simp [intOf]; omega
      · have HX := hide hx
        clear hx
        go_wp2_with fail
        refine (unhide HP y wr (unhide KR)).mono ?_
        rw [unhide HX]
        rintro e w2 ⟨rfl, hw2⟩
        obtain rfl := hw2.symm
        go_wp2
        go_ret
        exact ⟨_, rfl, by rw [unhide HT (unhide HX)]; simp, unhide KR⟩
    · have HB := hide (anyP_no (p := p) (xs := xs) (fun j hj => unhide HA j (by omega)))
      go_wp2
      go_ret
      exact ⟨_, rfl, by rw [unhide HB]; simp, unhide KR⟩
set_option maxHeartbeats 1000000 in
theorem contb_any (B : Nat) (p : Int → Bool) (v : Value) (xs : List Int) (w : World) (h : Ints w v xs) (hp : ∀ x w', Kp w w' → Calls Try.prog 44 #[.int .i64 x, .pointer (some ⟨B, 0, none⟩)] w' fun e w2 => e = .returned (.bool (p x)) ∧ w2 = w') :
    Calls Try.prog 45 #[v, .func (.func 44) #[] #[.pointer (some ⟨B, 0, none⟩)]] w fun e w' => e = .returned (.bool (anyP p xs)) ∧ Kp w w' := by
  have HC := hide (ixb_any B p v xs w h hp)
  obtain ⟨a, cap, rfl, -⟩ := h.val
  clear h hp
  go_enter Try.func45, Try.ntmps45
  go_wp2_with fail
  refine (unhide HC).mono ?_
  rintro e w2 ⟨i, rfl, hi, k2⟩
  have HI := hide hi
  have K2 := hide k2
  clear hi k2
  go_wp2
  go_ret
  exact ⟨ret_bool (unhide HI), unhide K2⟩
set_option maxHeartbeats 1000000 in
theorem ixi_any (p : Int → Bool) (v : Value) (xs : List Int) (w : World) (h : Ints w v xs) (hp : ∀ x w', Kp w w' → Calls Try.prog 46 #[.int .i64 x] w' fun e w2 => e = .returned (.bool (p x)) ∧ w2 = w') :
    Calls Try.prog 55 #[v, .func (.func 46) #[] #[]] w fun e w' => ∃ i : Int, e = .returned (.int .i64 i) ∧ (decide (0 ≤ i) = anyP p xs) ∧ Kp w w' := by
  have hr := h.room
  have H := hide h
  have HP := hide hp
  obtain ⟨a, cap, rfl, hcells⟩ := h.val
  have HC := hide hcells
  clear h hp hcells
  have hcall := Try.call46
  go_enter Try.func55, Try.ntmps55
  go_wp2
  go_loopw [8] (fun i wr => ∃ k : Nat, k ≤ xs.length ∧ i = .int .i64 k ∧ Hid (∀ j, j < k → p (xs.getD j 0) = false) ∧ Hid (Kp w wr)) (fun i _ => xs.length - (intOf i).toNat)
  case atStart => exact ⟨0, Nat.zero_le _, rfl, by unfold Hid; omega, Kp.refl _⟩
  case round =>
    obtain ⟨k, hk, rfl, HA, KR⟩ := hrel
    by_cases hlt : k < xs.length
    · obtain ⟨b, off, rfl, hb, hc⟩ := unhide HC (by omega)
      have c0 := (unhide KR).cellT (hc k hlt)
      clear hc
      have hkI : (k : Int) < (xs.length : Int) := by omega
      have HB : Hid (p (xs.getD k 0) = false → ∀ j, j < k + 1 → p (xs.getD j 0) = false) := by
        intro hx j hj
        by_cases e : j = k
        · subst e; exact hx
        · exact unhide HA j (by omega)
      have HT : Hid (p (xs.getD k 0) = true → anyP p xs = true) := fun hx => anyP_at hlt hx
      generalize xs.getD k 0 = y at *
      cases hx : p y
      · have HX := hide hx
        clear hx
        go_wp2_with fail
        refine (unhide HP y wr (unhide KR)).mono ?_
        rw [unhide HX]
        rintro e w2 ⟨rfl, hw2⟩
        obtain rfl := hw2.symm
        go_wp2
        go_roundw
        case rel => exact ⟨k + 1, by omega, by go_num, unhide HB (unhide HX), unhide KR⟩
        case measure => simp [intOf]; omega
      · have HX := hide hx
        clear hx
        go_wp2_with fail
        refine (unhide HP y wr (unhide KR)).mono ?_
        rw [unhide HX]
        rintro e w2 ⟨rfl, hw2⟩
        obtain rfl := hw2.symm
        go_wp2
        go_ret
        exact ⟨_, rfl, by rw [unhide HT (unhide HX)]; simp, unhide KR⟩
    · have HB := hide (anyP_no (p := p) (xs := xs) (fun j hj => unhide HA j (by omega)))
      go_wp2
      go_ret
      exact ⟨_, rfl, by rw [unhide HB]; simp, unhide KR⟩
set_option maxHeartbeats 1000000 in
theorem conti_any (p : Int → Bool) (v : Value) (xs : List Int) (w : World) (h : Ints w v xs) (hp : ∀ x w', Kp w w' → Calls Try.prog 46 #[.int .i64 x] w' fun e w2 => e = .returned (.bool (p x)) ∧ w2 = w') :
    Calls Try.prog 45 #[v, .func (.func 46) #[] #[]] w fun e w' => e = .returned (.bool (anyP p xs)) ∧ Kp w w' := by
  have HC := hide (ixi_any p v xs w h hp)
  obtain ⟨a, cap, rfl, -⟩ := h.val
  clear h hp
  go_enter Try.func45, Try.ntmps45
  go_wp2_with fail
  refine (unhide HC).mono ?_
  rintro e w2 ⟨i, rfl, hi, k2⟩
  have HI := hide hi
  have K2 := hide k2
  clear hi k2
  go_wp2
  go_ret
  exact ⟨ret_bool (unhide HI), unhide K2⟩
set_option maxRecDepth 20000 in
set_option maxHeartbeats 2000000 in
theorem below_any (gc : Int) (la : Option Addr) (lc : Nat) (lv : List (List Int)) (at_ : Int) (a1 a2 a4 a5 a6 : Option Addr) (c1 c2 c4 c5 c6 : Nat) (n : Nd) (w : World) (hl : Rows2 w (.slice la lv.length lc) lv) (hn : NdR w a1 a2 a4 a5 a6 c1 c2 c4 c5 c6 n) :
    Calls Try.prog 26 #[.agg #[.int .i64 gc, .slice la lv.length lc], .int .i64 at_, .agg #[.int .i64 n.op, .slice a1 n.inn.length c1, .slice a2 n.tt.length c2, .int .i64 n.no, .slice a4 n.s.length c4, .slice a5 n.d.length c5, .slice a6 n.hk.length c6]] w fun e w' => e = .returned (.int .i64 (unE (!anyP (fun x => decide (at_ ≤ x)) n.inn) 5)) ∧ Kp w w' := by
  have HN := hide hn
  have HL := hide hl
  clear hn hl
  obtain ⟨r, hr⟩ : ∃ r, r = anyP (fun x => decide (at_ ≤ x)) n.inn := ⟨_, rfl⟩
  rw [← hr]
  have HR := hide hr
  clear hr
  have b4 := Boxed.new (w.alloc (.cells #[.int .i64 gc, .slice la lv.length lc] 58)) 3 (.int .i64 at_)
  rw [World.size_alloc] at b4
  have HB := hide b4.cell
  clear b4
  go_enter Try.func26, Try.ntmps26
  go_wp2_with fail
  refine (contb_any (w.heap.size + 1) (fun x => decide (at_ ≤ x)) _ n.inn _ ((unhide HN).inn.keep (((Kp.alloc _ _).trans (Kp.alloc _ _)).trans (Kp.alloc _ _))) (fun x w' hk => below1_any x at_ _ w' (hk.cellT ((Kp.alloc _ _).cellT (unhide HB))))).mono ?_
  rintro e w2 ⟨rfl, k2⟩
  have K2 := hide ((((Kp.alloc _ _).trans (Kp.alloc _ _)).trans (Kp.alloc _ _)).trans k2)
  clear k2
  rw [← unhide HR]
  go_wp2_with (go_at_call 41; refine (unless_any _ _ _).mono ?_; rintro e w' ⟨rfl, rfl⟩)
  go_ret
  exact ⟨rfl, unhide K2⟩

set_option maxRecDepth 20000 in
set_option maxHeartbeats 2000000 in
theorem inside_any (gc : Int) (la : Option Addr) (lc : Nat) (lv : List (List Int)) (at_ : Int) (a1 a2 a4 a5 a6 : Option Addr) (c1 c2 c4 c5 c6 : Nat) (n : Nd) (w : World) (hl : Rows2 w (.slice la lv.length lc) lv) (hn : NdR w a1 a2 a4 a5 a6 c1 c2 c4 c5 c6 n) :
    Calls Try.prog 27 #[.agg #[.int .i64 gc, .slice la lv.length lc], .int .i64 at_, .agg #[.int .i64 n.op, .slice a1 n.inn.length c1, .slice a2 n.tt.length c2, .int .i64 n.no, .slice a4 n.s.length c4, .slice a5 n.d.length c5, .slice a6 n.hk.length c6]] w fun e w' => e = .returned (.int .i64 (unE (!anyP (fun x => decide (x < 0)) n.inn) 6)) ∧ Kp w w' := by
  have HN := hide hn
  have HL := hide hl
  clear hn hl
  obtain ⟨r, hr⟩ : ∃ r, r = anyP (fun x => decide (x < 0)) n.inn := ⟨_, rfl⟩
  rw [← hr]
  have HR := hide hr
  clear hr
  go_enter Try.func27, Try.ntmps27
  go_wp2_with fail
  refine (conti_any (fun x => decide (x < 0)) _ n.inn _ ((unhide HN).inn.keep ((Kp.alloc _ _).trans (Kp.alloc _ _))) (fun x w' _ => inside1_any x w')).mono ?_
  rintro e w2 ⟨rfl, k2⟩
  have K2 := hide (((Kp.alloc _ _).trans (Kp.alloc _ _)).trans k2)
  clear k2
  rw [← unhide HR]
  go_wp2_with (go_at_call 41; refine (unless_any _ _ _).mono ?_; rintro e w' ⟨rfl, rfl⟩)
  go_ret
  exact ⟨rfl, unhide K2⟩


end Go.Proofs.Ytliddjpcbhdplaa
