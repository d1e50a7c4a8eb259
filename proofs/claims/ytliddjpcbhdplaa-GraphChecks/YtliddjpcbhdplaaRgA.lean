
/- The document's own: how many inputs, and the error of a node by itself. -/
import Derived.Test.YtliddjpcbhdplaaGrH
import Derived.Test.YtliddjpcbhdplaaGa
import Derived.Test.YtliddjpcbhdplaaGd
namespace Go.Proofs.Ytliddjpcbhdplaa
open Go.RowKit

set_option maxHeartbeats 4000000 in
theorem rmany_any (op : Int) (w : World) : Calls Try.prog 33 #[.int .i64 op] w fun r w' => r = .returned (.int .i64 (manyZ op)) ∧ w' = w := by
  by_cases hm : mayOp op = true
  · have h1 : 1 ≤ op ∧ op ≤ 16 := by unfold mayOp at hm; simpa using hm
    have h2 : op = 1 ∨ op = 2 ∨ op = 3 ∨ op = 4 ∨ op = 5 ∨ op = 6 ∨ op = 7 ∨ op = 8 ∨ op = 9 ∨ op = 10 ∨ op = 11 ∨ op = 12 ∨ op = 13 ∨ op = 14 ∨ op = 15 ∨ op = 16 := by omega
    clear h1 hm
    rcases h2 with rfl | rfl | rfl | rfl | rfl | rfl | rfl | rfl | rfl | rfl | rfl | rfl | rfl | rfl | rfl | rfl
    all_goals
      go_enter Try.func33, Try.ntmps33
      go_wp2
      go_ret
      exact ⟨rfl, rfl⟩
  · have hm' := eq_false_of_ne_true hm
    have E : Hid (manyZ op = -1) := if_pos hm'
    have h1 : op < 1 ∨ 16 < op := by
      unfold mayOp at hm
      simp at hm
      omega
    have q1 : (op == 1) = false := beq_eq_false_iff_ne.2 (by omega)
    have q2 : (op == 2) = false := beq_eq_false_iff_ne.2 (by omega)
    have q3 : (op == 3) = false := beq_eq_false_iff_ne.2 (by omega)
    have q4 : (op == 4) = false := beq_eq_false_iff_ne.2 (by omega)
    have q5 : (op == 5) = false := beq_eq_false_iff_ne.2 (by omega)
    have q6 : (op == 6) = false := beq_eq_false_iff_ne.2 (by omega)
    have q7 : (op == 7) = false := beq_eq_false_iff_ne.2 (by omega)
    have q8 : (op == 8) = false := beq_eq_false_iff_ne.2 (by omega)
    have q9 : (op == 9) = false := beq_eq_false_iff_ne.2 (by omega)
    have q10 : (op == 10) = false := beq_eq_false_iff_ne.2 (by omega)
    have q11 : (op == 11) = false := beq_eq_false_iff_ne.2 (by omega)
    have q12 : (op == 12) = false := beq_eq_false_iff_ne.2 (by omega)
    have q13 : (op == 13) = false := beq_eq_false_iff_ne.2 (by omega)
    have q14 : (op == 14) = false := beq_eq_false_iff_ne.2 (by omega)
    have q15 : (op == 15) = false := beq_eq_false_iff_ne.2 (by omega)
    have q16 : (op == 16) = false := beq_eq_false_iff_ne.2 (by omega)
    clear hm hm' h1
    go_enter Try.func33, Try.ntmps33
    go_wp2
    go_ret
    exact ⟨ret_int (unhide E).symm, rfl⟩

theorem zstep {f : Nat → Int} {j : Nat} (h : ∀ i, i < j → f i = 0) (hj : f j = 0) : ∀ i, i < j + 1 → f i = 0 := fun i hi => by
  by_cases e : i = j
  · subst e; exact hj
  · exact h i (by omega)
theorem ndE_first {gc at_ : Int} {lv : List (List Int)} {n : Nd} {j : Nat} {e : Int} (hz : ∀ i, i < j → ek gc lv at_ n i = 0) (hb : ek gc lv at_ n j = e) (he : e ≠ 0) (hj : j < 10) : ndE gc lv at_ n = e := by
  unfold ndE
  rw [fnz_at hz (by rw [hb]; exact he) hj, hb]
theorem ndE_none {gc at_ : Int} {lv : List (List Int)} {n : Nd} (hz : ∀ i, i < 10 → ek gc lv at_ n i = 0) : ndE gc lv at_ n = 0 := fnz_zero hz
theorem manyZ_neg {op : Int} (h : mayOp op = true) : 0 ≤ manyZ op := by
  unfold manyZ
  rw [if_neg (by rw [h]; decide)]
  split
  · omega
  · split <;> omega

set_option maxRecDepth 20000 in
set_option maxHeartbeats 8000000 in
theorem rnode_any (gc : Int) (la : Option Addr) (lc : Nat) (lv : List (List Int)) (at_ : Int) (hat : I64 at_) (hgc : I64 gc) (a1 a2 a4 a5 a6 : Option Addr) (c1 c2 c4 c5 c6 : Nat) (n : Nd) (w : World) (hl : Rows2 w (.slice la lv.length lc) lv) (hn : NdR w a1 a2 a4 a5 a6 c1 c2 c4 c5 c6 n) :
    Calls Try.prog 19 #[.agg #[.int .i64 n.op, .slice a1 n.inn.length c1, .slice a2 n.tt.length c2, .int .i64 n.no, .slice a4 n.s.length c4, .slice a5 n.d.length c5, .slice a6 n.hk.length c6], .int .i64 at_, .int .i64 gc, .slice la lv.length lc] w
      fun e w' => e = .returned (.int .i64 (ndE gc lv at_ n)) ∧ Kp w w' := by
  obtain ⟨op, inn, tt, no, ss, dd, hks⟩ := n
  obtain ⟨wop, wno, r1, r2, r4, r5, r6⟩ := hn
  simp only at wop wno r1 r2 r4 r5 r6 ⊢
  obtain ⟨wop1, wop2⟩ := wop
  obtain ⟨wno1, wno2⟩ := wno
  obtain ⟨hat1, hat2⟩ := hat
  obtain ⟨hgc1, hgc2⟩ := hgc
  have hi8 := r1.room
  have hlr := hl.room
  have R1 := hide r1
  have R4 := hide r4
  have R5 := hide r5
  have R6 := hide r6
  have HL := hide hl
  have HZ0 : Hid (∀ i, i < 0 → ek gc lv at_ ⟨op, inn, tt, no, ss, dd, hks⟩ i = 0) := fun i hi => absurd hi (Nat.not_lt_zero _)
  clear r1 r2 r4 r5 r6 hl
  obtain ⟨W7, hW7, x7, k7⟩ := bx7_in w (.int .i64 op) (.slice a1 inn.length c1) (.slice a2 tt.length c2) (.int .i64 no) (.slice a4 ss.length c4) (.slice a5 dd.length c5) (.slice a6 hks.length c6)
  have X7 := hide x7
  have K7 := hide k7
  obtain ⟨d0, d1, d2, d3, d4, d5, d6⟩ := x7.o
  clear x7 k7
  go_enter Try.func19, Try.ntmps19
  by_cases q0 : mayOp op = true
  · have HZ1 : Hid (∀ i, i < 1 → ek gc lv at_ ⟨op, inn, tt, no, ss, dd, hks⟩ i = 0) := zstep (unhide HZ0) (by show unE (mayOp op) 4 = 0; rw [q0]; rfl)
    have hmz := manyZ_neg q0
    have hmzb : decide (manyZ op < 0) = false := decide_eq_false (by omega)
    have hmzb2 : ¬ manyZ op < 0 := by omega
    have g1 : ∀ x W, Calls Try.prog 33 #[.int .i64 x] W fun e w' => e = .returned (.int .i64 (manyZ x)) ∧ w' = W := fun x W => rmany_any x W
    go_wp2_with fail
    rw [← hW7]
    clear hW7
    generalize w.heap.size = B7 at *
    refine (rmany_any op W7).mono ?_
    rintro e w' ⟨rfl, rfl⟩
    go_wp2_with fail
    by_cases qL : (inn.length : Int) = manyZ op
    · have qLb : ((inn.length : Int) != manyZ op) = false := by rw [qL]; simp
      have qLc : ((inn.length : Int) == manyZ op) = true := by rw [qL]; simp
      have HZ2 : Hid (∀ i, i < 2 → ek gc lv at_ ⟨op, inn, tt, no, ss, dd, hks⟩ i = 0) := zstep (unhide HZ1) (by show unE (decide ((inn.length : Int) = manyZ op)) 1 = 0; rw [decide_eq_true qL]; rfl)
      clear HZ1
      by_cases q3 : op = 3 ∧ at_ ≠ 0
      · obtain ⟨rfl, qa⟩ := q3
        have qab : (at_ != 0) = true := bne_iff_ne.2 qa
        have E := hide (ndE_first (e := 1) (unhide HZ2) (by show unE (decide ((3 : Int) ≠ 3) || decide (at_ = 0)) 1 = 1; rw [decide_eq_false qa]; rfl) (by decide) (by decide))
        go_quiet (first | (go_at_call 33; exact Calls.quiet_of_same (g1 _ _)))
        go_wp2
        go_ret
        exact ⟨ret_int (unhide E).symm, (unhide K7).trans (Kp.drewN _ _)⟩
      · have HZ3 : Hid (∀ i, i < 3 → ek gc lv at_ ⟨op, inn, tt, no, ss, dd, hks⟩ i = 0) := zstep (unhide HZ2) (by
          show unE (decide (op ≠ 3) || decide (at_ = 0)) 1 = 0
          by_cases h3 : op = 3
          · have h0 : at_ = 0 := Classical.byContradiction fun h => q3 ⟨h3, h⟩
            rw [decide_eq_true h0, Bool.or_true]; rfl
          · rw [decide_eq_true h3]; rfl)
        clear HZ2
        by_cases h3 : op = 3
        · subst h3
          have h0 : at_ = 0 := Classical.byContradiction fun h => q3 ⟨rfl, h⟩
          subst h0
          have QL0 : Hid (inn.length = 0) := Int.ofNat.inj (qL.trans (show manyZ 3 = 0 by decide))
          go_quiet (first | (go_at_call 33; exact Calls.quiet_of_same (g1 _ _)))
          go_wp2
          go_loopw [9] (fun i wr => ∃ k : Nat, k ≤ inn.length ∧ i = .int .i64 k ∧ Hid (∀ i, i < k → ¬ (0 ≤ inn.getD i 0)) ∧ Hid (Kp w' wr)) (fun i _ => inn.length - (intOf i).toNat)
          case atStart => exact ⟨0, Nat.zero_le _, rfl, fun i hi => absurd hi (Nat.not_lt_zero _), Kp.drewN _ _⟩
          case round =>
            obtain ⟨k, hk, rfl, HA, KR⟩ := hrel
            obtain ⟨d0, d1, d2, d3, d4, d5, d6⟩ := ((unhide X7).keep (unhide KR)).o
            by_cases hlt : k < inn.length
            · exact absurd hlt (by rw [unhide QL0]; exact Nat.not_lt_zero _)
            · obtain rfl : k = inn.length := by omega
              have HZ4 : Hid (∀ i, i < 4 → ek gc lv 0 ⟨3, inn, tt, no, ss, dd, hks⟩ i = 0) := zstep (unhide HZ3) (by show unE (!anyP _ inn) 5 = 0; rw [anyP_no (fun i hi => decide_eq_false (unhide HA i hi))]; rfl)
              clear HA HZ3
              have KR0 := KR
              clear d0 d1 d2 d3 d4 d5 d6
              obtain ⟨d0, d1, d2, d3, d4, d5, d6⟩ := ((unhide X7).keep (unhide KR)).o
              go_wp2
              go_loopw [10] (fun i wr => ∃ k : Nat, k ≤ inn.length ∧ i = .int .i64 k ∧ Hid (∀ i, i < k → ¬ (inn.getD i 0 < 0)) ∧ Hid (Kp w' wr)) (fun i _ => inn.length - (intOf i).toNat)
              case atStart => exact ⟨0, Nat.zero_le _, rfl, fun i hi => absurd hi (Nat.not_lt_zero _), unhide KR0⟩
              case round =>
                obtain ⟨k, hk, rfl, HA, KR⟩ := hrel
                obtain ⟨d0, d1, d2, d3, d4, d5, d6⟩ := ((unhide X7).keep (unhide KR)).o
                by_cases hlt : k < inn.length
                · exact absurd hlt (by rw [unhide QL0]; exact Nat.not_lt_zero _)
                · obtain rfl : k = inn.length := by omega
                  have HZ5 : Hid (∀ i, i < 5 → ek gc lv 0 ⟨3, inn, tt, no, ss, dd, hks⟩ i = 0) := zstep (unhide HZ4) (by show unE (!anyP _ inn) 6 = 0; rw [anyP_no (fun i hi => decide_eq_false (unhide HA i hi))]; rfl)
                  clear HA HZ4
                  have HZ6 : Hid (∀ i, i < 6 → ek gc lv 0 ⟨3, inn, tt, no, ss, dd, hks⟩ i = 0) := zstep (unhide HZ5) (by rfl)
                  clear HZ5
                  have HZ7 : Hid (∀ i, i < 7 → ek gc lv 0 ⟨3, inn, tt, no, ss, dd, hks⟩ i = 0) := zstep (unhide HZ6) (by rfl)
                  clear HZ6
                  have HZ8 : Hid (∀ i, i < 8 → ek gc lv 0 ⟨3, inn, tt, no, ss, dd, hks⟩ i = 0) := zstep (unhide HZ7) (by rfl)
                  clear HZ7
                  have HZ9 : Hid (∀ i, i < 9 → ek gc lv 0 ⟨3, inn, tt, no, ss, dd, hks⟩ i = 0) := zstep (unhide HZ8) (by rfl)
                  clear HZ8
                  go_wp2_with fail
                  refine (rmayH_run _ hks _ ((unhide R6).keep ((unhide K7).trans (unhide KR)))).mono ?_
                  rintro e w9 ⟨rfl, k9⟩
                  have K9 := hide (((unhide K7).trans (unhide KR)).trans k9)
                  clear k9
                  by_cases qh : mayH hks = true
                  · have E := hide (ndE_none (zstep (unhide HZ9) (by show unE (mayH hks) 8 = 0; rw [qh]; rfl)))
                    rw [qh]
                    go_wp2
                    go_ret
                    exact ⟨ret_int (unhide E).symm, unhide K9⟩
                  · have qh2 := eq_false_of_ne_true qh
                    have E := hide (ndE_first (e := 8) (unhide HZ9) (by show unE (mayH hks) 8 = 8; rw [qh2]; rfl) (by decide) (by decide))
                    rw [qh2]
                    go_wp2
                    go_ret
                    exact ⟨ret_int (unhide E).symm, unhide K9⟩
        · have h3b : (op == 3) = false := beq_eq_false_iff_ne.2 h3
          go_quiet (first | (go_at_call 33; exact Calls.quiet_of_same (g1 _ _)))
          go_wp2
          go_loopw [9] (fun i wr => ∃ k : Nat, k ≤ inn.length ∧ i = .int .i64 k ∧ Hid (∀ i, i < k → ¬ (at_ ≤ inn.getD i 0)) ∧ Hid (Kp w' wr)) (fun i _ => inn.length - (intOf i).toNat)
          case atStart => exact ⟨0, Nat.zero_le _, rfl, fun i hi => absurd hi (Nat.not_lt_zero _), Kp.drewN _ _⟩
          case round =>
            obtain ⟨k, hk, rfl, HA, KR⟩ := hrel
            obtain ⟨d0, d1, d2, d3, d4, d5, d6⟩ := ((unhide X7).keep (unhide KR)).o
            by_cases hlt : k < inn.length
            · have hkI : (k : Int) < (inn.length : Int) := by omega
              have hx := (unhide R1).getD hlt
              obtain ⟨ai, ci, ei, hi0⟩ := (unhide R1).val
              cases ei
              obtain ⟨b, off, rfl, hb, hc⟩ := hi0 (by omega)
              have ck := ((unhide K7).trans (unhide KR)).cellT (hc k hlt)
              clear hc hi0 hb
              by_cases hp : at_ ≤ inn.getD k 0
              · have E := hide (ndE_first (e := 5) (unhide HZ3) (by show unE (!anyP _ inn) 5 = 5; rw [anyP_at hlt (decide_eq_true hp)]; rfl) (by decide) (by decide))
                generalize inn.getD k 0 = x at *
                have hpI := hp
                go_wp2
                go_ret
                exact ⟨ret_int (unhide E).symm, (unhide K7).trans (unhide KR)⟩
              · have HA2 : Hid (∀ i, i < k + 1 → ¬ (at_ ≤ inn.getD i 0)) := fun i hi => by
                  by_cases e : i = k
                  · subst e; exact hp
                  · exact unhide HA i (by omega)
                generalize inn.getD k 0 = x at *
                go_wp2
                go_roundw
                case rel => exact ⟨k + 1, by omega, by go_num, unhide HA2, unhide KR⟩
                case measure => simp [intOf]; omega
            · obtain rfl : k = inn.length := by omega
              have HZ4 : Hid (∀ i, i < 4 → ek gc lv at_ ⟨op, inn, tt, no, ss, dd, hks⟩ i = 0) := zstep (unhide HZ3) (by show unE (!anyP _ inn) 5 = 0; rw [anyP_no (fun i hi => decide_eq_false (unhide HA i hi))]; rfl)
              clear HA HZ3
              have KR0 := KR
              clear d0 d1 d2 d3 d4 d5 d6
              obtain ⟨d0, d1, d2, d3, d4, d5, d6⟩ := ((unhide X7).keep (unhide KR)).o
              go_wp2
              go_loopw [10] (fun i wr => ∃ k : Nat, k ≤ inn.length ∧ i = .int .i64 k ∧ Hid (∀ i, i < k → ¬ (inn.getD i 0 < 0)) ∧ Hid (Kp w' wr)) (fun i _ => inn.length - (intOf i).toNat)
              case atStart => exact ⟨0, Nat.zero_le _, rfl, fun i hi => absurd hi (Nat.not_lt_zero _), unhide KR0⟩
              case round =>
                obtain ⟨k, hk, rfl, HA, KR⟩ := hrel
                obtain ⟨d0, d1, d2, d3, d4, d5, d6⟩ := ((unhide X7).keep (unhide KR)).o
                by_cases hlt : k < inn.length
                · have hkI : (k : Int) < (inn.length : Int) := by omega
                  have hx := (unhide R1).getD hlt
                  obtain ⟨ai, ci, ei, hi0⟩ := (unhide R1).val
                  cases ei
                  obtain ⟨b, off, rfl, hb, hc⟩ := hi0 (by omega)
                  have ck := ((unhide K7).trans (unhide KR)).cellT (hc k hlt)
                  clear hc hi0 hb
                  by_cases hp : inn.getD k 0 < 0
                  · have E := hide (ndE_first (e := 6) (unhide HZ4) (by show unE (!anyP _ inn) 6 = 6; rw [anyP_at hlt (decide_eq_true hp)]; rfl) (by decide) (by decide))
                    generalize inn.getD k 0 = x at *
                    have hpI := hp
                    go_wp2
                    go_ret
                    exact ⟨ret_int (unhide E).symm, (unhide K7).trans (unhide KR)⟩
                  · have HA2 : Hid (∀ i, i < k + 1 → ¬ (inn.getD i 0 < 0)) := fun i hi => by
                      by_cases e : i = k
                      · subst e; exact hp
                      · exact unhide HA i (by omega)
                    generalize inn.getD k 0 = x at *
                    go_wp2
                    go_roundw
                    case rel => exact ⟨k + 1, by omega, by go_num, unhide HA2, unhide KR⟩
                    case measure => simp [intOf]; omega
                · obtain rfl : k = inn.length := by omega
                  have HZ5 : Hid (∀ i, i < 5 → ek gc lv at_ ⟨op, inn, tt, no, ss, dd, hks⟩ i = 0) := zstep (unhide HZ4) (by show unE (!anyP _ inn) 6 = 0; rw [anyP_no (fun i hi => decide_eq_false (unhide HA i hi))]; rfl)
                  clear HA HZ4
                  clear qL qLb qLc g1 hmz hmzb hmzb2
                  clear d0 d1 d2 d3 d4 d5 d6
                  obtain ⟨d0, d1, d2, d3, d4, d5, d6⟩ := ((unhide X7).keep (unhide KR)).o
                  by_cases q16 : op = 16
                  · subst q16
                    by_cases n0 : no < 0
                    · have E := hide (ndE_first (e := 6) (unhide HZ5) (by show unE (decide ((16 : Int) ≠ 16) || (decide (0 ≤ no) && decide (no < gc))) 6 = 6; rw [decide_eq_false (show ¬ (0 ≤ no) by omega)]; rfl) (by decide) (by decide))
                      go_wp2
                      go_ret
                      exact ⟨ret_int (unhide E).symm, (unhide K7).trans (unhide KR)⟩
                    · by_cases n1 : gc ≤ no
                      · have E := hide (ndE_first (e := 6) (unhide HZ5) (by show unE (decide ((16 : Int) ≠ 16) || (decide (0 ≤ no) && decide (no < gc))) 6 = 6; rw [decide_eq_false (show ¬ (no < gc) by omega), Bool.and_false]; rfl) (by decide) (by decide))
                        go_wp2
                        go_ret
                        exact ⟨ret_int (unhide E).symm, (unhide K7).trans (unhide KR)⟩
                      · have HZ6 : Hid (∀ i, i < 6 → ek gc lv at_ ⟨16, inn, tt, no, ss, dd, hks⟩ i = 0) := zstep (unhide HZ5) (by show unE (decide ((16 : Int) ≠ 16) || (decide (0 ≤ no) && decide (no < gc))) 6 = 0; rw [decide_eq_true (show 0 ≤ no by omega), decide_eq_true (show no < gc by omega)]; rfl)
                        clear HZ5
                        have HZ7 : Hid (∀ i, i < 7 → ek gc lv at_ ⟨16, inn, tt, no, ss, dd, hks⟩ i = 0) := zstep (unhide HZ6) (by rfl)
                        clear HZ6
                        have HZ8 : Hid (∀ i, i < 8 → ek gc lv at_ ⟨16, inn, tt, no, ss, dd, hks⟩ i = 0) := zstep (unhide HZ7) (by rfl)
                        clear HZ7
                        have HZ9 : Hid (∀ i, i < 9 → ek gc lv at_ ⟨16, inn, tt, no, ss, dd, hks⟩ i = 0) := zstep (unhide HZ8) (by rfl)
                        clear HZ8
                        go_wp2_with fail
                        refine (rmayH_run _ hks _ ((unhide R6).keep ((unhide K7).trans (unhide KR)))).mono ?_
                        rintro e w9 ⟨rfl, k9⟩
                        have K9 := hide (((unhide K7).trans (unhide KR)).trans k9)
                        clear k9
                        by_cases qh : mayH hks = true
                        · have E := hide (ndE_none (zstep (unhide HZ9) (by show unE (mayH hks) 8 = 0; rw [qh]; rfl)))
                          rw [qh]
                          go_wp2
                          go_ret
                          exact ⟨ret_int (unhide E).symm, unhide K9⟩
                        · have qh2 := eq_false_of_ne_true qh
                          have E := hide (ndE_first (e := 8) (unhide HZ9) (by show unE (mayH hks) 8 = 8; rw [qh2]; rfl) (by decide) (by decide))
                          rw [qh2]
                          go_wp2
                          go_ret
                          exact ⟨ret_int (unhide E).symm, unhide K9⟩
                  · have q16b : (op == 16) = false := beq_eq_false_iff_ne.2 q16
                    have HZ6 : Hid (∀ i, i < 6 → ek gc lv at_ ⟨op, inn, tt, no, ss, dd, hks⟩ i = 0) := zstep (unhide HZ5) (by show unE (decide (op ≠ 16) || _) 6 = 0; rw [decide_eq_true q16]; rfl)
                    clear HZ5
                    by_cases q1 : op = 1
                    · subst q1
                      by_cases n0 : no < 0
                      · have E := hide (ndE_first (e := 7) (unhide HZ6) (by show unE (decide ((1 : Int) ≠ 1) || (decide (0 ≤ no) && decide (no < (lv.length : Int)))) 7 = 7; rw [decide_eq_false (show ¬ (0 ≤ no) by omega)]; rfl) (by decide) (by decide))
                        go_wp2
                        go_ret
                        exact ⟨ret_int (unhide E).symm, (unhide K7).trans (unhide KR)⟩
                      · by_cases n1 : (lv.length : Int) ≤ no
                        · have E := hide (ndE_first (e := 7) (unhide HZ6) (by show unE (decide ((1 : Int) ≠ 1) || (decide (0 ≤ no) && decide (no < (lv.length : Int)))) 7 = 7; rw [decide_eq_false (show ¬ (no < (lv.length : Int)) by omega), Bool.and_false]; rfl) (by decide) (by decide))
                          go_wp2
                          go_ret
                          exact ⟨ret_int (unhide E).symm, (unhide K7).trans (unhide KR)⟩
                        · have HZ7 : Hid (∀ i, i < 7 → ek gc lv at_ ⟨1, inn, tt, no, ss, dd, hks⟩ i = 0) := zstep (unhide HZ6) (by show unE (decide ((1 : Int) ≠ 1) || (decide (0 ≤ no) && decide (no < (lv.length : Int)))) 7 = 0; rw [decide_eq_true (show 0 ≤ no by omega), decide_eq_true (show no < (lv.length : Int) by omega)]; rfl)
                          clear HZ6
                          obtain ⟨iN, rfl⟩ : ∃ iN : Nat, no = (iN : Int) := ⟨no.toNat, by omega⟩
                          obtain ⟨bL, offL, aL, cL, rfl, hbL, cc, hr⟩ := (unhide HL).one ((unhide K7).trans (unhide KR)) (show iN < lv.length by omega)
                          have HR := hide hr
                          have hiI : (iN : Int) < (lv.length : Int) := by omega
                          have hT : Hid (((iN : Int).toNat) = iN) := by unfold Hid; omega
                          clear hr
                          go_wp2_with fail
                          refine (rmay_any _ (lv.getD iN []) _ (unhide HR)).mono ?_
                          rintro e wC ⟨rfl, kC⟩
                          have KC := hide (((unhide K7).trans (unhide KR)).trans kC)
                          obtain ⟨d0, d1, d2, d3, d4, d5, d6⟩ := (((unhide X7).keep (unhide KR)).keep kC).o
                          clear kC
                          by_cases qM : mayB (lv.getD iN []) = true
                          · have HZ8 : Hid (∀ i, i < 8 → ek gc lv at_ ⟨1, inn, tt, (iN : Int), ss, dd, hks⟩ i = 0) := zstep (unhide HZ7) (by show unE (decide ((1 : Int) ≠ 1) || mayB (lv.getD (iN : Int).toNat [])) 2 = 0; rw [unhide hT, qM]; rfl)
                            clear HZ7
                            have HZ9 : Hid (∀ i, i < 9 → ek gc lv at_ ⟨1, inn, tt, (iN : Int), ss, dd, hks⟩ i = 0) := zstep (unhide HZ8) (by rfl)
                            clear HZ8
                            rw [qM]
                            go_wp2_with fail
                            refine (rmayH_run _ hks _ ((unhide R6).keep (unhide KC))).mono ?_
                            rintro e w9 ⟨rfl, k9⟩
                            have K9 := hide ((unhide KC).trans k9)
                            clear k9
                            by_cases qh : mayH hks = true
                            · have E := hide (ndE_none (zstep (unhide HZ9) (by show unE (mayH hks) 8 = 0; rw [qh]; rfl)))
                              rw [qh]
                              go_wp2
                              go_ret
                              exact ⟨ret_int (unhide E).symm, unhide K9⟩
                            · have qh2 := eq_false_of_ne_true qh
                              have E := hide (ndE_first (e := 8) (unhide HZ9) (by show unE (mayH hks) 8 = 8; rw [qh2]; rfl) (by decide) (by decide))
                              rw [qh2]
                              go_wp2
                              go_ret
                              exact ⟨ret_int (unhide E).symm, unhide K9⟩
                          · have qM2 := eq_false_of_ne_true qM
                            have E := hide (ndE_first (e := 2) (unhide HZ7) (by show unE (decide ((1 : Int) ≠ 1) || mayB (lv.getD (iN : Int).toNat [])) 2 = 2; rw [unhide hT, qM2]; rfl) (by decide) (by decide))
                            rw [qM2]
                            go_wp2
                            go_ret
                            exact ⟨ret_int (unhide E).symm, unhide KC⟩
                    · have q1b : (op == 1) = false := beq_eq_false_iff_ne.2 q1
                      have HZ7 : Hid (∀ i, i < 7 → ek gc lv at_ ⟨op, inn, tt, no, ss, dd, hks⟩ i = 0) := zstep (unhide HZ6) (by show unE (decide (op ≠ 1) || _) 7 = 0; rw [decide_eq_true q1]; rfl)
                      clear HZ6
                      have HZ8 : Hid (∀ i, i < 8 → ek gc lv at_ ⟨op, inn, tt, no, ss, dd, hks⟩ i = 0) := zstep (unhide HZ7) (by show unE (decide (op ≠ 1) || _) 2 = 0; rw [decide_eq_true q1]; rfl)
                      clear HZ7
                      by_cases q2 : op = 2
                      · subst q2
                        go_wp2_with fail
                        refine (rmayT_any _ _ ss dd _ ((unhide R4).keep ((unhide K7).trans (unhide KR))) ((unhide R5).keep ((unhide K7).trans (unhide KR)))).mono ?_
                        rintro e wC ⟨rfl, kC⟩
                        have KC := hide (((unhide K7).trans (unhide KR)).trans kC)
                        obtain ⟨d0, d1, d2, d3, d4, d5, d6⟩ := (((unhide X7).keep (unhide KR)).keep kC).o
                        clear kC
                        by_cases qM : mayT ss dd = true
                        · have HZ9 : Hid (∀ i, i < 9 → ek gc lv at_ ⟨2, inn, tt, no, ss, dd, hks⟩ i = 0) := zstep (unhide HZ8) (by show unE (decide ((2 : Int) ≠ 2) || mayT ss dd) 2 = 0; rw [qM]; rfl)
                          clear HZ8
                          rw [qM]
                          go_wp2_with fail
                          refine (rmayH_run _ hks _ ((unhide R6).keep (unhide KC))).mono ?_
                          rintro e w9 ⟨rfl, k9⟩
                          have K9 := hide ((unhide KC).trans k9)
                          clear k9
                          by_cases qh : mayH hks = true
                          · have E := hide (ndE_none (zstep (unhide HZ9) (by show unE (mayH hks) 8 = 0; rw [qh]; rfl)))
                            rw [qh]
                            go_wp2
                            go_ret
                            exact ⟨ret_int (unhide E).symm, unhide K9⟩
                          · have qh2 := eq_false_of_ne_true qh
                            have E := hide (ndE_first (e := 8) (unhide HZ9) (by show unE (mayH hks) 8 = 8; rw [qh2]; rfl) (by decide) (by decide))
                            rw [qh2]
                            go_wp2
                            go_ret
                            exact ⟨ret_int (unhide E).symm, unhide K9⟩
                        · have qM2 := eq_false_of_ne_true qM
                          have E := hide (ndE_first (e := 2) (unhide HZ8) (by show unE (decide ((2 : Int) ≠ 2) || mayT ss dd) 2 = 2; rw [qM2]; rfl) (by decide) (by decide))
                          rw [qM2]
                          go_wp2
                          go_ret
                          exact ⟨ret_int (unhide E).symm, unhide KC⟩
                      · have q2b : (op == 2) = false := beq_eq_false_iff_ne.2 q2
                        have HZ9 : Hid (∀ i, i < 9 → ek gc lv at_ ⟨op, inn, tt, no, ss, dd, hks⟩ i = 0) := zstep (unhide HZ8) (by show unE (decide (op ≠ 2) || _) 2 = 0; rw [decide_eq_true q2]; rfl)
                        clear HZ8
                        go_wp2_with fail
                        refine (rmayH_run _ hks _ ((unhide R6).keep ((unhide K7).trans (unhide KR)))).mono ?_
                        rintro e w9 ⟨rfl, k9⟩
                        have K9 := hide (((unhide K7).trans (unhide KR)).trans k9)
                        clear k9
                        by_cases qh : mayH hks = true
                        · have E := hide (ndE_none (zstep (unhide HZ9) (by show unE (mayH hks) 8 = 0; rw [qh]; rfl)))
                          rw [qh]
                          go_wp2
                          go_ret
                          exact ⟨ret_int (unhide E).symm, unhide K9⟩
                        · have qh2 := eq_false_of_ne_true qh
                          have E := hide (ndE_first (e := 8) (unhide HZ9) (by show unE (mayH hks) 8 = 8; rw [qh2]; rfl) (by decide) (by decide))
                          rw [qh2]
                          go_wp2
                          go_ret
                          exact ⟨ret_int (unhide E).symm, unhide K9⟩
    · have qLb : ((inn.length : Int) != manyZ op) = true := bne_iff_ne.2 qL
      have E := hide (ndE_first (e := 1) (unhide HZ1) (by show unE (decide ((inn.length : Int) = manyZ op)) 1 = 1; rw [decide_eq_false qL]; rfl) (by decide) (by decide))
      go_quiet (first | (go_at_call 33; exact Calls.quiet_of_same (g1 _ _)))
      go_wp2
      go_ret
      exact ⟨ret_int (unhide E).symm, (unhide K7).trans (Kp.drewN _ _)⟩
  · have E := hide (ndE_first (e := 4) (unhide HZ0) (by show unE (mayOp op) 4 = 4; rw [eq_false_of_ne_true q0]; rfl) (by decide) (by decide))
    have hmz : manyZ op = -1 := if_pos (eq_false_of_ne_true q0)
    go_wp2_with fail
    rw [← hW7]
    clear hW7
    generalize w.heap.size = B7 at *
    refine (rmany_any op W7).mono ?_
    rw [hmz]
    rintro e w' ⟨rfl, rfl⟩
    clear hmz
    go_wp2
    go_ret
    exact ⟨ret_int (unhide E).symm, unhide K7⟩

end Go.Proofs.Ytliddjpcbhdplaa
