
/- The contracts of New, Left. -/
import Derived.Test.YtlfjclnocbohbaaFldF
namespace Go.Proofs.Ytlfjclnocbohbaa
open Go.RowKit

theorem made_ten {w : World} {C n : Nat} (h : w.heap[C]? = some (.cells (madeCells #[.slice none 0 0, .slice none 0 0] (n * 2)) 31)) {i : Nat} (hi : i < n) : TenAt w C (i * 2) tnil := by
  have hc : ∀ j, j < n * 2 → w.cell? ⟨C, j, none⟩ = some (.slice none 0 0) := by
    intro j hj
    have : (madeCells #[Value.slice none 0 0, .slice none 0 0] (n * 2))[j]? = some (.slice none 0 0) := by
      rw [madeCells, Array.getElem?_map, Array.getElem?_range, if_pos hj]
      have h2 : j % 2 = 0 ∨ j % 2 = 1 := by omega
      rcases h2 with h2 | h2 <;> simp [h2]
    simp [World.cell?, h, this]
  exact ⟨none, 0, none, 0, hc _ (by omega), hc _ (by omega), Ints.nil _, Flts.nil _⟩

theorem slots_new {w w2 : World} {C m : Nat} {s : List Int} {a : Option Addr} {c : Nat} (hm : m ≤ 1024) (hs : mayB s = true) (hi : Ints w2 (.slice a s.length c) s) (hC : w2.heap[C]? = some (.cells (madeCells #[.slice none 0 0, .slice none 0 0] (m * 2)) 31)) (k : Kp w w2) (hw : w.heap.size ≤ C) :
    Slots (w2.alloc (.cells #[.slice a s.length c, .slice (some ⟨C, 0, none⟩) m m] 83)) w2.heap.size C m s (List.replicate m tnil) ∧ w.heap.size ≤ C ∧ w.heap.size ≤ w2.heap.size ∧ Kp w (w2.alloc (.cells #[.slice a s.length c, .slice (some ⟨C, 0, none⟩) m m] 83)) := by
  have ka := Kp.alloc w2 (.cells #[.slice a s.length c, .slice (some ⟨C, 0, none⟩) m m] 83)
  have hlt : C < w2.heap.size := (Array.getElem?_eq_some_iff.1 hC).1
  refine ⟨⟨by simp, hm, hs, ⟨a, c, by simp only [World.alloc, Array.getElem?_push_size], hi.keep ka⟩, ⟨_, (ka.block C hlt).trans hC, by simp [madeCells], fun i v hv => ?_⟩, fun i hi => ?_⟩, hw, k.size, k.trans ka⟩
  · rw [madeCells, Array.getElem?_map] at hv
    by_cases hj : i < m * 2
    · rw [Array.getElem?_range, if_pos hj] at hv
      have h2 : i % 2 = 0 ∨ i % 2 = 1 := by omega
      rcases h2 with h2 | h2 <;> (simp [h2] at hv; exact ⟨none, 0, 0, hv.symm⟩)
    · simp [Nat.le_of_not_lt hj] at hv
  · have : (List.replicate m tnil).getD i tnil = tnil := by simp [hi]
    rw [this]
    exact (made_ten hC hi).keep hlt ka

set_option maxHeartbeats 400000 in
theorem fnew_no (v : Value) (s : List Int) (n : Int) (w : World) (h : Ints w v s) (hm : mayB s = false) :
    Calls Try.prog 23 #[v, .int .i64 n] w fun e w' => e = .returned (.tuple #[.pointer none, .int .i64 (szE s)]) ∧ Kp w w' := by
  have H := hide h
  have z := szE_ne hm
  clear h hm
  go_enter Try.func23, Try.ntmps23
  go_wp2_with fail
  refine (size_any _ s w (unhide H)).mono ?_
  rintro e w1 ⟨rfl, k1⟩
  have K1 := hide k1
  clear k1
  generalize hq : szE s = q at z ⊢
  have HQ := hide hq
  clear hq
  generalize szN s = q' at *
  go_wp2
  go_ret2
  exact ⟨by rw [unhide HQ]; rfl, unhide K1⟩

set_option maxHeartbeats 400000 in
theorem fnew_low (v : Value) (s : List Int) (n : Int) (w : World) (h : Ints w v s) (hm : mayB s = true) (hn : n < 0) :
    Calls Try.prog 23 #[v, .int .i64 n] w fun e w' => e = .returned (.tuple #[.pointer none, .int .i64 1]) ∧ Kp w w' := by
  have H := hide h
  have hz := szE_yes hm
  have hn' : decide (n < 0) = true := decide_eq_true hn
  clear h hm
  go_enter Try.func23, Try.ntmps23
  go_wp2_with fail
  refine (size_any _ s w (unhide H)).mono ?_
  rw [hz]
  clear hz
  rintro e w1 ⟨rfl, k1⟩
  have K1 := hide k1
  clear k1
  generalize szN s = q' at *
  go_wp2
  go_ret2
  exact ⟨rfl, unhide K1⟩

set_option maxHeartbeats 400000 in
theorem fnew_high (v : Value) (s : List Int) (n : Int) (w : World) (h : Ints w v s) (hm : mayB s = true) (hn : 1024 < n) :
    Calls Try.prog 23 #[v, .int .i64 n] w fun e w' => e = .returned (.tuple #[.pointer none, .int .i64 1]) ∧ Kp w w' := by
  have H := hide h
  have hz := szE_yes hm
  have hn' : decide (n < 0) = false := decide_eq_false (by omega)
  have hn2 : ¬ n < 0 := by omega
  have hn3 : decide (1024 < n) = true := decide_eq_true hn
  clear h hm
  go_enter Try.func23, Try.ntmps23
  go_wp2_with fail
  refine (size_any _ s w (unhide H)).mono ?_
  rw [hz]
  clear hz
  rintro e w1 ⟨rfl, k1⟩
  have K1 := hide k1
  clear k1
  generalize szN s = q' at *
  go_wp2
  go_ret2
  exact ⟨rfl, unhide K1⟩

set_option maxHeartbeats 1000000 in
theorem fnew_yes (v : Value) (s : List Int) (n : Nat) (w : World) (h : Ints w v s) (hm : mayB s = true) (hn : n ≤ 1024) :
    Calls Try.prog 23 #[v, .int .i64 n] w fun e w' => ∃ B C, e = .returned (.tuple #[.pointer (some ⟨B, 0, none⟩), .int .i64 0]) ∧ Slots w' B C n s (List.replicate n tnil) ∧ w.heap.size ≤ C ∧ w.heap.size ≤ B ∧ Kp w w' := by
  have H := hide h
  have HM := hide hm
  have hz := szE_yes hm
  have b1 : s.length ≤ 1000000 := by have := (may_good hm).1; omega
  have n0 : ¬ (n : Int) < 0 := by omega
  have n1 : ¬ (1024 : Int) < (n : Int) := by omega
  have n0' : decide ((n : Int) < 0) = false := decide_eq_false n0
  have n1' : decide ((1024 : Int) < (n : Int)) = false := decide_eq_false n1
  have hmk := mk_tens n (by omega)
  clear h hm
  go_enter Try.func23, Try.ntmps23
  go_wp2_with fail
  refine (size_any _ s w (unhide H)).mono ?_
  rw [hz]
  clear hz
  rintro e w1 ⟨rfl, k1⟩
  have K1 := hide k1
  have H1 := hide ((unhide H).keep k1)
  have SW := hide (unhide H).wf
  clear k1 H
  generalize szN s = q' at *
  have CC := hide (fun w0 (k : Kp w1 w0) => (clone_ints v s w0 ((unhide H1).keep k) b1).mono (R' := fun e w' => ∃ a c, e = .returned (.slice a s.length c) ∧ Hid (Ints w' (.slice a s.length c) s) ∧ Hid (Kp w0 w') ∧ Hid (Kp w1 w')) (by
    rintro e w' ⟨u, rfl, o, k'⟩
    have hi := o.ints (unhide SW) (by omega)
    obtain ⟨a, c, e, _⟩ := hi.val
    subst e
    exact ⟨a, c, rfl, hi, k', k.trans k'⟩))
  go_wp2_with fail
  go_region_with (first
    | (go_at_call 41; refine ((unhide CC) _ ?_).mono ?_; (first | exact Kp.drew w1 | exact (Kp.drew w1).trans (Kp.alloc _ _)); rintro e w2 ⟨a, c, rfl, HI, J2, K2⟩))
  · have SN := slots_new hn (unhide HM) ((unhide HI).keep (Kp.alloc w2 (.cells (madeCells #[.slice none 0 0, .slice none 0 0] (n * 2)) 31))) (C := w2.heap.size) (by simp only [World.alloc, Array.getElem?_push_size]) ((unhide K1).trans ((unhide K2).trans (Kp.alloc _ _))) ((unhide K1).trans (unhide K2)).size
    rw [World.size_alloc] at SN
    have HSN := hide SN
    clear SN
    go_wp2
    generalize ((w2.alloc (.cells (madeCells #[.slice none 0 0, .slice none 0 0] (n * 2)) 31)).alloc (.cells #[.slice a s.length c, .slice (some ⟨w2.heap.size, 0, none⟩) n n] 83)) = w9 at *
    go_ret2
    exact ⟨_, _, rfl, (unhide HSN).1, (unhide HSN).2.1, (unhide HSN).2.2.1, (unhide HSN).2.2.2⟩
  · have SN := slots_new hn (unhide HM) (unhide HI) (C := w1.heap.size) ((((Kp.drew _).trans (unhide J2)).block w1.heap.size (by simp)).trans (by simp only [World.alloc, Array.getElem?_push_size])) ((unhide K1).trans (unhide K2)) (unhide K1).size
    have HSN := hide SN
    clear SN
    go_wp2
    generalize (w2.alloc (.cells #[.slice a s.length c, .slice (some ⟨w1.heap.size, 0, none⟩) n n] 83)) = w9 at *
    go_ret2
    exact ⟨_, _, rfl, (unhide HSN).1, (unhide HSN).2.1, (unhide HSN).2.2.1, (unhide HSN).2.2.2⟩

/-- how many slots are not filled -/
def vacN (ts : List Tn) : Nat := ts.countP (fun t => decide (t.d.length = 0))
theorem vac_take {ts : List Tn} {k : Nat} (h : k < ts.length) : vacN (ts.take (k + 1)) = vacN (ts.take k) + (if (ts.getD k tnil).d.length = 0 then 1 else 0) := by
  have e : ts.getD k tnil = ts[k] := by simp [h]
  unfold vacN
  rw [List.take_succ_eq_append_getElem h, List.countP_append, List.countP_singleton, e]
  by_cases h' : ts[k].d.length = 0
  · rw [if_pos (by simpa using h'), if_pos h']
  · rw [if_neg (by simpa using h'), if_neg h']
theorem vac_le (ts : List Tn) : vacN ts ≤ ts.length := List.countP_le_length

set_option maxHeartbeats 1000000 in
theorem left_any (B C m : Nat) (s : List Int) (ts : List Tn) (w : World) (h : Slots w B C m s ts) :
    Calls Try.prog 26 #[.pointer (some ⟨B, 0, none⟩)] w fun e w' => e = .returned (.int .i64 (vacN ts : Nat)) ∧ Kp w w' := by
  have H := hide h
  have hm := h.max
  obtain ⟨a, c, c0, c1, -⟩ := h.o
  have HL := hide h.len
  clear h
  go_enter Try.func26, Try.ntmps26
  go_wp2
  go_loopw [13, 3] (fun i n wr => ∃ k : Nat, k ≤ m ∧ i = .int .i64 k ∧ n = .int .i64 (vacN (ts.take k) : Nat) ∧ Hid (Kp w wr)) (fun i _ _ => m - (intOf i).toNat)
  case atStart => exact ⟨0, Nat.zero_le _, rfl, rfl, Kp.refl _⟩
  case round =>
    obtain ⟨k, hk, rfl, rfl, KR⟩ := hrel
    generalize wr = w5 at *
    have hv := vac_le (ts.take k)
    rw [List.length_take] at hv
    have hv2 : vacN (ts.take k) ≤ 1024 := by omega
    clear hv
    by_cases hlt : k < m
    · have hltI : (k : Int) < (m : Int) := by omega
      have E := hide (vac_take (ts := ts) (k := k) (by rw [unhide HL]; exact hlt))
      obtain ⟨p, cp, p', cp', hc0, hc1, -, hf⟩ := ((unhide H).keep (unhide KR)).each k hlt
      have hr := hf.room
      clear hf c0 c1
      generalize (ts.getD k tnil).d.length = ld at *
      generalize (ts.getD k tnil).s.length = ls at *
      go_upto_region 7 with fail
      have X5 := hide (Bx.made w5 (.slice p ls cp) (.slice p' ld cp'))
      have KA := hide (Kp.alloc w5 (.cells #[.slice p ls cp, .slice p' ld cp'] 31))
      generalize (w5.alloc (.cells #[.slice p ls cp, .slice p' ld cp'] 31)) = w6 at *
      generalize w5.heap.size = X6 at *
      obtain ⟨x0, x1, -, -, -⟩ := (unhide X5).o
      clear hc0 hc1
      go_wp2_with fail
      refine (vacant_any p p' ls cp ld cp' w6 (by omega)).mono ?_
      rintro e w7 ⟨rfl, k7⟩
      have K7 := hide (((unhide KR).trans (unhide KA)).trans k7)
      clear k7 x0 x1
      by_cases hz : ld = 0
      · have E2 : Hid (vacN (ts.take (k + 1)) = vacN (ts.take k) + 1) := by unfold Hid; rw [unhide E, if_pos hz]
        rw [decide_eq_true hz]
        clear E hz
        generalize vacN (ts.take k) = V at *
        go_wp2
        go_roundw
        case rel => exact ⟨k + 1, by omega, by go_num, by rw [unhide E2]; go_num, unhide K7⟩
        case measure => simp [intOf]; omega
      · have E2 : Hid (vacN (ts.take (k + 1)) = vacN (ts.take k)) := by unfold Hid; rw [unhide E, if_neg hz]; rfl
        rw [decide_eq_false hz]
        clear E hz
        generalize vacN (ts.take k) = V at *
        go_wp2
        go_roundw
        case rel => exact ⟨k + 1, by omega, by go_num, by rw [unhide E2], unhide K7⟩
        case measure => simp [intOf]; omega
    · obtain rfl : k = m := by omega
      have E : Hid (ts.take k = ts) := List.take_of_length_le (by rw [unhide HL]; exact Nat.le_refl _)
      rw [unhide E] at hv2 ⊢
      clear c0 c1
      generalize hV : vacN ts = V at *
      have HV := hide hV
      clear hV
      go_wp2
      go_ret
      exact ⟨by rw [unhide HV]; rfl, unhide KR⟩

end Go.Proofs.Ytlfjclnocbohbaa
