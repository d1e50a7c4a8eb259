
/- Contracts of what asks whether numbers are finite, of roots and of what is without a sign. -/
import Derived.Test.YtlfjclnocbohbaaTenD
import Derived.Laws.BitsAllLaws
namespace Go.Proofs.Ytlfjclnocbohbaa
open Go.RowKit

/-- the number without its sign -/
def absN (x : Nat) : Nat := x &&& 9223372036854775807
theorem absN_w64 {x : Nat} (h : W64 x) : W64 (absN x) := Nat.lt_of_le_of_lt Nat.and_le_left h

theorem abs_any (x : Nat) (w : World) (hx : W64 x) : Calls Try.prog 66 #[.float .f64 x] w fun e w' => e = .returned (.float .f64 (absN x)) ∧ w' = w := by
  have hb := bits_run x
  have hf := frombits_run ((absN x : Nat) : Int)
  have ha : bits .andNot .u64 (x : Int) 9223372036854775808 = ((absN x : Nat) : Int) := u64_andNot_nat x 9223372036854775808 hx (by decide)
  rw [Int.toNat_natCast] at hf
  generalize absN x = y at *
  go_enter Try.func66, Try.ntmps66
  go_wp2
  go_ret
  exact ⟨rfl, rfl⟩

/-- is it an infinity? -/
def infB (x : Nat) : Bool := FloatKind.f64.format.order (absN x) 9218868437227405311 == some Ordering.gt

theorem isinf_any (x : Nat) (w : World) (hx : W64 x) : Calls Try.prog 52 #[.float .f64 x, .int .i64 0] w fun e w' => e = .returned (.bool (infB x)) ∧ w' = w := by
  have E : Hid (infB x = (FloatKind.f64.format.order (absN x) 9218868437227405311 == some Ordering.gt)) := rfl
  generalize infB x = r at *
  go_enter Try.func52, Try.ntmps52
  go_wp2_with fail
  refine (abs_any x w hx).mono ?_
  rintro e w1 ⟨rfl, rfl⟩
  generalize absN x = y at *
  go_wp2
  go_ret
  exact ⟨ret_bool (unhide E).symm, rfl⟩

/-- neither NaN nor infinity? No. -/
def endB (x : Nat) : Bool := nanW x || infB x
theorem endB_nan {x : Nat} (h : nanW x = true) : endB x = true := by unfold endB; rw [h]; rfl
theorem endB_num {x : Nat} (h : nanW x = false) : endB x = infB x := by unfold endB; rw [h]; rfl

theorem endless_any (x : Nat) (w : World) (hx : W64 x) : Calls Try.prog 71 #[.float .f64 x] w fun e w' => e = .returned (.bool (endB x)) ∧ w' = w := by
  go_enter Try.func71, Try.ntmps71
  go_wp2_with fail
  refine (isnan_any x w).mono ?_
  rintro e w1 ⟨rfl, rfl⟩
  cases hn : nanW x
  · have E := hide (endB_num hn)
    clear hn
    go_wp2_with fail
    refine (isinf_any x _ hx).mono ?_
    rintro e w1 ⟨rfl, rfl⟩
    generalize infB x = r at *
    go_wp2
    go_ret
    exact ⟨ret_bool (unhide E).symm, rfl⟩
  · have E := hide (endB_nan hn)
    clear hn
    go_wp2
    go_ret
    exact ⟨ret_bool (unhide E).symm, rfl⟩

/-- does the rule hold somewhere? -/
def anyB (rule : Nat → Bool) (xs : List Nat) : Bool := decide (∃ j, j < xs.length ∧ rule (xs.getD j 0) = true)
theorem anyB_at {rule : Nat → Bool} {xs : List Nat} {k : Nat} (hk : k < xs.length) (h : rule (xs.getD k 0) = true) : anyB rule xs = true := decide_eq_true ⟨k, hk, h⟩
theorem anyB_no {rule : Nat → Bool} {xs : List Nat} (h : ∀ j, j < xs.length → rule (xs.getD j 0) = false) : anyB rule xs = false :=
  decide_eq_false (fun ⟨j, hj, e⟩ => by rw [h j hj] at e; cases e)

set_option maxHeartbeats 400000 in
theorem ixfunc_any (g : Nat) (rule : Nat → Bool) (v : Value) (xs : List Nat) (w : World) (h : Flts w v xs)
    (hcall : ∀ args w, Sem.run Try.prog (callFunc g args) w = .ok (.enter g args) w)
    (hf : Hid (∀ x w1, W64 x → Calls Try.prog g #[.float .f64 x] w1 fun e w2 => e = .returned (.bool (rule x)) ∧ w2 = w1)) :
    Calls Try.prog 75 #[v, .func (.func g) #[] #[]] w fun e w' => ∃ i : Int, e = .returned (.int .i64 i) ∧ (decide (0 ≤ i) = anyB rule xs) ∧ w' = w := by
  have hr := h.room
  have WF := hide (fun k (hk : k < xs.length) => h.getD hk)
  obtain ⟨a, cap, rfl, hv⟩ := h.val
  have HV := hide hv
  clear h hv
  go_enter Try.func75, Try.ntmps75
  go_wp2
  go_loop [8] (fun i => ∃ k : Nat, k ≤ xs.length ∧ i = .int .i64 k ∧ ∀ j, j < k → rule (xs.getD j 0) = false) (fun i => xs.length - (intOf i).toNat)
  case atStart => exact ⟨0, Nat.zero_le _, rfl, by omega⟩
  case round =>
    obtain ⟨k, hk, rfl, hall⟩ := hrel
    have HA := hide hall
    clear hall
    by_cases hlt : k < xs.length
    · obtain ⟨b, off, rfl, hb, hc⟩ := unhide HV (by omega)
      have hck := hc k hlt
      have WX := hide (unhide WF k hlt)
      clear hc
      cases hx : rule (xs.getD k 0)
      · have HB : Hid (∀ j, j < k + 1 → rule (xs.getD j 0) = false) := by
          intro j hj
          by_cases e : j = k
          · subst e; exact hx
          · exact unhide HA j (by omega)
        have HX := hide hx
        clear hx
        generalize xs.getD k 0 = x at *
        go_wp2_with fail
        refine (hf.out x _ (unhide WX)).mono ?_
        rw [unhide HX]
        rintro e w2 ⟨rfl, rfl⟩
        go_wp2
        go_round
        case rel => exact ⟨k + 1, by omega, by go_num, unhide HB⟩
        case measure => simp [intOf]; omega
      · have HB := hide (anyB_at hlt hx)
        have HX := hide hx
        clear hx
        generalize xs.getD k 0 = x at *
        go_wp2_with fail
        refine (hf.out x _ (unhide WX)).mono ?_
        rw [unhide HX]
        rintro e w2 ⟨rfl, rfl⟩
        go_wp2
        go_ret
        exact ⟨_, rfl, by rw [unhide HB]; simp, rfl⟩
    · have HB := hide (anyB_no (fun j hj => unhide HA j (by omega)))
      go_wp2
      go_ret
      exact ⟨_, rfl, by rw [unhide HB]; simp, rfl⟩

set_option maxHeartbeats 400000 in
theorem contfunc_any (g : Nat) (rule : Nat → Bool) (v : Value) (xs : List Nat) (w : World) (h : Flts w v xs)
    (hcall : ∀ args w, Sem.run Try.prog (callFunc g args) w = .ok (.enter g args) w)
    (hf : Hid (∀ x w1, W64 x → Calls Try.prog g #[.float .f64 x] w1 fun e w2 => e = .returned (.bool (rule x)) ∧ w2 = w1)) :
    Calls Try.prog 70 #[v, .func (.func g) #[] #[]] w fun e w' => e = .returned (.bool (anyB rule xs)) ∧ w' = w := by
  have HC := hide (ixfunc_any g rule v xs w h hcall hf)
  clear h hcall hf
  go_enter Try.func70, Try.ntmps70
  go_wp2_with fail
  refine (unhide HC).mono ?_
  rintro e w2 ⟨i, rfl, hi, rfl⟩
  have HI := hide hi
  clear hi
  go_wp2
  go_ret
  exact ⟨ret_bool (unhide HI), rfl⟩

/-- a tensor that is finite -/
def finT (s : List Int) (d : List Nat) : Bool := mayT s d && !anyB endB d
theorem finT_no {s : List Int} {d : List Nat} (h : mayT s d = false) : finT s d = false := by unfold finT; rw [h]; rfl
theorem finT_yes {s : List Int} {d : List Nat} (h : mayT s d = true) : finT s d = !anyB endB d := by unfold finT; rw [h]; rfl
theorem finT_any' {s : List Int} {d : List Nat} (h : anyB endB d = true) : finT s d = false := by unfold finT; rw [h]; simp
theorem finT_none {s : List Int} {d : List Nat} (h : anyB endB d = false) : finT s d = mayT s d := by unfold finT; rw [h]; simp

set_option maxHeartbeats 400000 in
theorem finT_any (sv dv : Value) (s : List Int) (d : List Nat) (w : World) (hs : Ints w sv s) (hd : Flts w dv d) :
    Calls Try.prog 65 #[.agg #[sv, dv]] w fun e w' => e = .returned (.bool (finT s d)) ∧ Kp w w' := by
  have HS := hide hs
  have HD := hide hd
  clear hs hd
  go_enter Try.func65, Try.ntmps65
  obtain ⟨W, hW, x1, k0⟩ := box_in w sv dv
  obtain ⟨c0, c1, -, -, -⟩ := x1.o
  rw [hW] at c0 c1
  go_wp2_with fail
  rw [← hW] at c0 c1 ⊢
  clear hW
  have X1 := hide x1
  have K0 := hide k0
  clear x1 k0
  generalize w.heap.size = B at X1 c0 c1 ⊢
  refine (mayT_any _ _ s d W ((unhide HS).keep (unhide K0)) ((unhide HD).keep (unhide K0))).mono ?_
  rintro e w1 ⟨rfl, k1⟩
  clear c0 c1
  obtain ⟨c0, c1, -, -, -⟩ := ((unhide X1).keep k1).o
  have K1 := hide ((unhide K0).trans k1)
  clear k1 X1 K0
  cases hm : mayT s d
  · have E := hide (finT_no hm)
    clear hm
    go_wp2
    go_ret
    exact ⟨ret_bool (unhide E).symm, unhide K1⟩
  · have E := hide (finT_yes hm)
    clear hm
    go_wp2_with fail
    refine (contfunc_any 71 endB _ d w1 ((unhide HD).keep (unhide K1)) Try.call71 (fun x w hx => endless_any x w hx)).mono ?_
    rintro e w2 ⟨rfl, rfl⟩
    generalize anyB endB d = r at *
    go_wp2
    go_ret
    exact ⟨ret_bool (unhide E).symm, unhide K1⟩

set_option maxHeartbeats 1000000 in
theorem rfinT_any (sv dv : Value) (s : List Int) (d : List Nat) (w : World) (hs : Ints w sv s) (hd : Flts w dv d) :
    Calls Try.prog 34 #[.agg #[sv, dv]] w fun e w' => e = .returned (.bool (finT s d)) ∧ Kp w w' := by
  have HS := hide hs
  have HD := hide hd
  have hr := hd.room
  have WF := hide (fun k (hk : k < d.length) => hd.getD hk)
  obtain ⟨p, cap, rfl, hv⟩ := hd.val
  have HV := hide hv
  clear hs hd hv
  go_enter Try.func34, Try.ntmps34
  go_wp2
  obtain ⟨W, hW, x1, k0⟩ := box_in w sv (.slice p d.length cap)
  rw [← hW]
  clear hW
  have X1 := hide x1
  have K0 := hide k0
  clear x1 k0
  generalize w.heap.size = B at X1 ⊢
  go_loopw [3] (fun i wr => ∃ k : Nat, k ≤ d.length ∧ i = .int .i64 k ∧ Hid (Kp W wr) ∧ Hid (∀ j, j < k → endB (d.getD j 0) = false)) (fun i _ => d.length - (intOf i).toNat)
  case atStart => exact ⟨0, Nat.zero_le _, rfl, Kp.refl _, by unfold Hid; omega⟩
  case round wr =>
    obtain ⟨k, hk, rfl, KR, HA⟩ := hrel
    obtain ⟨c0, c1, -, -, -⟩ := ((unhide X1).keep (unhide KR)).o
    have KK := hide ((unhide K0).trans (unhide KR))
    by_cases hlt : k < d.length
    · obtain ⟨b, off, rfl, hb, hc⟩ := unhide HV (by omega)
      have hck := (Below.cell (unhide KK) (p := ⟨b, off + k, none⟩) hb).trans (hc k hlt)
      have WX := hide (unhide WF k hlt)
      clear hc hb
      have hn : (FloatKind.f64.format.order (d.getD k 0) (d.getD k 0) != some .eq) = nanW (d.getD k 0) := order_self' _
      cases hx : nanW (d.getD k 0)
      · rw [hx] at hn
        cases hy : infB (d.getD k 0)
        · have HB : Hid (∀ j, j < k + 1 → endB (d.getD j 0) = false) := by
            intro j hj
            by_cases e : j = k
            · subst e; rw [endB_num hx]; exact hy
            · exact unhide HA j (by omega)
          have HY := hide hy
          clear hx hy
          generalize d.getD k 0 = x at *
          have CC := hide (fun w0 => isinf_any x w0 (unhide WX))
          rw [unhide HY] at CC
          go_wp2
          go_quiet (first | (go_at_call 52; exact Calls.quiet_of_same (unhide CC _)))
          go_wp2
          go_roundw
          case rel => exact ⟨k + 1, by omega, by go_num, (unhide KR).trans (Kp.drewN _ _), unhide HB⟩
          case measure => simp [intOf]; omega
        · have HB := hide (finT_any' (s := s) (anyB_at (rule := endB) hlt (by rw [endB_num hx]; exact hy)))
          have HY := hide hy
          clear hx hy
          generalize d.getD k 0 = x at *
          have CC := hide (fun w0 => isinf_any x w0 (unhide WX))
          rw [unhide HY] at CC
          go_wp2
          go_quiet (first | (go_at_call 52; exact Calls.quiet_of_same (unhide CC _)))
          go_wp2
          go_ret
          exact ⟨ret_bool (unhide HB).symm, (unhide KK).trans (Kp.drewN _ _)⟩
      · rw [hx] at hn
        have HB := hide (finT_any' (s := s) (anyB_at (rule := endB) hlt (endB_nan hx)))
        clear hx
        generalize d.getD k 0 = x at *
        go_wp2
        go_quiet (fail)
        go_wp2
        go_ret
        exact ⟨ret_bool (unhide HB).symm, (unhide KK).trans (Kp.drewN _ _)⟩
    · have HB := hide (finT_none (s := s) (anyB_no (rule := endB) (fun j hj => unhide HA j (by omega))))
      go_wp2_with fail
      refine (rmayT_any _ _ s d wr ((unhide HS).keep (unhide KK)) ((unhide HD).keep (unhide KK))).mono ?_
      rintro e w1 ⟨rfl, k1⟩
      have K1 := hide ((unhide KK).trans k1)
      clear k1
      go_wp2
      go_ret
      exact ⟨ret_bool (unhide HB).symm, unhide K1⟩

end Go.Proofs.Ytlfjclnocbohbaa
