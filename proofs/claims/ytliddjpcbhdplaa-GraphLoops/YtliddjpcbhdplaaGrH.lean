
/- The row of checks, the first of them that says no, the contract of Check. -/
import Derived.Test.YtliddjpcbhdplaaGrG
import Derived.RegionTactic
namespace Go.Proofs.Ytliddjpcbhdplaa
open Go.RowKit

/-- the error that the check of that number has -/
def ek (gc : Int) (lv : List (List Int)) (at_ : Int) (n : Nd) : Nat → Int
  | 0 => unE (mayOp n.op) 4
  | 1 => unE (decide ((n.inn.length : Int) = manyZ n.op)) 1
  | 2 => unE (decide (n.op ≠ 3) || decide (at_ = 0)) 1
  | 3 => unE (!anyP (fun x => decide (at_ ≤ x)) n.inn) 5
  | 4 => unE (!anyP (fun x => decide (x < 0)) n.inn) 6
  | 5 => unE (decide (n.op ≠ 16) || (decide (0 ≤ n.no) && decide (n.no < gc))) 6
  | 6 => unE (decide (n.op ≠ 1) || (decide (0 ≤ n.no) && decide (n.no < (lv.length : Int)))) 7
  | 7 => unE (decide (n.op ≠ 1) || mayB (lv.getD n.no.toNat [])) 2
  | 8 => unE (decide (n.op ≠ 2) || mayT n.s n.d) 2
  | 9 => unE (mayH n.hk) 8
  | _ => 0
def fnz (f : Nat → Int) : Nat → Int
  | 0 => 0
  | k + 1 => if fnz f k = 0 then f k else fnz f k
theorem fnz_zero {f : Nat → Int} : ∀ {k : Nat}, (∀ i, i < k → f i = 0) → fnz f k = 0
  | 0, _ => rfl
  | k + 1, h => by
    rw [fnz, if_pos (fnz_zero (fun i hi => h i (by omega)))]
    exact h k (by omega)
theorem fnz_at {f : Nat → Int} {j : Nat} (h : ∀ i, i < j → f i = 0) (hj : f j ≠ 0) : ∀ {k : Nat}, j < k → fnz f k = f j
  | 0, hk => by omega
  | k + 1, hk => by
    by_cases e : j = k
    · subst e
      rw [fnz, if_pos (fnz_zero h)]
    · rw [fnz, fnz_at h hj (show j < k by omega), if_neg hj]
/-- the error of a node by itself -/
def ndE (gc : Int) (lv : List (List Int)) (at_ : Int) (n : Nd) : Int := fnz (ek gc lv at_ n) 10

def chk (gv : Value) : Nat → Value
  | 0 => .func (.func 23) #[gv] #[]
  | 1 => .func (.func 24) #[gv] #[]
  | 2 => .func (.func 25) #[gv] #[]
  | 3 => .func (.func 26) #[gv] #[]
  | 4 => .func (.func 27) #[gv] #[]
  | 5 => .func (.func 28) #[gv] #[]
  | 6 => .func (.func 29) #[gv] #[]
  | 7 => .func (.func 30) #[gv] #[]
  | 8 => .func (.func 31) #[gv] #[]
  | 9 => .func (.func 32) #[gv] #[]
  | _ => .int .i64 0

theorem leaf_in {gc : Int} {lv : List (List Int)} {at_ : Int} {n : Nd} (h : ek gc lv at_ n 6 = 0) (h1 : n.op = 1) : 0 ≤ n.no ∧ n.no < (lv.length : Int) := by
  simp only [ek, unE] at h
  rw [decide_eq_false (fun q => q h1)] at h
  simp only [Bool.false_or, Bool.and_eq_true, decide_eq_true_eq] at h
  split at h
  · assumption
  · exact absurd h (by decide)

/-- the call of the check of that number -/
theorem check_at (gc : Int) (la : Option Addr) (lc : Nat) (lv : List (List Int)) (j : Nat) (hj : j < 10) : ∃ f, chk (.agg #[.int .i64 gc, .slice la lv.length lc]) j = .func (.func f) #[.agg #[.int .i64 gc, .slice la lv.length lc]] #[] ∧
    (∀ args w, Sem.run Try.prog (callFunc f args) w = .ok (.enter f args) w) ∧
    ∀ (at_ : Int) (a1 a2 a4 a5 a6 : Option Addr) (c1 c2 c4 c5 c6 : Nat) (n : Nd) (w : World), Rows2 w (.slice la lv.length lc) lv → NdR w a1 a2 a4 a5 a6 c1 c2 c4 c5 c6 n → (∀ i, i < j → ek gc lv at_ n i = 0) →
      Calls Try.prog f #[.agg #[.int .i64 gc, .slice la lv.length lc], .int .i64 at_, .agg #[.int .i64 n.op, .slice a1 n.inn.length c1, .slice a2 n.tt.length c2, .int .i64 n.no, .slice a4 n.s.length c4, .slice a5 n.d.length c5, .slice a6 n.hk.length c6]] w fun e w' => e = .returned (.int .i64 (ek gc lv at_ n j)) ∧ Kp w w' := by
  match j, hj with
  | 0, _ => exact ⟨_, rfl, Try.call23, fun at_ a1 a2 a4 a5 a6 c1 c2 c4 c5 c6 n w hl hn _ => operator_any gc la lc lv at_ a1 a2 a4 a5 a6 c1 c2 c4 c5 c6 n w hl hn⟩
  | 1, _ => exact ⟨_, rfl, Try.call24, fun at_ a1 a2 a4 a5 a6 c1 c2 c4 c5 c6 n w hl hn _ => many_any gc la lc lv at_ a1 a2 a4 a5 a6 c1 c2 c4 c5 c6 n w hl hn⟩
  | 2, _ => exact ⟨_, rfl, Try.call25, fun at_ a1 a2 a4 a5 a6 c1 c2 c4 c5 c6 n w hl hn _ => param_any gc la lc lv at_ a1 a2 a4 a5 a6 c1 c2 c4 c5 c6 n w hl hn⟩
  | 3, _ => exact ⟨_, rfl, Try.call26, fun at_ a1 a2 a4 a5 a6 c1 c2 c4 c5 c6 n w hl hn _ => below_any gc la lc lv at_ a1 a2 a4 a5 a6 c1 c2 c4 c5 c6 n w hl hn⟩
  | 4, _ => exact ⟨_, rfl, Try.call27, fun at_ a1 a2 a4 a5 a6 c1 c2 c4 c5 c6 n w hl hn _ => inside_any gc la lc lv at_ a1 a2 a4 a5 a6 c1 c2 c4 c5 c6 n w hl hn⟩
  | 5, _ => exact ⟨_, rfl, Try.call28, fun at_ a1 a2 a4 a5 a6 c1 c2 c4 c5 c6 n w hl hn _ => called_any gc la lc lv at_ a1 a2 a4 a5 a6 c1 c2 c4 c5 c6 n w hl hn⟩
  | 6, _ => exact ⟨_, rfl, Try.call29, fun at_ a1 a2 a4 a5 a6 c1 c2 c4 c5 c6 n w hl hn _ => leaf_any gc la lc lv at_ a1 a2 a4 a5 a6 c1 c2 c4 c5 c6 n w hl hn⟩
  | 7, _ => exact ⟨_, rfl, Try.call30, fun at_ a1 a2 a4 a5 a6 c1 c2 c4 c5 c6 n w hl hn h0 => leafshape_any gc la lc lv at_ a1 a2 a4 a5 a6 c1 c2 c4 c5 c6 n w hl hn (fun h1 => leaf_in (h0 6 (by omega)) h1)⟩
  | 8, _ => exact ⟨_, rfl, Try.call31, fun at_ a1 a2 a4 a5 a6 c1 c2 c4 c5 c6 n w hl hn _ => value_any gc la lc lv at_ a1 a2 a4 a5 a6 c1 c2 c4 c5 c6 n w hl hn⟩
  | 9, _ => exact ⟨_, rfl, Try.call32, fun at_ a1 a2 a4 a5 a6 c1 c2 c4 c5 c6 n w hl hn _ => hooks_any gc la lc lv at_ a1 a2 a4 a5 a6 c1 c2 c4 c5 c6 n w hl hn⟩

set_option maxRecDepth 20000 in
set_option maxHeartbeats 2000000 in
theorem checks_any (gc : Int) (la : Option Addr) (lc n : Nat) (w : World) :
    Calls Try.prog 17 #[.agg #[.int .i64 gc, .slice la n lc]] w fun e w' => ∃ B, e = .returned (.slice (some ⟨B, 0, none⟩) 10 10) ∧ B < w'.heap.size ∧ (∀ j, j < 10 → w'.cell? ⟨B, j, none⟩ = some (chk (.agg #[.int .i64 gc, .slice la n lc]) j)) ∧ Kp w w' := by
  go_enter Try.func17, Try.ntmps17
  go_wp2
  go_ret
  refine ⟨w.heap.size + 1, rfl, by simp, fun j hj => ?_, (Kp.alloc _ _).trans (Kp.alloc _ _)⟩
  have h10 : j = 0 ∨ j = 1 ∨ j = 2 ∨ j = 3 ∨ j = 4 ∨ j = 5 ∨ j = 6 ∨ j = 7 ∨ j = 8 ∨ j = 9 := by omega
  rcases h10 with rfl | rfl | rfl | rfl | rfl | rfl | rfl | rfl | rfl | rfl
  all_goals simp [chk]

/-- where the first that is not nought stands -/
def fixN (f : Nat → Int) : Nat → Nat
  | 0 => 0
  | k + 1 => if fnz f k = 0 then (if f k = 0 then 0 else k) else fixN f k
theorem fixN_at {f : Nat → Int} {j : Nat} (h : ∀ i, i < j → f i = 0) (hj : f j ≠ 0) : ∀ {k : Nat}, j < k → fixN f k = j
  | 0, hk => by omega
  | k + 1, hk => by
    by_cases e : j = k
    · subst e
      rw [fixN, if_pos (fnz_zero h), if_neg hj]
    · rw [fixN, fnz_at h hj (show j < k by omega), if_neg hj, fixN_at h hj (show j < k by omega)]
theorem fixN_zero {f : Nat → Int} : ∀ {k : Nat}, (∀ i, i < k → f i = 0) → fixN f k = 0
  | 0, _ => rfl
  | k + 1, h => by
    rw [fixN, if_pos (fnz_zero (fun i hi => h i (by omega))), if_pos (h k (by omega))]
/-- the errors of a graph's nodes -/
def ndF (gc : Int) (lv : List (List Int)) (ns : List Nd) (i : Nat) : Int := ndE gc lv (i : Int) (ns.getD i ndnil)
def badL (ns : List Nd) : Bool := decide (ns.length = 0) || decide (256 < ns.length)
def fstA (gc : Int) (lv : List (List Int)) (ns : List Nd) : Int := if badL ns then 0 else fixN (ndF gc lv ns) ns.length
def fstE (gc : Int) (lv : List (List Int)) (ns : List Nd) : Int := if badL ns then 13 else fnz (ndF gc lv ns) ns.length

/-- block B holds a node -/
def Bx7 (w : World) (B : Nat) (v0 v1 v2 v3 v4 v5 v6 : Value) : Prop := w.heap[B]? = some (.cells #[v0, v1, v2, v3, v4, v5, v6] 41)
theorem Bx7.lt {w : World} {B : Nat} {v0 v1 v2 v3 v4 v5 v6 : Value} (h : Bx7 w B v0 v1 v2 v3 v4 v5 v6) : B < w.heap.size := (Array.getElem?_eq_some_iff.1 h).1
theorem Bx7.o {w : World} {B : Nat} {v0 v1 v2 v3 v4 v5 v6 : Value} (h : Bx7 w B v0 v1 v2 v3 v4 v5 v6) : w.cell? ⟨B, 0, none⟩ = some v0 ∧ w.cell? ⟨B, 1, none⟩ = some v1 ∧ w.cell? ⟨B, 2, none⟩ = some v2 ∧ w.cell? ⟨B, 3, none⟩ = some v3 ∧ w.cell? ⟨B, 4, none⟩ = some v4 ∧ w.cell? ⟨B, 5, none⟩ = some v5 ∧ w.cell? ⟨B, 6, none⟩ = some v6 := by
  unfold Bx7 at h
  simp [World.cell?, h]
theorem Bx7.keep {w w' : World} {B : Nat} {v0 v1 v2 v3 v4 v5 v6 : Value} (h : Bx7 w B v0 v1 v2 v3 v4 v5 v6) (k : Kp w w') : Bx7 w' B v0 v1 v2 v3 v4 v5 v6 := by
  unfold Bx7
  rw [k.block B h.lt]
  exact h
theorem bx7_in (w : World) (v0 v1 v2 v3 v4 v5 v6 : Value) : ∃ W, W = w.alloc (.cells #[v0, v1, v2, v3, v4, v5, v6] 41) ∧ Bx7 W w.heap.size v0 v1 v2 v3 v4 v5 v6 ∧ Kp w W := ⟨_, rfl, by unfold Bx7; simp only [World.alloc, Array.getElem?_push_size], Kp.alloc w _⟩

theorem NdAt.slices {w : World} {b o : Nat} {n : Nd} (h : NdAt w b o n) : ∃ a1 a2 a4 a5 a6 c1 c2 c4 c5 c6, NdR w a1 a2 a4 a5 a6 c1 c2 c4 c5 c6 n ∧ w.cell? ⟨b, o + 1, none⟩ = some (.slice a1 n.inn.length c1) ∧ w.cell? ⟨b, o + 2, none⟩ = some (.slice a2 n.tt.length c2) ∧
    w.cell? ⟨b, o + 4, none⟩ = some (.slice a4 n.s.length c4) ∧ w.cell? ⟨b, o + 5, none⟩ = some (.slice a5 n.d.length c5) ∧ w.cell? ⟨b, o + 6, none⟩ = some (.slice a6 n.hk.length c6) := by
  obtain ⟨h1, h2, h3, h4, ⟨a1, c1, e1, i1⟩, ⟨a2, c2, e2, i2⟩, ⟨a4, c4, e4, i4⟩, ⟨a5, c5, e5, i5⟩, ⟨a6, c6, e6, i6⟩⟩ := h
  exact ⟨a1, a2, a4, a5, a6, c1, c2, c4, c5, c6, ⟨h1, h2, i1, i2, i4, i5, i6⟩, e1, e2, e4, e5, e6⟩

set_option maxRecDepth 20000 in
set_option maxHeartbeats 4000000 in
theorem first_any (gc : Int) (la : Option Addr) (lc : Nat) (lv : List (List Int)) (B : Nat) (a : Option Addr) (c : Nat) (ns : List Nd) (w : World) (hl : Rows2 w (.slice la lv.length lc) lv)
    (hrow : ∀ j, j < 10 → w.cell? ⟨B, j, none⟩ = some (chk (.agg #[.int .i64 gc, .slice la lv.length lc]) j)) (hn : Nodes w (.slice a ns.length c) ns) :
    Calls Try.prog 18 #[.slice (some ⟨B, 0, none⟩) 10 10, .agg #[.slice a ns.length c]] w fun e w' => e = .returned (.tuple #[.int .i64 (fstA gc lv ns), .int .i64 (fstE gc lv ns)]) ∧ Kp w w' := by
  have hroom := hn.room
  have HN := hide hn
  have HL := hide hl
  have HR := hide hrow
  clear hn hl hrow
  have K0 := hide (Kp.alloc w (.cells #[.slice a ns.length c] 34))
  by_cases h0 : ns.length = 0
  · have e0 : ((ns.length : Int) == 0) = true := by rw [h0]; rfl
    have EA : Hid (fstA gc lv ns = 0 ∧ fstE gc lv ns = 13) := by
      have hb : badL ns = true := by unfold badL; rw [decide_eq_true h0]; rfl
      exact ⟨by unfold fstA; rw [hb]; rfl, by unfold fstE; rw [hb]; rfl⟩
    rw [(unhide EA).1, (unhide EA).2]
    clear EA
    generalize ns.length = m at *
    first | clear h0 | skip
    go_enter Try.func18, Try.ntmps18
    go_wp2
    go_ret2
    exact ⟨rfl, unhide K0⟩
  have e0 : ((ns.length : Int) == 0) = false := beq_eq_false_iff_ne.2 (by omega)
  by_cases h1 : 256 < ns.length
  · have h1I : (256 : Int) < (ns.length : Int) := by omega
    have EA : Hid (fstA gc lv ns = 0 ∧ fstE gc lv ns = 13) := by
      have hb : badL ns = true := by unfold badL; rw [decide_eq_true h1]; simp
      exact ⟨by unfold fstA; rw [hb]; rfl, by unfold fstE; rw [hb]; rfl⟩
    rw [(unhide EA).1, (unhide EA).2]
    clear EA
    generalize ns.length = m at *
    first | clear h0 | skip
    go_enter Try.func18, Try.ntmps18
    go_wp2
    go_ret2
    exact ⟨rfl, unhide K0⟩
  have h1I : ¬ (256 : Int) < (ns.length : Int) := by omega
  have EB : Hid (badL ns = false) := by unfold Hid badL; rw [decide_eq_false h0, decide_eq_false h1]; rfl
  have EA : Hid (fstA gc lv ns = fixN (ndF gc lv ns) ns.length ∧ fstE gc lv ns = fnz (ndF gc lv ns) ns.length) := by
    refine ⟨by unfold fstA; rw [unhide EB]; rfl, by unfold fstE; rw [unhide EB]; rfl⟩
  rw [(unhide EA).1, (unhide EA).2]
  clear EA
  go_enter Try.func18, Try.ntmps18
  go_wp2
  go_loopw [24] (fun i wr => ∃ k : Nat, k ≤ ns.length ∧ i = .int .i64 k ∧ Hid (∀ i, i < k → ndF gc lv ns i = 0) ∧ Hid (Kp w wr)) (fun i _ => ns.length - (intOf i).toNat)
  case atStart => exact ⟨0, Nat.zero_le _, rfl, by unfold Hid; omega, unhide K0⟩
  case round =>
    obtain ⟨k, hk, rfl, HA, KR⟩ := hrel
    by_cases hlt : k < ns.length
    · have hltI : (k : Int) < (ns.length : Int) := by omega
      obtain ⟨b, off, rfl, hb, hnd⟩ := (unhide HN).one (unhide KR) hlt
      have c0 := hnd.op
      have c3 := hnd.no
      obtain ⟨a1, a2, a4, a5, a6, c1, c2, c4, c5, c6, hnr, d1, d2, d4, d5, d6⟩ := hnd.slices
      have HNR := hide hnr
      have HE : Hid (ndF gc lv ns k = ndE gc lv (k : Int) (ns.getD k ndnil)) := rfl
      clear hnd hnr
      generalize ns.getD k ndnil = n at *
      obtain ⟨W7, hW7, x7, k7⟩ := bx7_in wr (.int .i64 n.op) (.slice a1 n.inn.length c1) (.slice a2 n.tt.length c2) (.int .i64 n.no) (.slice a4 n.s.length c4) (.slice a5 n.d.length c5) (.slice a6 n.hk.length c6)
      have X7 := hide x7
      have K7 := hide ((unhide KR).trans k7)
      have K7' := hide k7
      have HNR7 := hide ((unhide HNR).keep k7)
      clear x7 k7
      go_wp2
      rw [← hW7]
      clear hW7 c0 c3 d1 d2 d4 d5 d6
      generalize wr.heap.size = B7 at *
      go_loopw [31] (fun i w8 => ∃ j : Nat, j ≤ 10 ∧ i = .int .i64 j ∧ Hid (∀ i, i < j → ek gc lv (k : Int) n i = 0) ∧ Hid (Kp W7 w8)) (fun i _ => 10 - (intOf i).toNat)
      case atStart => exact ⟨0, Nat.zero_le _, rfl, by unfold Hid; omega, Kp.refl _⟩
      case round =>
        obtain ⟨j, hj, rfl, HJ, K8⟩ := hrel
        by_cases hj10 : j < 10
        · have hjI : (j : Int) < 10 := by omega
          obtain ⟨f, hf, hcall, hC⟩ := check_at gc la lc lv j hj10
          have cj := (unhide K8).cellT ((unhide K7).cellT ((unhide HR) j hj10))
          rw [hf] at cj
          have HC := hide (hC (k : Int) a1 a2 a4 a5 a6 c1 c2 c4 c5 c6 n wr ((unhide HL).keep ((unhide K7).trans (unhide K8))) ((unhide HNR7).keep (unhide K8)) (unhide HJ))
          clear hC hf
          obtain ⟨d0, d1, d2, d3, d4, d5, d6⟩ := ((unhide X7).keep (unhide K8)).o
          have HE1 : Hid (ek gc lv (k : Int) n j ≠ 0 → ndF gc lv ns k = ek gc lv (k : Int) n j) := fun hne => by rw [unhide HE]; exact fnz_at (unhide HJ) hne hj10
          have HE2 : Hid (ek gc lv (k : Int) n j ≠ 0 → fixN (ndF gc lv ns) ns.length = k ∧ fnz (ndF gc lv ns) ns.length = ek gc lv (k : Int) n j) := fun hne => by
            have e1 := unhide HE1 hne
            exact ⟨fixN_at (unhide HA) (by rw [e1]; exact hne) hlt, by rw [fnz_at (unhide HA) (by rw [e1]; exact hne) hlt, e1]⟩
          by_cases hz : ek gc lv (k : Int) n j = 0
          · have HJ2 : Hid (∀ i, i < j + 1 → ek gc lv (k : Int) n i = 0) := by
              intro i hi
              by_cases e : i = j
              · subst e; exact hz
              · exact unhide HJ i (by omega)
            have HZ := hide hz
            clear hz HE1 HE2
            go_wp2_with fail
            refine (unhide HC).mono ?_
            rw [unhide HZ]
            rintro e w9 ⟨rfl, k9⟩
            have K9 := hide ((unhide K8).trans k9)
            clear k9 cj d0 d1 d2 d3 d4 d5 d6
            go_wp2
            go_roundw
            case rel => exact ⟨j + 1, by omega, by go_num, unhide HJ2, unhide K9⟩
            case measure => simp [intOf]; omega
          · have E2 := hide (unhide HE2 hz)
            clear HE1 HE2
            go_wp2_with fail
            refine (unhide HC).mono ?_
            rintro e w9 ⟨rfl, k9⟩
            have K9 := hide ((unhide K7).trans ((unhide K8).trans k9))
            clear k9 cj d0 d1 d2 d3 d4 d5 d6
            have hzb : (ek gc lv (k : Int) n j != 0) = true := bne_iff_ne.2 hz
            generalize ek gc lv (k : Int) n j = z at *
            go_wp2
            go_ret2
            exact ⟨ret_two (by rw [(unhide E2).1]) (unhide E2).2.symm, unhide K9⟩
        · obtain rfl : j = 10 := by omega
          have HZ : Hid (∀ i, i < k + 1 → ndF gc lv ns i = 0) := by
            intro i hi
            by_cases e : i = k
            · subst e
              rw [unhide HE]
              exact fnz_zero (unhide HJ)
            · exact unhide HA i (by omega)
          go_wp2
          go_roundw
          case rel => exact ⟨k + 1, by omega, by go_num, unhide HZ, (unhide K7).trans (unhide K8)⟩
          case measure => simp [intOf]; omega
    · obtain rfl : k = ns.length := by omega
      have EZ : Hid (fixN (ndF gc lv ns) ns.length = 0 ∧ fnz (ndF gc lv ns) ns.length = 0) := ⟨fixN_zero (unhide HA), fnz_zero (unhide HA)⟩
      go_wp2
      go_ret2
      exact ⟨ret_two (by rw [(unhide EZ).1]; rfl) (unhide EZ).2.symm, unhide KR⟩

/-- what Check says: the errors of the graphs, which graph, which node -/
def grF (lv : List (List Int)) (gs : List (List Nd)) (i : Nat) : Int := fstE (gs.length : Int) lv (gs.getD i [])
def badC (lv : List (List Int)) (gs : List (List Nd)) : Bool := decide (16 < gs.length) || decide (32 < lv.length)
def chE (lv : List (List Int)) (gs : List (List Nd)) : Int := if badC lv gs then 13 else fnz (grF lv gs) gs.length
def chG (lv : List (List Int)) (gs : List (List Nd)) : Int := if badC lv gs then 0 else fixN (grF lv gs) gs.length
def chA (lv : List (List Int)) (gs : List (List Nd)) : Int := if badC lv gs then 0 else if fnz (grF lv gs) gs.length = 0 then 0 else fstA (gs.length : Int) lv (gs.getD (fixN (grF lv gs) gs.length) [])
theorem ret_three {k l m : IntKind} {a b c d e f : Int} (h : a = b) (h' : c = d) (h'' : e = f) : Ending.returned (.tuple #[.int k a, .int l c, .int m e]) = .returned (.tuple #[.int k b, .int l d, .int m f]) := by rw [h, h', h'']

set_option maxRecDepth 20000 in
set_option maxHeartbeats 4000000 in
theorem check_any (la : Option Addr) (lc : Nat) (lv : List (List Int)) (a : Option Addr) (c : Nat) (gs : List (List Nd)) (w : World) (hl : Rows2 w (.slice la lv.length lc) lv) (hg : Graphs w (.slice a gs.length c) gs) :
    Calls Try.prog 10 #[.slice a gs.length c, .slice la lv.length lc] w fun e w' => e = .returned (.tuple #[.int .i64 (chG lv gs), .int .i64 (chA lv gs), .int .i64 (chE lv gs)]) ∧ Kp w w' := by
  have hr1 := hl.room
  have hr2 := hg.room
  have HL := hide hl
  have HG := hide hg
  clear hl hg
  by_cases hb : badC lv gs = true
  · have EA : Hid (chG lv gs = 0 ∧ chA lv gs = 0 ∧ chE lv gs = 13) := by
      refine ⟨by unfold chG; rw [hb]; rfl, by unfold chA; rw [hb]; rfl, by unfold chE; rw [hb]; rfl⟩
    rw [(unhide EA).1, (unhide EA).2.1, (unhide EA).2.2]
    by_cases h1 : 16 < gs.length
    · have h1I : (16 : Int) < (gs.length : Int) := by omega
      have h1D : decide ((16 : Int) < (gs.length : Int)) = true := decide_eq_true h1I
      clear hb EA
      generalize gs.length = m at *
      generalize lv.length = q at *
      go_enter Try.func10, Try.ntmps10
      go_wp2
      go_ret3
      exact ⟨rfl, Kp.refl _⟩
    · have h2 : 32 < lv.length := by unfold badC at hb; rw [decide_eq_false h1] at hb; simpa using hb
      have h1I : ¬ (16 : Int) < (gs.length : Int) := by omega
      have h1D : decide ((16 : Int) < (gs.length : Int)) = false := decide_eq_false h1I
      have h2I : (32 : Int) < (lv.length : Int) := by omega
      clear hb EA
      generalize gs.length = m at *
      generalize lv.length = q at *
      go_enter Try.func10, Try.ntmps10
      go_wp2
      go_ret3
      exact ⟨rfl, Kp.refl _⟩
  · have hb' := eq_false_of_ne_true hb
    have h1 : ¬ 16 < gs.length := fun h => by unfold badC at hb; rw [decide_eq_true h] at hb; exact hb rfl
    have h2 : ¬ 32 < lv.length := fun h => by unfold badC at hb; rw [decide_eq_true h] at hb; simp at hb
    have h1I : ¬ (16 : Int) < (gs.length : Int) := by omega
    have h1D : decide ((16 : Int) < (gs.length : Int)) = false := decide_eq_false h1I
    have h2I : ¬ (32 : Int) < (lv.length : Int) := by omega
    have EA : Hid (chG lv gs = fixN (grF lv gs) gs.length ∧ chA lv gs = (if fnz (grF lv gs) gs.length = 0 then 0 else fstA (gs.length : Int) lv (gs.getD (fixN (grF lv gs) gs.length) [])) ∧ chE lv gs = fnz (grF lv gs) gs.length) := by
      refine ⟨by unfold chG; rw [hb']; rfl, by unfold chA; rw [hb']; rfl, by unfold chE; rw [hb']; rfl⟩
    clear hb hb'
    go_enter Try.func10, Try.ntmps10
    go_wp2_with (go_at_call 17; refine (checks_any _ _ _ _ _).mono ?_; rintro e w1 ⟨B, rfl, hB, hrow, k1⟩; have HB := hide hB; have HR := hide hrow; have K1 := hide k1; clear hB hrow k1)
    go_loopw [27] (fun i wr => ∃ k : Nat, k ≤ gs.length ∧ i = .int .i64 k ∧ Hid (∀ i, i < k → grF lv gs i = 0) ∧ Hid (Kp w1 wr)) (fun i _ => gs.length - (intOf i).toNat)
    case atStart => exact ⟨0, Nat.zero_le _, rfl, by unfold Hid; omega, Kp.refl _⟩
    case round =>
      obtain ⟨k, hk, rfl, HA, KR⟩ := hrel
      by_cases hlt : k < gs.length
      · have hltI : (k : Int) < (gs.length : Int) := by omega
        obtain ⟨b, off, a', c', rfl, hb, cg, hnd⟩ := (unhide HG).one ((unhide K1).trans (unhide KR)) hlt
        have HN := hide hnd
        have HF : Hid (fstE (gs.length : Int) lv (gs.getD k []) = grF lv gs k) := rfl
        have HF2 : Hid (grF lv gs k ≠ 0 → fixN (grF lv gs) gs.length = k ∧ fnz (grF lv gs) gs.length = grF lv gs k) := fun h => ⟨fixN_at (unhide HA) h hlt, fnz_at (unhide HA) h hlt⟩
        have EC : Hid (grF lv gs k ≠ 0 → chG lv gs = k ∧ chA lv gs = fstA (gs.length : Int) lv (gs.getD k []) ∧ chE lv gs = grF lv gs k) := fun h => by
          obtain ⟨e1, e2⟩ := unhide HF2 h
          obtain ⟨q1, q2, q3⟩ := unhide EA
          refine ⟨by rw [q1, e1], ?_, by rw [q3, e2]⟩
          rw [q2, e2, if_neg h, e1]
        clear hnd HF2
        generalize gs.getD k [] = ns at *
        have k9 := Kp.alloc wr (.cells #[.slice a' ns.length c'] 34)
        have K9 := hide ((unhide K1).trans ((unhide KR).trans k9))
        have K9' := hide ((unhide KR).trans k9)
        have K9w := hide k9
        clear k9
        go_wp2_with fail
        refine (first_any (gs.length : Int) la lc lv B a' c' ns _ ((unhide HL).keep (unhide K9)) (fun j hj => (unhide K9').cellT (unhide HR j hj)) ((unhide HN).keep (unhide K9w))).mono ?_
        rw [unhide HF]
        rintro e w4 ⟨rfl, k4⟩
        have K4 := hide ((unhide K9').trans k4)
        clear k4 cg
        by_cases hz : grF lv gs k = 0
        · have HZ : Hid (∀ i, i < k + 1 → grF lv gs i = 0) := by
            intro i hi
            by_cases e : i = k
            · subst e; exact hz
            · exact unhide HA i (by omega)
          rw [hz]
          clear hz EC
          go_wp2
          go_roundw
          case rel => exact ⟨k + 1, by omega, by go_num, unhide HZ, unhide K4⟩
          case measure => simp [intOf]; omega
        · have hzb : (grF lv gs k != 0) = true := bne_iff_ne.2 hz
          have EC2 := hide (unhide EC hz)
          clear EC hz HF
          generalize grF lv gs k = z at *
          generalize fstA (gs.length : Int) lv ns = y at *
          go_wp2
          go_ret3
          exact ⟨ret_three (unhide EC2).1.symm (unhide EC2).2.1.symm (unhide EC2).2.2.symm, (unhide K1).trans (unhide K4)⟩
      · obtain rfl : k = gs.length := by omega
        have EZ : Hid (chG lv gs = 0 ∧ chA lv gs = 0 ∧ chE lv gs = 0) := by
          obtain ⟨q1, q2, q3⟩ := unhide EA
          exact ⟨by rw [q1, fixN_zero (unhide HA)]; rfl, by rw [q2, fnz_zero (unhide HA)]; rfl, by rw [q3, fnz_zero (unhide HA)]⟩
        go_wp2
        go_ret3
        exact ⟨ret_three (unhide EZ).1.symm (unhide EZ).2.1.symm (unhide EZ).2.2.symm, (unhide K1).trans (unhide KR)⟩

end Go.Proofs.Ytliddjpcbhdplaa
