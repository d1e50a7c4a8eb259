
/- PileSorts. -/
import Derived.Test.YthcilobmoeihbaaPilI
import Derived.Test.YthcilobmoeihbaaOpnV
import Derived.BigQuiet
namespace Go.Proofs.Ythcilobmoeihbaa
open Go.RowKit

/-- the first k ids with their ranks as they came in -/
def colL (z : Nat → Nat → Int) (k : Nat) : List (Int × Int) := (List.range k).map fun j => (z j 0, z j 1)
theorem colL_succ (z : Nat → Nat → Int) (k : Nat) : colL z (k + 1) = colL z k ++ [(z k 0, z k 1)] := by unfold colL; rw [List.range_succ, List.map_append]; rfl
theorem colL_length (z : Nat → Nat → Int) (k : Nat) : (colL z k).length = k := by simp [colL]
theorem colL_push {z : Nat → Nat → Int} {k : Nat} {ss : List (Int × Int)} (h : ss.Perm (colL z k)) : (insI (z k 0, z k 1) ss).Perm (colL z (k + 1)) := by
  rw [colL_succ]
  exact ((insI_perm _ _).trans (h.cons _)).trans (List.perm_append_comm (l₁ := [(z k 0, z k 1)]) (l₂ := colL z k))
theorem colL_mem {z : Nat → Nat → Int} {k : Nat} {x : Int × Int} (h : x ∈ colL z k) : ∃ j, j < k ∧ x = (z j 0, z j 1) := by
  unfold colL at h
  obtain ⟨j, hj, rfl⟩ := List.mem_map.1 h
  exact ⟨j, List.mem_range.1 hj, rfl⟩
/-- what is added up -/
def sumI (l : List (Int × Int)) : Int := (l.map fun x => x.1 * 3 + x.2).sum
theorem sumI_app (l : List (Int × Int)) (x : Int × Int) : sumI (l ++ [x]) = sumI l + (x.1 * 3 + x.2) := by simp [sumI]
theorem sumI_perm {a b : List (Int × Int)} (h : a.Perm b) : sumI a = sumI b := by
  unfold sumI
  induction h with
  | nil => rfl
  | cons x _ ih => simp only [List.map_cons, List.sum_cons, ih]
  | swap x y l => simp only [List.map_cons, List.sum_cons]; omega
  | trans _ _ ih1 ih2 => exact ih1.trans ih2
theorem drop_tail {α : Type} (l : List α) (k : Nat) : (l.drop k).tail = l.drop (k + 1) := by simp
theorem drop_nxt {l : List (Int × Int)} {k : Nat} (h : k < l.length) : nxt (l.drop k) = atL (0, 0) l k := by rw [drop_at h]; rfl
theorem Srt.step {l : List (Int × Int)} (h : Srt l) {k : Nat} (hk : k + 1 < l.length) : ltI (atL (0, 0) l (k + 1)) (atL (0, 0) l k) = false := by
  have h2 := List.pairwise_iff_getElem.1 h k (k + 1) (by omega) hk (by omega)
  have e1 : atL (0, 0) l (k + 1) = l[k + 1] := by unfold atL; simp [List.getD, hk]
  have e2 : atL (0, 0) l k = l[k] := by unfold atL; simp [List.getD, show k < l.length by omega]
  rw [e1, e2]
  exact h2
/-- what came before -/
def lastP (l : List (Int × Int)) (k : Nat) : Int × Int := if k = 0 then (-1048576, 1048576) else atL (0, 0) l (k - 1)

set_option maxRecDepth 20000 in
set_option maxHeartbeats 8000000 in
theorem sorts_any (a : Option Addr) (n cap : Nat) (z : Nat → Nat → Int) (w : World) (h : InArr .i16 2 w a n z) : Calls Try.prog 4 #[.slice a n cap] w fun e w' => e = .returned (.bool true) ∧ Kp w w' := by
  have hn := h.1
  have H := hide h
  have HA := hide (awake14_any w)
  clear h
  go_enter Try.func4, Try.ntmps4
  go_wp2_with fail
  refine (unhide HA).mono ?_
  clear HA
  rintro e w0 ⟨rfl, k0⟩
  have K0 := hide k0
  clear k0
  by_cases hbig : 500 < n
  · have hbI : decide ((500 : Int) < (n : Int)) = true := decide_eq_true (by omega)
    go_wp2
    go_ret
    exact ⟨rfl, unhide K0⟩
  · have hbI : decide ((500 : Int) < (n : Int)) = false := decide_eq_false (by omega)
    have HN := hide (my_new w w0 (unhide K0))
    go_wp2_with fail
    refine (unhide HN).mono ?_
    clear HN K0
    rintro e w1 ⟨P, rfl, h1, -⟩
    have H1 := hide h1
    clear h1
    go_wp2
    go_loopw [4] (fun i wr => ∃ (k : Nat) (ss : List (Int × Int)), k ≤ n ∧ i = .int .i64 k ∧ Hid (ss.Perm (colL z k)) ∧ Hid (MyP w wr P ss)) (fun i _ => n - (intOf i).toNat)
    case atStart => exact ⟨0, [], Nat.zero_le _, rfl, List.Perm.refl _, unhide H1⟩
    case round =>
      obtain ⟨k, ss, hk, rfl, HP, HM⟩ := hrel
      by_cases hlt : k < n
      · have hkI : (k : Int) < (n : Int) := by omega
        obtain ⟨b, off, rfl, hb, hc⟩ := (unhide H).2 (by omega)
        have kw := (unhide HM).kp
        obtain ⟨d0, g0⟩ := hc k hlt 0 (by omega)
        obtain ⟨d1, g1⟩ := hc k hlt 1 (by omega)
        rw [Nat.add_zero] at d0
        have c0 := (Below.cell kw (p := ⟨b, off + k * 2, none⟩) hb).trans d0
        have c1 := (Below.cell kw (p := ⟨b, off + k * 2 + 1, none⟩) hb).trans d1
        have b0 := bounds_i16 g0
        have b1 := bounds_i16 g1
        have hsl : ss.length = k := by rw [(unhide HP).length_eq, colL_length]
        have HP2 := hide (colL_push (z := z) (unhide HP))
        generalize z k 0 = x at *
        generalize z k 1 = y at *
        have ex : IntKind.i64.wrap x = x := by rw [IntKind.wrap_i64]; omega
        have ey : IntKind.i64.wrap y = y := by rw [IntKind.wrap_i64]; omega
        have CC : Hid (∀ w2, Kp wr w2 → Calls Try.prog 12 #[.pointer (some ⟨P, 0, none⟩), .int .i64 (IntKind.i64.wrap x), .int .i64 (IntKind.i64.wrap y)] w2 fun e w' => e = .returned (.tuple #[]) ∧ Hid (MyP w w' P (insI (x, y) ss)) ∧ w'.cell? ⟨b, off + k * 2, none⟩ = some (.int .i16 x) ∧ w'.cell? ⟨b, off + k * 2 + 1, none⟩ = some (.int .i16 y)) := by
          intro w2 k2
          rw [ex, ey]
          refine (my_push ((unhide HM).keep k2) x y (by omega)).mono ?_
          rintro e w' ⟨rfl, m', -⟩
          exact ⟨rfl, m', (Below.cell m'.kp (p := ⟨b, off + k * 2, none⟩) hb).trans d0, (Below.cell m'.kp (p := ⟨b, off + k * 2 + 1, none⟩) hb).trans d1⟩
        clear ex ey
        clear hc g0 g1 d0 d1 kw
        go_wp2_with fail
        go_region_held3 (fun w' => w'.cell? ⟨b, off + k * 2, none⟩ = some (.int .i16 x) ∧ w'.cell? ⟨b, off + k * 2 + 1, none⟩ = some (.int .i16 y)) (go_keep)
          (first
            | (go_at_call 12; refine ((unhide CC) _ ?_).mono ?_; (first | exact Kp.drew wr | exact Kp.refl wr); rintro e w3 ⟨rfl, HM3, e0, e1⟩))
        all_goals (
          clear e0 e1
          go_wp2
          go_roundw
          case rel => exact ⟨k + 1, _, by omega, by go_num, unhide HP2, unhide HM3⟩
          case measure => simp [intOf]; omega)
      · have hkn : n = k := by omega
        subst hkn
        have hsl : ss.length = n := by rw [(unhide HP).length_eq, colL_length]
        have HS := hide (unhide HM).srt
        have hM0 : MyP w wr P (ss.drop 0) := unhide HM
        have HM0 := hide hM0
        have HB : Hid (∀ q, q < n → -32768 ≤ (atL (0, 0) ss q).1 ∧ (atL (0, 0) ss q).1 ≤ 32767 ∧ -32768 ≤ (atL (0, 0) ss q).2 ∧ (atL (0, 0) ss q).2 ≤ 32767) := by
          intro q hq
          have e1 : atL (0, 0) ss q = ss[q]'(by omega) := by unfold atL; simp [List.getD, show q < ss.length by omega]
          obtain ⟨j, hj, e2⟩ := colL_mem ((unhide HP).mem_iff.1 (List.getElem_mem (show q < ss.length by omega)))
          rw [e1, e2]
          obtain ⟨b, off, _, _, hc⟩ := (unhide H).2 (by omega)
          exact ⟨(bounds_i16 (hc j hj 0 (by omega)).2).1, (bounds_i16 (hc j hj 0 (by omega)).2).2, bounds_i16 (hc j hj 1 (by omega)).2⟩
        clear HM hM0
        go_wp2
        go_loopw [5, 6, 7, 8] (fun lid la su i wr => ∃ (q : Nat) (su' : Int), q ≤ n ∧ lid = .int .i64 (lastP ss q).1 ∧ la = .int .i64 (lastP ss q).2 ∧ su = .int .i64 su' ∧ i = .int .i64 q ∧ Hid (su' = sumI (ss.take q) - sumI (colL z q)) ∧ Hid (-262144 * (q : Int) ≤ su' ∧ su' ≤ 262144 * (q : Int)) ∧ Hid (MyP w wr P (ss.drop q))) (fun _ _ _ i _ => n - (intOf i).toNat)
        case atStart => exact ⟨0, 0, Nat.zero_le _, rfl, rfl, rfl, rfl, rfl, ⟨by omega, by omega⟩, unhide HM0⟩
        case round =>
          obtain ⟨q, su', hq, rfl, rfl, rfl, rfl, HSu, HBd, HMq⟩ := hrel
          by_cases hlt2 : q < n
          · have hqI : (q : Int) < (n : Int) := by omega
            have hlast : (lastP ss q).2 < (atL (0, 0) ss q).2 → False := by
              intro hc
              unfold lastP at hc
              have := unhide HB q hlt2
              split at hc
              · simp only at hc; omega
              · have h1 := (unhide HS).step (k := q - 1) (by omega)
                rw [show q - 1 + 1 = q by omega, ltI_no] at h1
                omega
            have hlast2 : (atL (0, 0) ss q).2 = (lastP ss q).2 → (atL (0, 0) ss q).1 < (lastP ss q).1 → False := by
              intro he hc
              unfold lastP at hc he
              have := unhide HB q hlt2
              split at hc
              · rename_i hz; rw [if_pos hz] at he; simp only at he; omega
              · rename_i hz
                rw [if_neg hz] at he
                have h1 := (unhide HS).step (k := q - 1) (by omega)
                rw [show q - 1 + 1 = q by omega, ltI_no] at h1
                omega
            have HNX : Hid (lastP ss (q + 1) = atL (0, 0) ss q) := by unfold Hid lastP; rw [if_neg (by omega)]; rfl
            have hbx := unhide HB q hlt2
            have hbd := unhide HBd
            have hsu : -131072000 ≤ su' ∧ su' ≤ 131072000 := by omega
            obtain ⟨b, off, rfl, hb, hc⟩ := (unhide H).2 (by omega)
            obtain ⟨d0, g0⟩ := hc q hlt2 0 (by omega)
            obtain ⟨d1, g1⟩ := hc q hlt2 1 (by omega)
            rw [Nat.add_zero] at d0
            have b0 := bounds_i16 g0
            have b1 := bounds_i16 g1
            have HSu2 : Hid (su' + (atL (0, 0) ss q).1 * 3 + (atL (0, 0) ss q).2 - z q 0 * 3 - z q 1 = sumI (ss.take (q + 1)) - sumI (colL z (q + 1))) := by
              unfold Hid
              rw [take_at (by omega), colL_succ, sumI_app, sumI_app]
              have := unhide HSu
              simp only
              omega
            have HC := hide ((my_pop (unhide HMq)).mono (R' := fun e w' => e = .returned (.tuple #[.int .i64 (atL (0, 0) ss q).1, .int .i64 (atL (0, 0) ss q).2, .bool true]) ∧ Hid (MyP w w' P (ss.drop (q + 1))) ∧ w'.cell? ⟨b, off + q * 2, none⟩ = some (.int .i16 (z q 0)) ∧ w'.cell? ⟨b, off + q * 2 + 1, none⟩ = some (.int .i16 (z q 1))) (by
              rintro e w' ⟨rfl, m', -⟩
              rw [drop_nxt (by omega)]
              rw [drop_tail] at m'
              have ed : decide (0 < (ss.drop q).length) = true := by simp; omega
              rw [ed]
              exact ⟨rfl, m', (Below.cell m'.kp (p := ⟨b, off + q * 2, none⟩) hb).trans d0, (Below.cell m'.kp (p := ⟨b, off + q * 2 + 1, none⟩) hb).trans d1⟩))
            clear hc g0 g1 d0 d1 hbd
            generalize z q 0 = z0 at *
            generalize z q 1 = z1 at *
            generalize atL (0, 0) ss q = x at *
            generalize lastP ss q = l at *
            obtain ⟨x1, x2⟩ := x
            obtain ⟨l1, l2⟩ := l
            simp only at hlast hlast2 hbx HC HSu2
            have f1 : decide (l2 < x2) = false := decide_eq_false hlast
            have f2 : (x2 == l2) = false ∨ ((x2 == l2) = true ∧ decide (x1 < l1) = false) := by
              by_cases e : x2 = l2
              · exact .inr ⟨by simp [e], decide_eq_false (hlast2 e)⟩
              · exact .inl (by simp [e])
            have e0 : IntKind.i64.wrap z0 = z0 := by rw [IntKind.wrap_i64]; omega
            have e1 : IntKind.i64.wrap z1 = z1 := by rw [IntKind.wrap_i64]; omega
            have e2 : IntKind.i64.wrap (x1 * 3) = x1 * 3 := by rw [IntKind.wrap_i64]; omega
            have e3 : IntKind.i64.wrap (su' + x1 * 3) = su' + x1 * 3 := by rw [IntKind.wrap_i64]; omega
            have e4 : IntKind.i64.wrap (su' + x1 * 3 + x2) = su' + x1 * 3 + x2 := by rw [IntKind.wrap_i64]; omega
            have e5 : IntKind.i64.wrap (z0 * 3) = z0 * 3 := by rw [IntKind.wrap_i64]; omega
            have e6 : IntKind.i64.wrap (su' + x1 * 3 + x2 - z0 * 3) = su' + x1 * 3 + x2 - z0 * 3 := by rw [IntKind.wrap_i64]; omega
            have e7 : IntKind.i64.wrap (su' + x1 * 3 + x2 - z0 * 3 - z1) = su' + x1 * 3 + x2 - z0 * 3 - z1 := by rw [IntKind.wrap_i64]; omega
            have HBn : Hid (-262144 * ((q + 1 : Nat) : Int) ≤ su' + x1 * 3 + x2 - z0 * 3 - z1 ∧ su' + x1 * 3 + x2 - z0 * 3 - z1 ≤ 262144 * ((q + 1 : Nat) : Int)) := by
              have := unhide HBd
              unfold Hid
              omega
            clear hlast hlast2
            rcases f2 with f2 | ⟨f2, f3⟩
            all_goals (
              go_wp2_with fail
              refine (unhide HC).mono ?_
              rintro e w3 ⟨rfl, HM3, c0, c1⟩
              go_wp2_with fail
              go_quiet (fail)
              go_wp2
              go_roundw
              case rel => exact ⟨q + 1, _, by omega, by rw [unhide HNX], by rw [unhide HNX], rfl, by go_num, unhide HSu2, unhide HBn, (unhide HM3).keep (Kp.drewN _ _)⟩
              case measure => simp [intOf]; omega)
          · have hqn : q = n := by omega
            subst hqn
            have HE : Hid (su' = 0) := by
              have h1 := unhide HSu
              rw [List.take_of_length_le (by omega), sumI_perm (unhide HP)] at h1
              unfold Hid
              omega
            have hse := unhide HE
            subst hse
            have hdr : ss.drop q = [] := List.drop_of_length_le (by omega)
            rw [hdr] at HMq
            have HC := hide ((my_pop (unhide HMq)).mono (R' := fun e w' => e = .returned (.tuple #[.int .i64 0, .int .i64 0, .bool false]) ∧ Hid (MyP w w' P [])) (by
              rintro e w' ⟨rfl, m', -⟩
              exact ⟨rfl, m'⟩))
            clear HSu HBd HE
            go_wp2_with fail
            refine (unhide HC).mono ?_
            rintro e w3 ⟨rfl, HM3⟩
            go_wp2_with fail
            refine (my_len (unhide HM3)).mono ?_
            rintro e w4 ⟨rfl, rfl⟩
            have ez : ((([] : List (Int × Int)).length : Nat) : Int) = 0 := rfl
            rw [ez]
            go_wp2
            go_ret
            exact ⟨rfl, (unhide HM3).kp⟩

end Go.Proofs.Ythcilobmoeihbaa
