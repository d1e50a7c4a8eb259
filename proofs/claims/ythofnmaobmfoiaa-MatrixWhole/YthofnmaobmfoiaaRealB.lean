
/- Contracts of the rows: one number after another. -/
import Derived.Test.YthofnmaobmfoiaaRealA
namespace Go.Proofs.Ythofnmaobmfoiaa
open Go.RowKit

theorem Flts.cell {w w' : World} {a : Option Addr} {n cap : Nat} {xs : List Nat} (h : Flts w (.slice a n cap) xs) (k : Kp w w') {i : Nat} (hi : i < n) : ∃ b off, a = some ⟨b, off, none⟩ ∧ w'.cell? ⟨b, off + i, none⟩ = some (.float .f64 (xs.getD i 0)) := by
  obtain ⟨_, _, _, a', cap', e, hv⟩ := h.keep k
  cases e
  obtain ⟨b, off, rfl, _, hc⟩ := hv (by omega)
  exact ⟨b, off, rfl, hc i hi⟩

/-- a number goes on from what is there -/
def rowFrom (s : Nat) (l : List Nat) : Nat := l.foldl adC (cn s)
theorem rowFrom_take {s : Nat} {l : List Nat} {k : Nat} (h : k < l.length) : rowFrom s (l.take (k + 1)) = adC (rowFrom s (l.take k)) (l.getD k 0) := by
  unfold rowFrom
  rw [List.take_add_one, show l[k]? = some (l.getD k 0) by simp [h], List.foldl_append]
  rfl
theorem adC_cn_l {r s : Nat} (x : Nat) (h : cn r = s) : adC r x = adC s x := by
  subst h
  rw [← adC_cn (cn r) x, cn_cn, adC_cn]

set_option maxHeartbeats 400000 in
theorem inturn_any (v : Value) (xs : List Nat) (s : Nat) (w : World) (hs : W64 s) (h : Flts w v xs) :
    Calls Try.prog 25 #[.float .f64 s, v, .func (.func 26) #[] #[]] w fun e w' => ∃ r, e = .returned (.float .f64 r) ∧ (cn r = rowFrom s xs ∧ W64 r) ∧ w'.heap = w.heap ∧ Kp w w' := by
  have hr := h.room
  obtain ⟨a, cap, rfl, hv⟩ := h.val
  clear hv
  have H := hide h
  have HS := hide hs
  clear h hs
  go_enter Try.func25, Try.ntmps25
  go_wp2
  go_loopw [0, 11] (fun s' i wr => ∃ (k r : Nat), k ≤ xs.length ∧ i = .int .i64 k ∧ s' = .float .f64 r ∧ (cn r = rowFrom s (xs.take k) ∧ W64 r) ∧ wr.heap = w.heap ∧ Kp w wr) (fun _ i _ => xs.length - (intOf i).toNat)
  case atStart => exact ⟨0, s, Nat.zero_le _, rfl, rfl, ⟨rfl, unhide HS⟩, rfl, Kp.refl _⟩
  case round =>
    obtain ⟨k, r, hk, rfl, rfl, hcr, hhp, hkp⟩ := hrel
    have HC := hide hcr
    have HH := hide hhp
    have HK := hide hkp
    clear hcr hhp hkp
    by_cases hlt : k < xs.length
    · obtain ⟨b, off, rfl, hck⟩ := (unhide H).cell (unhide HK) hlt
      have E := hide (rowFrom_take (s := s) hlt)
      generalize xs.getD k 0 = x at *
      go_wp2_with fail
      refine (plus_any r x _).mono ?_
      rintro e w2 ⟨r2, rfl, h2, hh2, k2⟩
      have H2 := hide h2
      have HH2 := hide (hh2.trans (unhide HH))
      have HK2 := hide ((unhide HK).trans k2)
      clear h2 hh2 k2
      go_wp2
      go_roundw
      case rel => exact ⟨k + 1, r2, by omega, by go_num, rfl, ⟨by rw [(unhide H2).1, unhide E]; exact adC_cn_l x (unhide HC).1, (unhide H2).2⟩, unhide HH2, unhide HK2⟩
      case measure => simp [intOf]; omega
    · have E : Hid (xs.take k = xs) := List.take_of_length_le (by omega)
      go_wp2
      go_ret
      exact ⟨r, rfl, ⟨by rw [(unhide HC).1, unhide E], (unhide HC).2⟩, unhide HH, unhide HK⟩

theorem w64_0 : W64 0 := by unfold W64; omega

set_option maxHeartbeats 400000 in
theorem row_any (v : Value) (xs : List Nat) (w : World) (h : Flts w v xs) :
    Calls Try.prog 21 #[v] w fun e w' => ∃ r, e = .returned (.float .f64 r) ∧ (cn r = rowC xs ∧ W64 r) ∧ w'.heap = w.heap ∧ Kp w w' := by
  have HE := hide (inturn_any v xs 0 w w64_0 h)
  clear h
  go_enter Try.func21, Try.ntmps21
  go_wp2_with fail
  refine (unhide HE).mono ?_
  rintro e w1 ⟨r, rfl, h1, hh, k1⟩
  have H1 := hide h1
  have HH := hide hh
  have K1 := hide k1
  clear h1 k1 hh HE
  go_wp2
  go_ret
  exact ⟨r, rfl, unhide H1, unhide HH, unhide K1⟩

end Go.Proofs.Ythofnmaobmfoiaa
