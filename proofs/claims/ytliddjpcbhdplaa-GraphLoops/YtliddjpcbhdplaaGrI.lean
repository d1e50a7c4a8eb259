
/- The contracts of Work and Edges. -/
import Derived.Test.YtliddjpcbhdplaaGrF
import Derived.Test.YtliddjpcbhdplaaGrH
namespace Go.Proofs.Ytliddjpcbhdplaa
open Go.RowKit

/-- what Work says -/
def WorkR (gs : List (List Nd)) (g v e : Int) : Prop :=
  (¬ WholeP gs g ∧ v = 0 ∧ e = 6) ∨ (WholeP gs g ∧ DeepP gs g ∧ v = 0 ∧ e = 9) ∨ (WholeP gs g ∧ ¬ DeepP gs g ∧ 4096 < wk gs g 9 ∧ v = 0 ∧ e = 10) ∨ (WholeP gs g ∧ ¬ DeepP gs g ∧ wk gs g 9 ≤ 4096 ∧ v = (wk gs g 9 : Int) ∧ e = 0)
theorem WorkR.one {gs : List (List Nd)} {g v e v' e' : Int} (h : WorkR gs g v e) (h' : WorkR gs g v' e') : v = v' ∧ e = e' := by
  rcases h with ⟨a, b, c⟩ | ⟨a, b, c, d⟩ | ⟨a, b, c, d, f⟩ | ⟨a, b, c, d, f⟩ <;> rcases h' with ⟨a', b', c'⟩ | ⟨a', b', c', d'⟩ | ⟨a', b', c', d', f'⟩ | ⟨a', b', c', d', f'⟩ <;>
    first | exact absurd a' a | exact absurd a a' | exact absurd b b' | exact absurd b' b | omega | (subst_vars; exact ⟨rfl, rfl⟩)

set_option maxHeartbeats 2000000 in
theorem work_any (a : Option Addr) (c : Nat) (gs : List (List Nd)) (g : Int) (w : World) (h : Graphs w (.slice a gs.length c) gs) (hg : I64 g) :
    Calls Try.prog 13 #[.slice a gs.length c, .int .i64 g] w fun e w' => ∃ v r, e = .returned (.tuple #[.int .i64 v, .int .i64 r]) ∧ WorkR gs g v r ∧ Kp w w' := by
  have H := hide h
  have HC := hide (whole_any a c gs g w h hg)
  clear h
  have hroom := (unhide H).room
  go_enter Try.func13, Try.ntmps13
  go_wp2_with fail
  refine (unhide HC).mono ?_
  rintro e w1 ⟨r, rfl, hr, k1⟩
  have K1 := hide k1
  have HR := hide hr
  clear hr k1 HC
  by_cases hw : WholeP gs g
  · obtain rfl : r = true := (unhide HR).2 hw
    have HW := hide hw
    have hgr := hw g .base
    obtain ⟨i, rfl⟩ : ∃ i : Nat, g = (i : Int) := ⟨g.toNat, by have := hgr.1; omega⟩
    have HC := hide (count_any a c gs i w1 ((unhide H).keep (unhide K1)) (by have := hgr.2; omega) hw)
    clear hw hgr
    go_wp2_with fail
    refine (unhide HC).mono ?_
    rintro e w2 ⟨dp, rfl, hd, k2⟩
    have K2 := hide ((unhide K1).trans k2)
    have HD := hide hd
    clear hd k2 HC
    cases dp
    · have hnd : Hid (¬ DeepP gs (i : Int)) := fun h => by cases (unhide HD).2 h
      by_cases hb : 4096 < wk gs (i : Int) 9
      · have es : sat (wk gs (i : Int) 9) = 4097 := sat_big' hb
        have HB := hide hb
        rw [es]
        clear es hb
        go_wp2
        go_ret2
        exact ⟨0, 10, rfl, .inr (.inr (.inl ⟨unhide HW, unhide hnd, unhide HB, rfl, rfl⟩)), unhide K2⟩
      · have es : sat (wk gs (i : Int) 9) = wk gs (i : Int) 9 := sat_small' (by omega)
        have hs : wk gs (i : Int) 9 ≤ 4096 := by omega
        rw [es]
        clear es hb
        have HB := hide hs
        obtain ⟨z, hz⟩ : ∃ z, z = wk gs (i : Int) 9 := ⟨_, rfl⟩
        rw [← hz] at hs ⊢
        have HZ := hide hz
        clear hz
        have hsI : ¬ (4096 : Int) < (z : Int) := by omega
        go_wp2
        go_ret2
        exact ⟨_, 0, rfl, .inr (.inr (.inr ⟨unhide HW, unhide hnd, unhide HB, by rw [unhide HZ], rfl⟩)), unhide K2⟩
    · have hd := hide ((unhide HD).1 rfl)
      generalize sat (wk gs (i : Int) 9) = z
      go_wp2
      go_ret2
      exact ⟨0, 9, rfl, .inr (.inl ⟨unhide HW, unhide hd, rfl, rfl⟩), unhide K2⟩
  · obtain rfl : r = false := by
      cases r
      · rfl
      · exact absurd ((unhide HR).1 rfl) hw
    have HW := hide hw
    clear hw
    go_wp2
    go_ret2
    exact ⟨0, 6, rfl, .inl ⟨unhide HW, rfl, rfl⟩, unhide K1⟩

/-- how many inputs all nodes have -/
def edgesN : List Nd → Nat
  | [] => 0
  | n :: r => n.inn.length + edgesN r
theorem edgesN_take {ns : List Nd} {k : Nat} (hk : k < ns.length) : edgesN (ns.take (k + 1)) = edgesN (ns.take k) + (ns.getD k ndnil).inn.length := by
  have e : ns.getD k ndnil = ns[k] := by simp [hk]
  rw [e]
  clear e
  induction ns generalizing k with
  | nil => simp at hk
  | cons n r ih =>
    cases k with
    | zero => simp [edgesN]
    | succ k =>
      simp only [List.take_succ_cons, edgesN, List.getElem_cons_succ]
      rw [ih (by simpa using hk)]
      omega

set_option maxHeartbeats 2000000 in
theorem edges_any (a : Option Addr) (c : Nat) (ns : List Nd) (w : World) (h : Nodes w (.slice a ns.length c) ns) (hs : edgesN ns ≤ 1000000000000) :
    Calls Try.prog 12 #[.agg #[.slice a ns.length c]] w fun e w' => e = .returned (.int .i64 (edgesN ns : Int)) ∧ Kp w w' := by
  have hroom := h.room
  have H := hide h
  have HS : ∀ k, k < ns.length → Hid (edgesN (ns.take (k + 1)) = edgesN (ns.take k) + (ns.getD k ndnil).inn.length ∧ edgesN (ns.take (k + 1)) ≤ 1000000000000) := fun k hk => by
    refine ⟨edgesN_take hk, Nat.le_trans ?_ hs⟩
    have : ∀ (l m : List Nd), edgesN l ≤ edgesN (l ++ m) := by
      intro l m
      induction l with
      | nil => simp [edgesN]
      | cons n r ih => simp only [List.cons_append, edgesN]; omega
    have h2 := this (ns.take (k + 1)) (ns.drop (k + 1))
    rw [List.take_append_drop] at h2
    exact h2
  have HSS := hide HS
  clear h HS hs
  have K0 := hide (Kp.alloc w (.cells #[.slice a ns.length c] 34))
  go_enter Try.func12, Try.ntmps12
  go_wp2
  go_loopw [9, 3] (fun i s wr => ∃ k N : Nat, k ≤ ns.length ∧ i = .int .i64 k ∧ s = .int .i64 N ∧ N ≤ 1000000000000 ∧ Hid (N = edgesN (ns.take k)) ∧ Hid (Kp w wr)) (fun i _ _ => ns.length - (intOf i).toNat)
  case atStart => exact ⟨0, 0, Nat.zero_le _, rfl, rfl, by omega, rfl, unhide K0⟩
  case round =>
    obtain ⟨k, N, hk, rfl, rfl, hN, HN, KR⟩ := hrel
    by_cases hlt : k < ns.length
    · have hltI : (k : Int) < (ns.length : Int) := by omega
      obtain ⟨b, off, rfl, hb, hnd⟩ := (unhide H).one (unhide KR) hlt
      have c0 := hnd.op
      have c3 := hnd.no
      obtain ⟨a1, a2, a4, a5, a6, c1, c2, c4, c5, c6, hnr, d1, d2, d4, d5, d6⟩ := hnd.slices
      have hri := hnr.inn.room
      have HH := unhide HSS k hlt
      clear hnd hnr
      generalize ns.getD k ndnil = n at *
      have HE : Hid (N + n.inn.length = edgesN (ns.take (k + 1))) := by unfold Hid; rw [(unhide HH).1, unhide HN]
      have hN2 : N + n.inn.length ≤ 1000000000000 := by rw [unhide HE]; exact (unhide HH).2
      have k9 := hide ((unhide KR).trans (Kp.alloc wr (.cells #[.int .i64 n.op, .slice a1 n.inn.length c1, .slice a2 n.tt.length c2, .int .i64 n.no, .slice a4 n.s.length c4, .slice a5 n.d.length c5, .slice a6 n.hk.length c6] 41)))
      clear HH
      go_wp2
      go_roundw
      case rel => exact ⟨k + 1, N + n.inn.length, by omega, by go_num, by go_num, hN2, unhide HE, unhide k9⟩
      case measure => simp [intOf]; omega
    · obtain rfl : k = ns.length := by omega
      have e1 : Hid (N = edgesN ns) := by unfold Hid; rw [unhide HN, List.take_length]
      go_wp2
      go_ret
      exact ⟨ret_int (by rw [unhide e1]), unhide KR⟩

end Go.Proofs.Ytliddjpcbhdplaa
