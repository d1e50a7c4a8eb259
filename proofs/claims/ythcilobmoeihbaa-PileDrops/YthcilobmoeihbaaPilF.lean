
/- slices.DeleteFunc over the queue's row. -/
import Derived.Test.YthcilobmoeihbaaPilE
import Derived.Test.YthcilobmoeihbaaPilD
namespace Go.Proofs.Ythcilobmoeihbaa
open Go.RowKit

theorem own_kx {w w' : World} {v : Value} {g : Nat} {ms : List (Int × Int)} (h : OwnP w v ms) (k : Kx g w w') (hne : v.ownBlock = none ∨ v.ownBlock ≠ some g) : OwnP w' v ms := World.ownsRow.kept h k hne

set_option maxRecDepth 20000 in
set_option maxHeartbeats 8000000 in
theorem delete_any (B g n cap : Nat) (id : Int) (ms : List (Int × Int)) (w : World) (h : OwnP w (.slice (some ⟨g, 0, none⟩) n cap) ms) (hg : g < w.heap.size) (hn : ms.length = n) (hr : n ≤ 1000000000) (hc : w.cell? ⟨B, 0, none⟩ = some (.int .i64 id)) (hBg : B ≠ g) :
    Calls Try.prog 20 #[.slice (some ⟨g, 0, none⟩) n cap, .func (.func 21) #[] #[.pointer (some ⟨B, 0, none⟩)]] w fun e w' => e = .returned (.slice (some ⟨g, 0, none⟩) (keepI id ms).length cap) ∧ OwnP w' (.slice (some ⟨g, 0, none⟩) (keepI id ms).length cap) (keepI id ms) ∧ Kx g w w' := by
  have hBlt := World.block_lt_of_cell? w _ hc
  have HC := hide hc
  have HO := hide h
  have HI := hide (ixf_any B g n cap id ms w h hn hr hc)
  clear h hc
  have hcall := Try.call21
  go_enter Try.func20, Try.ntmps20
  go_wp2_with fail
  refine (unhide HI).mono ?_
  rintro e w1 ⟨i, rfl, hF, k1⟩
  have K1 := hide k1
  clear k1 HI
  rcases hF with ⟨rfl, hno⟩ | ⟨q, rfl, hq, he, hb⟩
  · have e : keepI id ms = ms := keepI_all hno
    have HE : Hid (OwnP w1 (.slice (some ⟨g, 0, none⟩) (keepI id ms).length cap) (keepI id ms) ∧ Kx g w w1) := by
      rw [e, hn]
      exact ⟨(unhide HO).keep (unhide K1), (Kx.refl g w).kp (unhide K1)⟩
    have hl : (keepI id ms).length = n := by rw [e, hn]
    clear hno e
    rw [hl] at HE
    have HL := hide hl
    clear hl
    go_wp2
    go_ret
    rw [unhide HL]
    exact ⟨rfl, unhide HE⟩
  · obtain ⟨e1, hst⟩ := DelSt.start hq he hb
    have hqn : ((q : Int) == -1) = false := beq_eq_false_iff_ne.2 (by omega)
    have HST := hide hst
    have hql : (keepI id (ms.take (q + 1))).length = q := by rw [e1, List.length_take]; omega
    have HQ := hide hql
    clear hb he hst e1 hql
    go_wp2
    go_loopw [5, 6] (fun i j wr => ∃ (k m : Nat) (cs : List (Int × Int)), k ≤ n ∧ i = .int .i64 m ∧ j = .int .i64 k ∧ Hid ((keepI id (ms.take k)).length = m) ∧ Hid (DelSt id ms k cs) ∧ Hid (OwnP wr (.slice (some ⟨g, 0, none⟩) n cap) cs) ∧ Hid (Kx g w wr)) (fun _ j _ => n - (intOf j).toNat)
    case atStart => exact ⟨q + 1, q, ms, by omega, rfl, by go_num, unhide HQ, unhide HST, (unhide HO).keep (unhide K1), (Kx.refl g w).kp (unhide K1)⟩
    case round =>
      obtain ⟨k, m, cs, hk, rfl, rfl, HM, HS, HW, HK⟩ := hrel
      have hml := ((unhide HS).lens (by omega)).1
      rw [unhide HM] at hml
      have hcl := ((unhide HS).lens (by omega)).2
      by_cases hlt : k < n
      · have hkI : (k : Int) < (n : Int) := by omega
        have hmI : (m : Int) < (n : Int) := by omega
        obtain ⟨c0, c1⟩ := (unhide HW).at (i := k) (by omega)
        rw [(unhide HS).read (by omega)] at c0 c1
        have HG : Hid ((atL (0, 0) ms k).1 = id → (keepI id (ms.take (k + 1))).length = m ∧ DelSt id ms (k + 1) cs) := fun he => by
          obtain ⟨h1, h2⟩ := (unhide HS).gone (k := k) (by omega) he
          exact ⟨by rw [h1]; exact unhide HM, h2⟩
        have HP : Hid ((atL (0, 0) ms k).1 ≠ id → (keepI id (ms.take (k + 1))).length = m + 1 ∧ DelSt id ms (k + 1) (cs.set m (atL (0, 0) ms k))) := fun he => by
          have h1 := (unhide HS).kept (k := k) (by omega) he
          rwa [unhide HM] at h1
        have hgr : g < wr.heap.size := Nat.lt_of_lt_of_le hg (unhide HK).size
        generalize atL (0, 0) ms k = y at *
        have HD := hide ((drop1_any y id B (wr.alloc (.cells #[.int .i64 y.1, .int .i64 y.2] 60)) ((Below.cell (Kp.alloc wr _) (p := ⟨B, 0, none⟩) (Nat.lt_of_lt_of_le hBlt (unhide HK).size)).trans (((unhide HK).cell (p := ⟨B, 0, none⟩) hBlt hBg).trans (unhide HC)))).mono (R' := fun e w' => e = .returned (.bool (y.1 == id)) ∧ Hid (Kp wr w') ∧ w'.cell? ⟨wr.heap.size, 0, none⟩ = some (.int .i64 y.1) ∧ w'.cell? ⟨wr.heap.size, 1, none⟩ = some (.int .i64 y.2)) (by
          rintro e w' ⟨rfl, k'⟩
          have hl := cell_lit2 wr (.int .i64 y.1) (.int .i64 y.2) 60 _ rfl
          exact ⟨rfl, (Kp.alloc wr _).trans k', (Below.cell k' (by simp)).trans hl.1, (Below.cell k' (by simp)).trans hl.2⟩))
        have hne : ¬ wr.heap.size = g := by omega
        go_wp2_with fail
        refine (unhide HD).mono ?_
        clear HD c0 c1
        rintro e w2 ⟨rfl, K2, d0, d1⟩
        have HW2 := hide ((unhide HW).keep (unhide K2))
        have HK2 := hide ((unhide HK).kp (unhide K2))
        obtain ⟨m0, m1⟩ := (unhide HW2).at (i := m) (by omega)
        have f0 := (unhide HW2).frozen (m * 2)
        have f1 := (unhide HW2).frozen (m * 2 + 1)
        by_cases hx : y.1 = id
        · have HX := hide (unhide HG hx)
          have hxB : (y.1 == id) = true := by simp [hx]
          rw [hxB]
          clear hx HG HP hxB
          go_wp2
          go_roundw
          case rel => exact ⟨k + 1, m, cs, by omega, rfl, by go_num, (unhide HX).1, (unhide HX).2, unhide HW2, unhide HK2⟩
          case measure => simp [intOf]; omega
        · have HX := hide (unhide HP hx)
          have hxB : (y.1 == id) = false := by simp [hx]
          rw [hxB]
          clear hx HG HP hxB
          have HW3 := hide ((unhide HW2).set (by omega) m y)
          have HK3 := hide (((unhide HK2).set (m * 2) (.int .i64 y.1)).set (m * 2 + 1) (.int .i64 y.2))
          go_wp2
          go_roundw
          case rel => exact ⟨k + 1, m + 1, cs.set m y, by omega, by go_num, by go_num, (unhide HX).1, (unhide HX).2, unhide HW3, unhide HK3⟩
          case measure => simp [intOf]; omega
      · obtain rfl : k = n := by omega
        rw [← hn, List.take_length] at HM
        have hfin : cs.take m = keepI id ms := by
          have h1 := unhide HS
          rw [← hn] at h1
          have h2 := h1.fin
          rwa [unhide HM] at h2
        obtain ⟨w9, hcl9, ho9, hk9⟩ := run_clearE wr g m k cap cs (unhide HW) (by omega) (by omega) (cap - m)
        rw [hfin] at ho9
        have HE : Hid (OwnP w9 (.slice (some ⟨g, 0, none⟩) m cap) (keepI id ms) ∧ Kx g w w9) := ⟨ho9, ⟨hk9.os.trans (unhide HK).os, hk9.tape.trans (unhide HK).tape, hk9.output.trans (unhide HK).output, Nat.le_trans (unhide HK).size hk9.size, fun i hi hne => (hk9.block i (Nat.lt_of_lt_of_le hi (unhide HK).size) hne).trans ((unhide HK).block i hi hne)⟩⟩
        have hcap : k ≤ cap := by
          obtain ⟨g', cap', e, _, h2⟩ := (unhide HW).form (i := 0) (by omega)
          injection e with e1 e2 e3
          omega
        have hmc : m ≤ cap := by omega
        have hmk : m ≤ k := by omega
        have hcm : ¬ cap = m := by omega
        clear ho9 hk9 hfin
        go_wp2
        go_ret
        rw [unhide HM]
        exact ⟨rfl, unhide HE⟩

set_option maxHeartbeats 1000000 in
theorem ixf_nil (f : Value) (w : World) : Calls Try.prog 25 #[.slice none 0 0, f] w fun e w' => e = .returned (.int .i64 (-1)) ∧ w' = w := by
  go_enter Try.func25, Try.ntmps25
  go_wp2
  go_loopw [8] (fun i wr => i = .int .i64 0 ∧ wr = w) (fun _ _ => 0)
  case atStart => exact ⟨rfl, rfl⟩
  case round =>
    obtain ⟨rfl, rfl⟩ := hrel
    go_wp2
    go_ret
    exact ⟨rfl, rfl⟩
set_option maxHeartbeats 1000000 in
theorem delete_nil (f : Value) (w : World) : Calls Try.prog 20 #[.slice none 0 0, f] w fun e w' => e = .returned (.slice none 0 0) ∧ w' = w := by
  go_enter Try.func20, Try.ntmps20
  go_wp2_with fail
  refine (ixf_nil f w).mono ?_
  rintro e w1 ⟨rfl, rfl⟩
  go_wp2
  go_ret
  exact ⟨rfl, rfl⟩
/-- be there a row or none -/
theorem delete_all (B n cap : Nat) (a : Option Addr) (id : Int) (ms : List (Int × Int)) (w : World) (h : OwnP w (.slice a n cap) ms) (hn : ms.length = n) (hr : n ≤ 1000000000) (hc : w.cell? ⟨B, 0, none⟩ = some (.int .i64 id)) (hB : some B ≠ Value.ownBlock (.slice a n cap)) :
    Calls Try.prog 20 #[.slice a n cap, .func (.func 21) #[] #[.pointer (some ⟨B, 0, none⟩)]] w fun e w' => e = .returned (.slice a (keepI id ms).length cap) ∧ OwnP w' (.slice a (keepI id ms).length cap) (keepI id ms) ∧ Value.ownBlock (.slice a (keepI id ms).length cap) = Value.ownBlock (.slice a n cap) ∧ w.grownBy w' (Value.ownBlock (.slice a n cap)) := by
  have h' := h
  obtain ⟨_, ⟨e, h0⟩ | ⟨g, cap', cur, e, _, hh, _⟩⟩ := h
  · injection e with e1 e2 e3
    subst e1 e3
    have hm : ms = [] := List.eq_nil_of_length_eq_zero h0
    subst hm
    have hn0 : n = 0 := hn.symm
    subst hn0
    refine (delete_nil _ w).mono ?_
    rintro e w' ⟨rfl, rfl⟩
    exact ⟨rfl, h', rfl, World.grownBy.refl _ _⟩
  · injection e with e1 e2 e3
    subst e1 e3
    refine (delete_any B g n cap id ms w h' (Array.getElem?_eq_some_iff.1 hh).1 hn hr hc (fun e => hB (by rw [e]; rfl))).mono ?_
    rintro e w' ⟨rfl, o, k⟩
    exact ⟨rfl, o, rfl, k⟩

end Go.Proofs.Ythcilobmoeihbaa
