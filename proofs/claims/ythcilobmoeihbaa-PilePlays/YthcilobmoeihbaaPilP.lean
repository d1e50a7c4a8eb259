
/- PilePlays. -/
import Derived.Test.YthcilobmoeihbaaPilO
import Derived.Test.YthcilobmoeihbaaOpnV
import Derived.BigQuiet
namespace Go.Proofs.Ythcilobmoeihbaa
open Go.RowKit

theorem cell_new2 (w : World) (a b : Value) (t : TypeId) : (w.alloc (.cells #[a, b] t)).cell? ⟨w.heap.size, 0, none⟩ = some a ∧ (w.alloc (.cells #[a, b] t)).cell? ⟨w.heap.size, 1, none⟩ = some b := cell_lit2 w a b t _ rfl
theorem my_len2 {w0 w : World} {P q : Nat} {ss : List (Int × Int)} (h : MyP w0 w P ss) (hq : ss.length = q) : Calls Try.prog 17 #[.pointer (some ⟨P, 0, none⟩)] w fun e w' => e = .returned (.int .i64 (q : Int)) ∧ w' = w := by
  subst hq
  exact my_len h
theorem best2 (a : Option Addr) (n c : Nat) (ms : List (Int × Int)) (w : World) (hn : ms.length = n) (h : Its w (.slice a n c) ms) : Calls Try.prog 11 #[.slice a n c] w fun e w' => ∃ b, e = .returned (.int .i64 b) ∧ BestP ms ms.length b ∧ Kp w w' := by
  subst hn
  exact best_any a c ms w h
theorem InArr.i64 {m : Nat} {w : World} {a : Option Addr} {n : Nat} {z : Nat → Nat → Int} (h : InArr .i64 m w a n z) {i j : Nat} (hi : i < n) (hj : j < m) : I64 (z i j) := by
  obtain ⟨b, off, _, _, hc⟩ := h.2 (by omega)
  exact bounds_i64 (hc i hi j hj).2

theorem blk3 {w : World} {e : TypeId} {D : Nat} {x y z : Int} (h : Blk w e D [x, y, z]) : w.cell? ⟨D, 0, none⟩ = some (.int .i64 x) ∧ w.cell? ⟨D, 1, none⟩ = some (.int .i64 y) ∧ w.cell? ⟨D, 2, none⟩ = some (.int .i64 z) := ⟨h.cell (i := 0) (by simp), h.cell (i := 1) (by simp), h.cell (i := 2) (by simp)⟩
theorem push_perm {ms ss : List (Int × Int)} (h : ms.Perm ss) (x : Int × Int) : (ms ++ [x]).Perm (insI x ss) := (List.perm_append_comm.trans (h.cons x)).trans (insI_perm x ss).symm

set_option maxRecDepth 20000 in
set_option maxHeartbeats 8000000 in
theorem plays_any (a : Option Addr) (n cap : Nat) (z : Nat → Nat → Int) (w : World) (h : InArr .i64 3 w a n z) : Calls Try.prog 3 #[.slice a n cap] w fun e w' => e = .returned (.bool true) ∧ Kp w w' := by
  have hn := h.1
  have H := hide h
  have HA := hide (awake14_any w)
  clear h
  go_enter Try.func3, Try.ntmps3
  go_wp2_with fail
  refine (unhide HA).mono ?_
  clear HA
  rintro e w0 ⟨rfl, k0⟩
  have K0 := hide k0
  clear k0
  by_cases hbig : 300 < n
  · have hbI : decide ((300 : Int) < (n : Int)) = true := decide_eq_true (by omega)
    go_wp2
    go_ret
    exact ⟨rfl, unhide K0⟩
  · have hbI : decide ((300 : Int) < (n : Int)) = false := decide_eq_false (by omega)
    have HN := hide (my_new w w0 (unhide K0))
    go_wp2_with fail
    refine (unhide HN).mono ?_
    clear HN K0
    rintro e w1 ⟨P, rfl, h1, -⟩
    have HM1 := hide h1
    clear h1
    go_wp2
    go_loopw [4, 5] (fun m i wr => ∃ (k ml mc : Nat) (ss ms : List (Int × Int)) (a' : Option Addr), k ≤ n ∧ m = .slice a' ml mc ∧ i = .int .i64 k ∧ ml ≤ k ∧ Hid (ms.length = ml) ∧ Hid (MyP w wr P ss) ∧ Hid (OwnI wr w.heap.size (.slice a' ml mc) ms) ∧ Hid (ms.Perm ss) ∧ Hid (∀ p ∈ ms, I64 p.1 ∧ I64 p.2)) (fun _ i _ => n - (intOf i).toNat)
    case atStart => exact ⟨0, 0, 0, [], [], none, Nat.zero_le _, rfl, rfl, Nat.le_refl _, rfl, unhide HM1, OwnI.nil _ _, List.Perm.refl _, fun p hp => by cases hp⟩
    case round =>
      obtain ⟨k, ml, mc, ss, ms, a', hk, rfl, rfl, hmk, HL, HM, HO, HP, HI⟩ := hrel
      by_cases hlt : k < n
      · have hkI : (k : Int) < (n : Int) := by omega
        obtain ⟨b, off, rfl, hb, hc⟩ := (unhide H).2 (by omega)
        have d0 := (hc k hlt 0 (by omega)).1
        have d1 := (hc k hlt 1 (by omega)).1
        have d2 := (hc k hlt 2 (by omega)).1
        rw [Nat.add_zero] at d0
        have i1 := (unhide H).i64 hlt (show 1 < 3 by omega)
        have i2 := (unhide H).i64 hlt (show 2 < 3 by omega)
        have c0 := (Below.cell (unhide HM).kp (p := ⟨b, off + k * 3, none⟩) hb).trans d0
        have c1 := (Below.cell (unhide HM).kp (p := ⟨b, off + k * 3 + 1, none⟩) hb).trans d1
        have c2 := (Below.cell (unhide HM).kp (p := ⟨b, off + k * 3 + 2, none⟩) hb).trans d2
        have HV := hide (And.intro i1 i2)
        clear hc d0 d1 d2 i1 i2
        generalize z k 0 = v0 at *
        generalize z k 1 = v1 at *
        generalize z k 2 = v2 at *
        have hml3 : ml ≤ 300 := by omega
        have hwr := (unhide HM).kp.size
        have HB := hide ((best2 a' ml mc ms (wr.alloc (.cells #[.int .i64 v0, .int .i64 v1, .int .i64 v2] 28)) (unhide HL) (((unhide HO).keep (Kp.alloc wr _)).its' (unhide HL) (by omega) (unhide HI))).mono (R' := fun e w' => ∃ bb, e = .returned (.int .i64 bb) ∧ Hid ((ss = [] ∧ ms = [] ∧ bb = -1) ∨ ∃ q : Nat, bb = (q : Int) ∧ q < ml ∧ atL (0, 0) ms q = nxt ss ∧ 0 < ss.length) ∧ Hid (MyP w w' P ss) ∧ Hid (OwnI w' w.heap.size (.slice a' ml mc) ms) ∧ Hid (Blk w' 28 wr.heap.size [v0, v1, v2])) (by
          rintro e w' ⟨bb, rfl, hbp, k'⟩
          have kk := (Kp.alloc wr (.cells #[.int .i64 v0, .int .i64 v1, .int .i64 v2] 28)).trans k'
          have hbn := best_nxt (unhide HP) (unhide HM).srt hbp
          rw [unhide HL] at hbn
          refine ⟨bb, rfl, hbn, (unhide HM).keep kk, (unhide HO).keep kk, Blk.keep ?_ k'⟩
          unfold Blk
          simp only [World.alloc, Array.getElem?_push_size]
          rfl))
        go_wp2_with fail
        refine (unhide HB).mono ?_
        clear HB c0 c1 c2
        rintro e w2 ⟨bb, rfl, HN, HM2, HO2, HD2⟩
        have hD : w.heap.size ≤ wr.heap.size := hwr
        clear HM HO
        generalize wr.heap.size = D at *
        obtain ⟨e0, e1, e2⟩ := blk3 (unhide HD2)
        have hcase : ((v0 == 0) = true ∨ ((v0 == 0) = false ∧ (v0 == 1) = true) ∨ ((v0 == 0) = false ∧ (v0 == 1) = false ∧ (v0 == 2) = true)) ∨ ((v0 == 0) = false ∧ (v0 == 1) = false ∧ (v0 == 2) = false ∧ (v0 == 3) = true ∧ (v0 == 4) = false) ∨ ((v0 == 0) = false ∧ (v0 == 1) = false ∧ (v0 == 2) = false ∧ (v0 == 3) = false ∧ (v0 == 4) = true) ∨ ((v0 == 0) = false ∧ (v0 == 1) = false ∧ (v0 == 2) = false ∧ (v0 == 3) = false ∧ (v0 == 4) = false ∧ (v0 == 5) = true) ∨ ((v0 == 0) = false ∧ (v0 == 1) = false ∧ (v0 == 2) = false ∧ (v0 == 3) = false ∧ (v0 == 4) = false ∧ (v0 == 5) = false) := by
          simp only [beq_iff_eq, beq_eq_false_iff_ne, ne_eq]
          omega
        rcases hcase with hdo | ⟨f0, f1, f2, f3, f4⟩ | ⟨f0, f1, f2, f3, f4⟩ | ⟨f0, f1, f2, f3, f4, f5⟩ | ⟨f0, f1, f2, f3, f4, f5⟩
        · rcases hdo with f0 | ⟨f0, f1⟩ | ⟨f0, f1, f2⟩
          all_goals (
            go_wp2_with fail
            refine (my_push (unhide HM2) v1 v2 (by have := (unhide HP).length_eq; have := unhide HL; omega)).mono ?_
            rintro e w3 ⟨rfl, h3, ky⟩
            have HM3 := hide h3
            have HO3 := hide ((unhide HO2).kty ky)
            have HD3 := hide ((unhide HD2).kty ky (by decide) (by decide))
            obtain ⟨g0, g1, g2⟩ := blk3 (unhide HD3)
            have hw3 := (unhide HM3).kp.size
            have HK := hide (Kp.alloc w3 (.cells #[.int .i64 v1, .int .i64 v2] 32))
            have hnew := cell_new2 w3 (.int .i64 v1) (.int .i64 v2) 32
            have hsz : (w3.alloc (.cells #[.int .i64 v1, .int .i64 v2] 32)).heap.size = w3.heap.size + 1 := by simp
            clear h3 ky HM2 HO2 HD2 e0 e1 e2
            go_wp2_with (at_builtin; refine wpList_append_it _ rfl (.tmp 45) (.tmp 51) rfl w.heap.size (.slice a' ml mc) ml ms (v1, v2) w3.heap.size 1 rfl rfl ((unhide HO3).keep (unhide HK)) (unhide HL) hnew.1 hnew.2 (by omega) (by omega) ?_; intro a9 k9 w9 F9; have HM9 := hide (((unhide HM3).keep (unhide HK)).own ((unhide HO3).keep (unhide HK)) (unhide F9).2); have HO9 := hide (unhide F9).1)
            clear F9 hnew hsz HK g0 g1 g2
            refine (my_len2 (unhide HM9) (q := ml + 1) (by rw [insI_length]; have := (unhide HP).length_eq; have := unhide HL; omega)).mono ?_
            rintro e w10 ⟨rfl, rfl⟩
            go_wp2
            go_roundw
            case rel => exact ⟨k + 1, ml + 1, k9, _, _, a9, by omega, rfl, by go_num, by omega, by have := unhide HL; unfold Hid; simp [this], unhide HM9, unhide HO9, push_perm (unhide HP) _, fun p hp => (by rcases List.mem_append.1 hp with hp | hp; exact unhide HI p hp; rw [List.mem_singleton.1 hp]; exact unhide HV)⟩
            case measure => simp [intOf]; omega)
        · rcases unhide HN with hn0 | hn0
          · obtain ⟨rfl, rfl, rfl⟩ := hn0
            obtain rfl : ml = 0 := (unhide HL).symm
            have en : nxt ([] : List (Int × Int)) = (0, 0) := rfl
            have ed : decide (0 < ([] : List (Int × Int)).length) = false := rfl
            go_wp2_with fail
            refine (my_top (unhide HM2)).mono ?_
            rw [en, ed]
            rintro e w3 ⟨rfl, h3, ky⟩
            have HM3 := hide h3
            have HO3 := hide ((unhide HO2).kty ky)
            have HD3 := hide ((unhide HD2).kty ky (by decide) (by decide))
            obtain ⟨g0, g1, g2⟩ := blk3 (unhide HD3)
            clear h3 ky HM2 HO2 HD2 e0 e1 e2
            go_wp2_with fail
            refine (my_pop (unhide HM3)).mono ?_
            rw [en, ed]
            rintro e w4 ⟨rfl, h4, ky⟩
            have HM4 : Hid (MyP w w4 P []) := h4
            have HO4 := hide ((unhide HO3).kty ky)
            have HD4 := hide ((unhide HD3).kty ky (by decide) (by decide))
            obtain ⟨h0, -, -⟩ := blk3 (unhide HD4)
            clear h4 ky HM3 HO3 HD3 g0 g1 g2
            go_wp2_with fail
            refine (my_len2 (unhide HM4) (q := 0) rfl).mono ?_
            rintro e w10 ⟨rfl, rfl⟩
            go_wp2
            go_roundw
            case rel => exact ⟨k + 1, 0, mc, [], [], a', by omega, rfl, by go_num, by omega, rfl, unhide HM4, unhide HO4, List.Perm.refl _, fun p hp => (by cases hp)⟩
            case measure => simp [intOf]; omega
          · obtain ⟨q, rfl, hq, he, h0⟩ := hn0
            have hqI : (q : Int) < (ml : Int) := by omega
            have ed : decide (0 < ss.length) = true := decide_eq_true h0
            obtain ⟨g, cap2, e9, hg, hcap2⟩ := (unhide HO2).form (by rw [unhide HL]; omega)
            injection e9 with e91 e92 e93
            subst e91
            clear e92 e93 hcap2
            have HT := hide ((my_top (unhide HM2)).mono (R' := fun e w' => e = .returned (.tuple #[.int .i64 (nxt ss).1, .int .i64 (nxt ss).2, .bool true]) ∧ Hid (MyP w w' P ss) ∧ Hid (OwnI w' w.heap.size (.slice (some ⟨g, 0, none⟩) ml mc) ms) ∧ Hid (Blk w' 28 D [v0, v1, v2]) ∧ w'.cell? ⟨g, q * 2, none⟩ = some (.int .i64 (nxt ss).1) ∧ w'.cell? ⟨g, q * 2 + 1, none⟩ = some (.int .i64 (nxt ss).2)) (by
              rintro e w' ⟨rfl, h3, ky⟩
              have ho := (unhide HO2).kty ky
              obtain ⟨q0, q1⟩ := ho.at (i := q) (by rw [unhide HL]; exact hq)
              rw [he] at q0 q1
              rw [ed]
              exact ⟨rfl, h3, ho, (unhide HD2).kty ky (by decide) (by decide), q0, q1⟩))
            have HPP := hide (fun w3 (h3 : MyP w w3 P ss) (ho3 : OwnI w3 w.heap.size (.slice (some ⟨g, 0, none⟩) ml mc) ms) (hd3 : Blk w3 28 D [v0, v1, v2]) => (my_pop h3).mono (R' := fun e w' => e = .returned (.tuple #[.int .i64 (nxt ss).1, .int .i64 (nxt ss).2, .bool true]) ∧ Hid (MyP w w' P ss.tail) ∧ Hid (OwnI w' w.heap.size (.slice (some ⟨g, 0, none⟩) ml mc) ms) ∧ Hid (Blk w' 28 D [v0, v1, v2]) ∧ w'.cell? ⟨g, q * 2, none⟩ = some (.int .i64 (nxt ss).1) ∧ w'.cell? ⟨g, q * 2 + 1, none⟩ = some (.int .i64 (nxt ss).2)) (by
              rintro e w' ⟨rfl, h4, ky⟩
              have ho := ho3.kty ky
              obtain ⟨q0, q1⟩ := ho.at (i := q) (by rw [unhide HL]; exact hq)
              rw [he] at q0 q1
              rw [ed]
              exact ⟨rfl, h4, ho, hd3.kty ky (by decide) (by decide), q0, q1⟩))
            have HAT := hide (allBut_tail (unhide HP) (by rw [unhide HL]; exact hq) he h0)
            have HE := hide he
            have HTL : Hid (ss.tail.length + 1 = ml) := by
              have h1 := (unhide HP).length_eq
              have h2 := unhide HL
              unfold Hid
              rw [List.length_tail]
              omega
            clear he h0 ed
            generalize nxt ss = x at *
            obtain ⟨x1, x2⟩ := x
            simp only at HT HPP
            go_wp2_with fail
            refine (unhide HT).mono ?_
            clear HT
            rintro e w3 ⟨rfl, HM3, HO3, HD3, r0, r1⟩
            obtain ⟨g0, g1, g2⟩ := blk3 (unhide HD3)
            clear HM2 HO2 HD2 e0 e1 e2
            go_wp2_with fail
            refine (unhide HPP w3 (unhide HM3) (unhide HO3) (unhide HD3)).mono ?_
            clear HPP
            rintro e w4 ⟨rfl, HM4, HO4, HD4, r2, r3⟩
            obtain ⟨h0, -, -⟩ := blk3 (unhide HD4)
            clear HM3 HO3 HD3 g0 g1 g2 r0 r1
            obtain ⟨m1, rfl⟩ : ∃ m1, ml = m1 + 1 := ⟨ml - 1, by omega⟩
            have HW := hide ((without_any (some ⟨g, 0, none⟩) (m1 + 1) mc ms q w4 ((unhide HO4).its' (unhide HL) (by omega) (unhide HI)) (unhide HL) hq).mono (R' := fun e w' => ∃ a9 k9, e = .returned (.slice a9 m1 k9) ∧ Hid (OwnI w' w.heap.size (.slice a9 m1 k9) (allBut ms q)) ∧ Hid (MyP w w' P ss.tail)) (by
              rintro e w' ⟨a9, k9, rfl, ho, k'⟩
              exact ⟨a9, k9, rfl, ho.low (unhide HM4).kp.size, (unhide HM4).keep k'⟩))
            go_wp2_with fail
            refine (unhide HW).mono ?_
            clear HW
            rintro e w5 ⟨a9, k9, rfl, HO5, HM5⟩
            go_wp2_with fail
            refine (my_len2 (unhide HM5) (q := m1) (by have := unhide HTL; omega)).mono ?_
            rintro e w10 ⟨rfl, rfl⟩
            go_wp2
            go_roundw
            case rel => exact ⟨k + 1, m1, k9, _, _, a9, by omega, rfl, by go_num, by omega, by rw [Hid, allBut_length (by rw [unhide HL]; exact hq), unhide HL]; rfl, unhide HM5, unhide HO5, unhide HAT, fun p hp => unhide HI p (allBut_mem hp)⟩
            case measure => simp [intOf]; omega
        · rcases unhide HN with hn0 | hn0
          · obtain ⟨rfl, rfl, rfl⟩ := hn0
            obtain rfl : ml = 0 := (unhide HL).symm
            have en : nxt ([] : List (Int × Int)) = (0, 0) := rfl
            have ed : decide (0 < ([] : List (Int × Int)).length) = false := rfl
            go_wp2_with fail
            refine (my_top (unhide HM2)).mono ?_
            rw [en, ed]
            rintro e w3 ⟨rfl, h3, ky⟩
            have HM3 := hide h3
            have HO3 := hide ((unhide HO2).kty ky)
            have HD3 := hide ((unhide HD2).kty ky (by decide) (by decide))
            obtain ⟨g0, g1, g2⟩ := blk3 (unhide HD3)
            clear h3 ky HM2 HO2 HD2 e0 e1 e2
            go_wp2_with fail
            refine (my_len2 (unhide HM3) (q := 0) rfl).mono ?_
            rintro e w10 ⟨rfl, rfl⟩
            go_wp2
            go_roundw
            case rel => exact ⟨k + 1, 0, mc, [], [], a', by omega, rfl, by go_num, by omega, rfl, unhide HM3, unhide HO3, List.Perm.refl _, fun p hp => (by cases hp)⟩
            case measure => simp [intOf]; omega
          · obtain ⟨q, rfl, hq, he, h0⟩ := hn0
            have hqI : (q : Int) < (ml : Int) := by omega
            have ed : decide (0 < ss.length) = true := decide_eq_true h0
            obtain ⟨g, cap2, e9, hg, hcap2⟩ := (unhide HO2).form (by rw [unhide HL]; omega)
            injection e9 with e91 e92 e93
            subst e91
            clear e92 e93 hcap2
            have HT := hide ((my_top (unhide HM2)).mono (R' := fun e w' => e = .returned (.tuple #[.int .i64 (nxt ss).1, .int .i64 (nxt ss).2, .bool true]) ∧ Hid (MyP w w' P ss) ∧ Hid (OwnI w' w.heap.size (.slice (some ⟨g, 0, none⟩) ml mc) ms) ∧ Hid (Blk w' 28 D [v0, v1, v2]) ∧ w'.cell? ⟨g, q * 2, none⟩ = some (.int .i64 (nxt ss).1) ∧ w'.cell? ⟨g, q * 2 + 1, none⟩ = some (.int .i64 (nxt ss).2)) (by
              rintro e w' ⟨rfl, h3, ky⟩
              have ho := (unhide HO2).kty ky
              obtain ⟨q0, q1⟩ := ho.at (i := q) (by rw [unhide HL]; exact hq)
              rw [he] at q0 q1
              rw [ed]
              exact ⟨rfl, h3, ho, (unhide HD2).kty ky (by decide) (by decide), q0, q1⟩))
            have HPP := hide (fun w3 (h3 : MyP w w3 P ss) (ho3 : OwnI w3 w.heap.size (.slice (some ⟨g, 0, none⟩) ml mc) ms) (hd3 : Blk w3 28 D [v0, v1, v2]) => (my_pop h3).mono (R' := fun e w' => e = .returned (.tuple #[.int .i64 (nxt ss).1, .int .i64 (nxt ss).2, .bool true]) ∧ Hid (MyP w w' P ss.tail) ∧ Hid (OwnI w' w.heap.size (.slice (some ⟨g, 0, none⟩) ml mc) ms) ∧ Hid (Blk w' 28 D [v0, v1, v2]) ∧ w'.cell? ⟨g, q * 2, none⟩ = some (.int .i64 (nxt ss).1) ∧ w'.cell? ⟨g, q * 2 + 1, none⟩ = some (.int .i64 (nxt ss).2)) (by
              rintro e w' ⟨rfl, h4, ky⟩
              have ho := ho3.kty ky
              obtain ⟨q0, q1⟩ := ho.at (i := q) (by rw [unhide HL]; exact hq)
              rw [he] at q0 q1
              rw [ed]
              exact ⟨rfl, h4, ho, hd3.kty ky (by decide) (by decide), q0, q1⟩))
            have HAT := hide (allBut_tail (unhide HP) (by rw [unhide HL]; exact hq) he h0)
            have HE := hide he
            have HTL : Hid (ss.tail.length + 1 = ml) := by
              have h1 := (unhide HP).length_eq
              have h2 := unhide HL
              unfold Hid
              rw [List.length_tail]
              omega
            clear he h0 ed
            generalize nxt ss = x at *
            obtain ⟨x1, x2⟩ := x
            simp only at HT HPP
            go_wp2_with fail
            refine (unhide HT).mono ?_
            clear HT
            rintro e w3 ⟨rfl, HM3, HO3, HD3, r0, r1⟩
            obtain ⟨g0, g1, g2⟩ := blk3 (unhide HD3)
            clear HM2 HO2 HD2 e0 e1 e2
            go_wp2_with fail
            refine (my_len2 (unhide HM3) (q := ml) (by have := (unhide HP).length_eq; have := unhide HL; omega)).mono ?_
            rintro e w10 ⟨rfl, rfl⟩
            go_wp2
            go_roundw
            case rel => exact ⟨k + 1, ml, mc, _, _, _, by omega, rfl, by go_num, by omega, unhide HL, unhide HM3, unhide HO3, unhide HP, unhide HI⟩
            case measure => simp [intOf]; omega
        · have hml0 : (ml : Int) - 1 = ((ml : Nat) : Int) - 1 := rfl
          clear e2 HN
          go_wp2
          go_loopw [4, 11, 12] (fun m nn kk wx => ∃ (K c1 c2 : Nat) (a2 : Option Addr), K ≤ ml ∧ m = .slice a2 c1 c2 ∧ nn = .int .i64 ((ml : Int) - (c1 : Int)) ∧ kk = .int .i64 ((K : Int) - 1) ∧ K ≤ c1 ∧ c1 ≤ ml ∧ Hid ((OutSt v1 ms K).length = c1) ∧ Hid (MyP w wx P ss) ∧ Hid (OwnI wx w.heap.size (.slice a2 c1 c2) (OutSt v1 ms K)) ∧ Hid (Blk wx 28 D [v0, v1, v2])) (fun _ _ kk _ => (intOf kk + 1).toNat)
          case atStart =>
            have hst : OutSt v1 ms ml = ms := by rw [← unhide HL]; exact OutSt.start v1 ms
            exact ⟨ml, ml, mc, a', Nat.le_refl _, rfl, by go_num, rfl, Nat.le_refl _, Nat.le_refl _, by rw [hst]; exact unhide HL, unhide HM2, by rw [hst]; exact unhide HO2, unhide HD2⟩
          case round =>
            obtain ⟨K, c1, c2, a2, hK, rfl, rfl, rfl, hKc, hcm, HCl, HMx, HOx, HDx⟩ := hrel
            obtain ⟨p0, p1, p2⟩ := blk3 (unhide HDx)
            cases K with
            | zero =>
              have e00 : ((0 : Nat) : Int) - 1 = -1 := rfl
              rw [e00]
              have hfin : OutSt v1 ms 0 = keepI v1 ms := OutSt.fin v1 ms
              rw [hfin] at HCl HOx
              have hkp := keepI_perm v1 (unhide HP)
              have hkl : (keepI v1 ss).length = c1 := by rw [← hkp.length_eq]; exact unhide HCl
              have hsl : ss.length = ml := by rw [← (unhide HP).length_eq]; exact unhide HL
              have HDr := hide ((my_drop (unhide HMx) v1).mono (R' := fun e w' => e = .returned (.int .i64 ((ml : Int) - (c1 : Int))) ∧ Hid (MyP w w' P (keepI v1 ss)) ∧ Hid (OwnI w' w.heap.size (.slice a2 c1 c2) (keepI v1 ms))) (by
                rintro e w' ⟨rfl, h3, ky⟩
                rw [hkl, hsl]
                exact ⟨rfl, h3, (unhide HOx).kty ky⟩))
              have HKP := hide hkp
              clear hkp hfin e00 hsl
              go_wp2_with fail
              refine (unhide HDr).mono ?_
              clear HDr
              rintro e w5 ⟨rfl, HM5, HO5⟩
              go_wp2_with fail
              refine (my_len2 (unhide HM5) (q := c1) hkl).mono ?_
              rintro e w10 ⟨rfl, rfl⟩
              go_wp2
              go_roundw
              case rel => exact ⟨k + 1, c1, c2, _, _, _, by omega, rfl, by go_num, by omega, unhide HCl, unhide HM5, unhide HO5, unhide HKP, fun p hp => unhide HI p (List.mem_filter.1 hp).1⟩
              case measure => simp [intOf]; omega
            | succ K =>
              have e00 : ((K + 1 : Nat) : Int) - 1 = (K : Int) := by omega
              rw [e00]
              have hKI : (K : Int) < (c1 : Int) := by omega
              obtain ⟨g, cap2, e9, hg, hcap2⟩ := (unhide HOx).form (by rw [unhide HCl]; omega)
              injection e9 with e91 e92 e93
              subst e91
              clear e92 e93 hcap2
              have hmsl := unhide HL
              obtain ⟨q0, q1⟩ := (unhide HOx).at (i := K) (by rw [unhide HCl]; omega)
              rw [OutSt.read (by omega)] at q0 q1
              by_cases hx : (atL (0, 0) ms K).1 = v1
              · have hgo := OutSt.goes (id := v1) (K := K) (by omega) hx
                have hxB : ((atL (0, 0) ms K).1 == v1) = true := by simp [hx]
                have hIo : ∀ p ∈ OutSt v1 ms (K + 1), I64 p.1 ∧ I64 p.2 := fun p hp => unhide HI p (OutSt.mem hp)
                obtain ⟨c3, rfl⟩ : ∃ c3, c1 = c3 + 1 := ⟨c1 - 1, by omega⟩
                have HW := hide (fun w4 (k4 : Kp wr w4) => (without_any (some ⟨g, 0, none⟩) (c3 + 1) c2 (OutSt v1 ms (K + 1)) K w4 (((unhide HOx).keep k4).its' (unhide HCl) (by omega) hIo) (unhide HCl) (by omega)).mono (R' := fun e w' => ∃ a9 k9, e = .returned (.slice a9 c3 k9) ∧ Hid (OwnI w' w.heap.size (.slice a9 c3 k9) (OutSt v1 ms K)) ∧ Hid (MyP w w' P ss) ∧ Hid (Blk w' 28 D [v0, v1, v2])) (by
                  rintro e w' ⟨a9, k9, rfl, ho, k'⟩
                  have k5 := k4.trans k'
                  rw [hgo]
                  exact ⟨a9, k9, rfl, ho.low (Nat.le_trans (unhide HMx).kp.size k4.size), (unhide HMx).keep k5, (unhide HDx).keep k5⟩))
                have HCn : Hid ((OutSt v1 ms K).length = c3) := by
                  unfold Hid
                  rw [hgo, allBut_length (by rw [unhide HCl]; omega), unhide HCl]
                  rfl
                clear hgo hx hmsl e00 hIo
                generalize atL (0, 0) ms K = xx at *
                go_wp2_with fail
                go_quiet (fail)
                go_wp2_with fail
                refine (unhide HW _ (Kp.drewN _ _)).mono ?_
                clear HW
                rintro e w5 ⟨a9, k9, rfl, HO5, HM5, HD5⟩
                go_wp2
                go_roundw
                case rel => exact ⟨K, c3, k9, a9, by omega, rfl, by go_num, by go_num, by omega, by omega, unhide HCn, unhide HM5, unhide HO5, unhide HD5⟩
                case measure => simp [intOf] <;> omega
              · have hgo := OutSt.stays (id := v1) (K := K) (by omega) hx
                have hxB : ((atL (0, 0) ms K).1 == v1) = false := by simp [hx]
                rw [← hgo] at HCl HOx
                clear hgo hx hmsl e00
                generalize atL (0, 0) ms K = xx at *
                go_wp2_with fail
                go_quiet (fail)
                go_wp2
                go_roundw
                case rel => exact ⟨K, c1, c2, _, by omega, rfl, rfl, by go_num, by omega, by omega, unhide HCl, (unhide HMx).keep (Kp.drewN _ _), (unhide HOx).keep (Kp.drewN _ _), (unhide HDx).keep (Kp.drewN _ _)⟩
                case measure => simp [intOf] <;> omega
        · clear e1 e2 HN
          go_wp2_with fail
          refine (my_len2 (unhide HM2) (q := ml) (by have := (unhide HP).length_eq; have := unhide HL; omega)).mono ?_
          rintro e w10 ⟨rfl, rfl⟩
          go_wp2
          go_roundw
          case rel => exact ⟨k + 1, ml, mc, _, _, a', by omega, rfl, by go_num, by omega, unhide HL, unhide HM2, unhide HO2, unhide HP, unhide HI⟩
          case measure => simp [intOf]; omega
      · go_wp2
        go_ret
        exact ⟨rfl, (unhide HM).kp⟩

end Go.Proofs.Ythcilobmoeihbaa
