
/- PileTurns. -/
import Derived.Test.YthcilobmoeihbaaPilM
import Derived.Test.YthcilobmoeihbaaPilN
import Derived.Test.YthcilobmoeihbaaOpnV
import Derived.BigQuiet
namespace Go.Proofs.Ythcilobmoeihbaa
open Go.RowKit

theorem zeroT : ∃ X : Array Value, X = ((List.replicate 256 (0 : Int)).map (Value.int .i64)).toArray ∧ ∀ w, Sem.run Try.prog (zeroValue 44) w = .ok (.agg X) w := ⟨_, rfl, fun w => by kernel_rfl⟩
theorem InArr.u8 {m : Nat} {w : World} {a : Option Addr} {n : Nat} {z : Nat → Nat → Int} (h : InArr .u8 m w a n z) {i j : Nat} (hi : i < n) (hj : j < m) : 0 ≤ z i j ∧ z i j ≤ 255 := by
  obtain ⟨b, off, _, _, hc⟩ := h.2 (by omega)
  have := bounds_u8 (hc i hi j hj).2
  omega

set_option maxRecDepth 20000 in
set_option maxHeartbeats 8000000 in
theorem turns_any (a : Option Addr) (n cap : Nat) (z : Nat → Nat → Int) (w : World) (h : InArr .u8 3 w a n z) : Calls Try.prog 6 #[.slice a n cap] w fun e w' => e = .returned (.bool true) ∧ Kp w w' := by
  have hn := h.1
  have H := hide h
  have HZ : Hid (∀ j, j < n → 0 ≤ z j 0 ∧ z j 0 ≤ 255) := fun j hj => h.u8 hj (by omega)
  have HA := hide (awake14_any w)
  obtain ⟨X, hX, hz⟩ := zeroT
  have HX := hide hX
  clear h hX
  go_enter Try.func6, Try.ntmps6
  go_wp2_with fail
  refine (unhide HA).mono ?_
  clear HA
  rintro e w0 ⟨rfl, k0⟩
  have K0 := hide k0
  clear k0
  by_cases hbig : 300 < n
  · have hbI : decide ((300 : Int) < (n : Int)) = true := decide_eq_true (by omega)
    go_wp2
    go_ret
    exact ⟨rfl, unhide K0⟩
  · have hbI : decide ((300 : Int) < (n : Int)) = false := decide_eq_false (by omega)
    have HN := hide (my_new w w0 (unhide K0))
    go_wp2_with fail
    refine (unhide HN).mono ?_
    clear HN K0
    rintro e w1 ⟨P, rfl, h1, -⟩
    have HM1 := hide (h1.keep (Kp.alloc w1 (.cells X 44)))
    have hT : w.heap.size ≤ w1.heap.size := h1.kp.size
    have HT1 : Hid (Blk (w1.alloc (.cells X 44)) 44 w1.heap.size (List.replicate 256 0)) := by
      unfold Hid Blk
      rw [unhide HX]
      simp only [World.alloc, Array.getElem?_push_size]
    clear h1
    go_upto_region 9 with fail
    generalize w1.alloc (.cells X 44) = w2 at *
    generalize w1.heap.size = T at *
    clear hz HX
    go_wp2
    go_loopw [5, 6] (fun m i wr => ∃ (k : Nat) (ss : List (Int × Int)) (cnt : List Int), k ≤ n ∧ m = .int .i64 (ss.length : Int) ∧ i = .int .i64 k ∧ Hid (ss.length ≤ k) ∧ Hid (MyP w wr P ss) ∧ Hid (Blk wr 44 T cnt) ∧ Hid (TI z k ss cnt)) (fun _ i _ => n - (intOf i).toNat)
    case atStart => exact ⟨0, [], _, Nat.zero_le _, rfl, rfl, Nat.zero_le _, unhide HM1, unhide HT1, TI.start z⟩
    case round =>
      obtain ⟨k, ss, cnt, hk, rfl, rfl, HL, HM, HT, HI⟩ := hrel
      by_cases hlt : k < n
      · have hkI : (k : Int) < (n : Int) := by omega
        have hss := unhide HL
        obtain ⟨b, off, rfl, hb, hc⟩ := (unhide H).2 (by omega)
        obtain ⟨d0, g0⟩ := hc k hlt 0 (by omega)
        obtain ⟨d1, g1⟩ := hc k hlt 1 (by omega)
        rw [Nat.add_zero] at d0
        have c0 := (Below.cell (unhide HM).kp (p := ⟨b, off + k * 3, none⟩) hb).trans d0
        have b0 := bounds_u8 g0
        have b1 := bounds_u8 g1
        obtain ⟨x, hx⟩ : ∃ x : Nat, z k 0 = (x : Int) := ⟨(z k 0).toNat, by omega⟩
        obtain ⟨y, hy⟩ : ∃ y : Nat, z k 1 = (y : Int) := ⟨(z k 1).toNat, by omega⟩
        rw [hx] at c0 d0 b0
        rw [hy] at d1 b1
        have hx2 : x < 256 := by omega
        have hxI : (x : Int) < 256 := by omega
        have HTI := hide ((unhide HI).push hx hx2)
        have hcx := (unhide HI).cnt_ x hx2
        have hcb := cntR_le ss x
        rw [← hcx] at hcb
        have hcl := (unhide HI).len
        have HC := hide ((my_push (unhide HM) (k : Int) (x : Int) (by omega)).mono (R' := fun e w' => e = .returned (.tuple #[]) ∧ Hid (MyP w w' P (insI ((k : Int), (x : Int)) ss)) ∧ Hid (Blk w' 44 T cnt) ∧ w'.cell? ⟨b, off + k * 3, none⟩ = some (.int .u8 (x : Int)) ∧ w'.cell? ⟨T, x, none⟩ = some (.int .i64 (cnt.getD x 0)) ∧ w'.frozen? ⟨T, x, none⟩ = false) (by
          rintro e w' ⟨rfl, m', ky⟩
          have hB := (unhide HT).kty ky (by decide) (by decide)
          exact ⟨rfl, m', hB, (Below.cell m'.kp (p := ⟨b, off + k * 3, none⟩) hb).trans d0, hB.cell (by omega), hB.frozen x⟩))
        have ex : IntKind.i64.wrap (x : Int) = (x : Int) := by rw [IntKind.wrap_i64]; omega
        have HD1 := hide (And.intro hb d1)
        clear hc g0 g1 d0 d1 hx hy hcx hb
        generalize cnt.getD x 0 = c at *
        go_wp2_with fail
        refine (unhide HC).mono ?_
        clear HC c0
        rintro e w3 ⟨rfl, HM3, HB3, c0, cT, fT⟩
        have ec : IntKind.i64.wrap (c + 1) = c + 1 := by rw [IntKind.wrap_i64]; omega
        have HB4 := hide ((unhide HB3).set x (c + 1))
        have HM4 := hide ((unhide HM3).other ((unhide HB3).oth (by decide) (by decide)) hT (grown_set w3 T x (.int .i64 (c + 1))))
        clear HB3 HM3
        have HL4 : Hid ((insI ((k : Int), (x : Int)) ss).length = ss.length + 1) := insI_length _ _
        have HLk : Hid (ss.length ≤ k) := hss
        have hry : y % 3 ≤ 2 := by omega
        go_wp2_with fail
        have hle : (insI ((k : Int), (x : Int)) ss).length ≤ k + 1 := by rw [unhide HL4]; omega
        have HLE := hide hle
        clear hle HL HM HT HI HLk ec cT fT c0 hcb hss
        generalize insI ((k : Int), (x : Int)) ss = s1 at *
        generalize cnt.set x (c + 1) = cnt1 at *
        generalize w3.setCell ⟨T, x, none⟩ (.int .i64 (c + 1)) = w4 at *
        go_loopw [5, 7] (fun m kk wr => ∃ (q : Nat) (ss2 : List (Int × Int)) (cnt2 : List Int), q ≤ 3 ∧ m = .int .i64 (ss2.length : Int) ∧ kk = .int .i64 q ∧ Hid (ss2.length ≤ k + 1) ∧ Hid (MyP w wr P ss2) ∧ Hid (Blk wr 44 T cnt2) ∧ Hid (TI z (k + 1) ss2 cnt2)) (fun _ kk _ => 3 - (intOf kk).toNat)
        case atStart => exact ⟨0, s1, cnt1, by omega, by rw [unhide HL4]; go_num, rfl, unhide HLE, unhide HM4, unhide HB4, unhide HTI⟩
        case round =>
          obtain ⟨q, s2, cnt2, hq, rfl, rfl, HL2, HM2, HB2, HI2⟩ := hrel
          have c1 := (Below.cell (unhide HM2).kp (p := ⟨b, off + k * 3 + 1, none⟩) (unhide HD1).1).trans (unhide HD1).2
          by_cases hqI : (q : Int) < (y : Int) % 3
          · cases s2 with
            | nil =>
              have hsl0 : ¬ (0 : Int) < ((([] : List (Int × Int)).length : Nat) : Int) := by decide
              have ez : ((([] : List (Int × Int)).length : Nat) : Int) = 0 := rfl
              rw [ez] at hsl0 ⊢
              have hM := my_len (unhide HM2)
              rw [ez] at hM
              have HLn := hide hM
              clear hM
              go_wp2_with fail
              refine (unhide HLn).mono ?_
              rintro e w5 ⟨rfl, rfl⟩
              go_wp2
              go_roundw
              case rel => exact ⟨k + 1, [], cnt2, by omega, rfl, by go_num, Nat.zero_le _, unhide HM2, unhide HB2, unhide HI2⟩
              case measure => simp [intOf]; omega
            | cons s t =>
              have hsl0 : (0 : Int) < (((s :: t).length : Nat) : Int) := by simp
              have hLl : (((s :: t).length : Nat) : Int) = (t.length : Int) + 1 := by simp
              have HLl : Hid (t.length ≤ k) := by have := unhide HL2; unfold Hid; simpa using this
              have htl : t.length ≤ 300 := by have := unhide HLl; omega
              have hsr := (unhide HM2).srt
              have HSr := hide hsr
              rw [hLl] at hsl0 ⊢
              clear hsr
              obtain ⟨wS, hwS⟩ : ∃ x, x = wr := ⟨_, rfl⟩
              subst hwS
              go_wp2
              go_loopw [8] (fun tv wx => ∃ tt : Nat, tv = .int .i64 (tt : Int) ∧ tt ≤ 255 ∧ wx = wS ∧ Hid (∀ r, tt < r → r < 256 → cnt2.getD r 0 = 0)) (fun tv _ => (intOf tv).toNat)
              case atStart => exact ⟨255, rfl, by omega, rfl, fun r h1 h2 => by omega⟩
              case round =>
                obtain ⟨tt, rfl, htt, rfl, HAb⟩ := hrel
                have hti : tt < 256 := by omega
                have htI : (tt : Int) < 256 := by omega
                have hcl2 := (unhide HI2).len
                have cT := (unhide HB2).cell (i := tt) (by omega)
                have fT := (unhide HB2).frozen tt
                have hce := (unhide HI2).cnt_ tt hti
                have hcb := cntR_le (s :: t) tt
                rw [← hce] at hcb
                have hcb0 := hcb.1
                have hcb2 : cnt2.getD tt 0 ≤ 301 := by have := hcb.2; rw [hLl] at this; omega
                have HS1 := hide ((unhide HI2).some_at (n := n) (by omega) (unhide HZ) (unhide HAb))
                have HS2 : Hid (cnt2.getD tt 0 ≠ 0 → s.2 = (tt : Int) ∧ ∃ j : Nat, j < k + 1 ∧ s.1 = (j : Int) ∧ z j 0 = (tt : Int)) := fun hne => (unhide HI2).next (n := n) (by omega) (unhide HZ) (unhide HSr) hti (unhide HAb) hne
                have HS3 : Hid (cnt2.getD tt 0 = 0 → ∀ r, tt - 1 < r → r < 256 → cnt2.getD r 0 = 0) := fun he r h1 h2 => by
                  by_cases er : r = tt
                  · rw [er]; exact he
                  · exact unhide HAb r (by omega) h2
                have HS4 : Hid (cnt2.getD tt 0 = 0 → s.2 ≠ (tt : Int)) := fun he h2 => by
                  rw [hce] at he
                  exact absurd he (cntR_pos.2 ⟨s, List.mem_cons_self .., h2⟩)
                have HTp : Hid (s.2 = (tt : Int) → TI z (k + 1) t (cnt2.set tt (cnt2.getD tt 0 - 1))) := fun h2 => (unhide HI2).pop h2 hti
                clear hce hcb
                generalize hgc : cnt2.getD tt 0 = c2 at *
                have HGC := hide hgc
                clear hgc
                by_cases hc0 : c2 = 0
                · have hpos : 0 < tt := by
                    obtain ⟨r, hr, hrt⟩ := unhide HS1
                    have := unhide HS4 hc0
                    omega
                  have HAn := hide (unhide HS3 hc0)
                  have hc0B : (c2 == 0) = true := by simp [hc0]
                  clear HS1 HS2 HS3 HS4 hc0
                  go_wp2
                  go_roundw
                  case rel => exact ⟨tt - 1, by go_num, by omega, by first | rfl | trivial, unhide HAn⟩
                  case measure => simp [intOf]; omega
                · have hc0B : (c2 == 0) = false := by simp [hc0]
                  obtain ⟨h2, j, hj, h1, hzj⟩ := unhide HS2 hc0
                  have HTq := hide (unhide HTp h2)
                  have hj2 : j < n := by omega
                  have hjI : (j : Int) < (n : Int) := by omega
                  have hj0 : decide ((j : Int) < 0) = false := decide_eq_false (by omega)
                  have hjk : decide ((k : Int) < (j : Int)) = false := decide_eq_false (by omega)
                  obtain ⟨bb, oo, hbo, hbb, hcc⟩ := (unhide H).2 (by omega)
                  cases hbo
                  have dj := (hcc j hj2 0 (by omega)).1
                  rw [Nat.add_zero, hzj] at dj
                  have HC := hide ((my_pop (unhide HM2)).mono (R' := fun e w' => e = .returned (.tuple #[.int .i64 (j : Int), .int .i64 (tt : Int), .bool true]) ∧ Hid (MyP w w' P t) ∧ Hid (Blk w' 44 T cnt2) ∧ w'.cell? ⟨b, off + j * 3, none⟩ = some (.int .u8 (tt : Int)) ∧ w'.cell? ⟨T, tt, none⟩ = some (.int .i64 c2) ∧ w'.frozen? ⟨T, tt, none⟩ = false) (by
                    rintro e w' ⟨rfl, m', ky⟩
                    have hB := (unhide HB2).kty ky (by decide) (by decide)
                    have en : nxt (s :: t) = s := rfl
                    have ed : decide (0 < (s :: t).length) = true := by simp
                    rw [en, ed, h1, h2]
                    have hcell := hB.cell (i := tt) (by omega)
                    rw [unhide HGC] at hcell
                    exact ⟨rfl, m', hB, (Below.cell m'.kp (p := ⟨b, off + j * 3, none⟩) hbb).trans dj, hcell, hB.frozen tt⟩))
                  have et : IntKind.i64.wrap (tt : Int) = (tt : Int) := by rw [IntKind.wrap_i64]; omega
                  have ec2 : IntKind.i64.wrap (c2 - 1) = c2 - 1 := by rw [IntKind.wrap_i64]; omega
                  clear hcc dj HS1 HS2 HS3 HS4 HTp hc0
                  go_wp2_with fail
                  refine (unhide HC).mono ?_
                  clear HC cT fT
                  rintro e w5 ⟨rfl, HM5, HB5, cj, cT, fT⟩
                  have HB6 := hide ((unhide HB5).set tt (c2 - 1))
                  have HM6 := hide ((unhide HM5).other ((unhide HB5).oth (by decide) (by decide)) hT (grown_set w5 T tt (.int .i64 (c2 - 1))))
                  clear HB5 HM5
                  go_wp2
                  go_roundw
                  case rel => exact ⟨q + 1, t, _, by omega, by go_num, by go_num, by have := unhide HLl; unfold Hid; omega, unhide HM6, unhide HB6, unhide HTq⟩
                  case measure => simp [intOf]; omega
          · have hM := my_len (unhide HM2)
            have HLn := hide hM
            have hsl := unhide HL2
            clear hM
            generalize hm2 : s2.length = m2 at *
            have HME := hide hm2
            clear hm2
            go_wp2_with fail
            refine (unhide HLn).mono ?_
            rintro e w5 ⟨rfl, rfl⟩
            go_wp2
            go_roundw
            case rel => exact ⟨k + 1, s2, cnt2, by omega, by rw [unhide HME], by go_num, by rw [unhide HME]; exact hsl, unhide HM2, unhide HB2, unhide HI2⟩
            case measure => simp [intOf]; omega
      · go_wp2
        go_ret
        exact ⟨rfl, (unhide HM).kp⟩

end Go.Proofs.Ythcilobmoeihbaa
