
/- PileDrops. -/
import Derived.Test.YthcilobmoeihbaaPilQ
import Derived.Test.YthcilobmoeihbaaOpnV
import Derived.BigQuiet
namespace Go.Proofs.Ythcilobmoeihbaa
open Go.RowKit

theorem zeroB : ∃ X : Array Value, X = ((List.replicate 256 false).map Value.bool).toArray ∧ ∀ w, Sem.run Try.prog (zeroValue 49) w = .ok (.agg X) w := ⟨_, rfl, fun w => by kernel_rfl⟩
theorem InArr.v8 {m : Nat} {w : World} {a : Option Addr} {n : Nat} {z : Nat → Nat → Int} (h : InArr .u8 m w a n z) {i j : Nat} (hi : i < n) (hj : j < m) : 0 ≤ z i j ∧ z i j ≤ 255 := by
  obtain ⟨b, off, _, _, hc⟩ := h.2 (by omega)
  have := bounds_u8 (hc i hi j hj).2
  omega
theorem InCol.v8 {w : World} {a : Option Addr} {n : Nat} {z : Nat → Int} (h : InCol .u8 w a n z) {i : Nat} (hi : i < n) : 0 ≤ z i ∧ z i ≤ 255 := by
  obtain ⟨b, off, _, _, hc⟩ := h.2 (by omega)
  have := bounds_u8 (hc i hi).2
  omega

set_option maxRecDepth 20000 in
set_option maxHeartbeats 8000000 in
theorem drops_any (a : Option Addr) (n cap : Nat) (z : Nat → Nat → Int) (a1 : Option Addr) (m cap1 : Nat) (g : Nat → Int) (w : World) (h : InArr .u8 2 w a n z) (h1 : InCol .u8 w a1 m g) : Calls Try.prog 7 #[.slice a n cap, .slice a1 m cap1] w fun e w' => e = .returned (.bool true) ∧ Kp w w' := by
  have hn := h.1
  have hm := h1.1
  have H := hide h
  have H1 := hide h1
  have HA := hide (awake14_any w)
  obtain ⟨X, hX, hz⟩ := zeroB
  have HX := hide hX
  clear h h1 hX
  go_enter Try.func7, Try.ntmps7
  go_wp2_with fail
  refine (unhide HA).mono ?_
  clear HA
  rintro e w0 ⟨rfl, k0⟩
  have K0 := hide k0
  clear k0
  by_cases hbig : 200 < n
  · have hbI : decide ((200 : Int) < (n : Int)) = true := decide_eq_true (by omega)
    go_wp2
    go_ret
    exact ⟨rfl, unhide K0⟩
  · have hbI : decide ((200 : Int) < (n : Int)) = false := decide_eq_false (by omega)
    by_cases hbig2 : 50 < m
    · have hcI : decide ((50 : Int) < (m : Int)) = true := decide_eq_true (by omega)
      go_wp2
      go_ret
      exact ⟨rfl, unhide K0⟩
    · have hcI : decide ((50 : Int) < (m : Int)) = false := decide_eq_false (by omega)
      have HN := hide (my_new w w0 (unhide K0))
      go_wp2_with fail
      refine (unhide HN).mono ?_
      clear HN K0
      rintro e w1 ⟨P, rfl, h1, -⟩
      have HN2 := hide (two_new h1)
      clear h1
      go_wp2_with fail
      refine (unhide HN2).mono ?_
      clear HN2
      rintro e w2 ⟨Q, rfl, h2, -⟩
      have HM1 := hide (h2.keep (Kp.alloc w2 (.cells X 49)))
      have hT : w.heap.size ≤ w2.heap.size := h2.kp.size
      have HT1 : Hid (BlkO (w2.alloc (.cells X 49)) w2.heap.size (List.replicate 256 false)) := by
        unfold Hid BlkO
        rw [unhide HX]
        simp only [World.alloc, Array.getElem?_push_size]
      clear h2
      go_upto_region 9 with fail
      generalize w2.alloc (.cells X 49) = w3 at *
      generalize w2.heap.size = T at *
      clear hz HX
      go_wp2
      go_loopw [8] (fun i wr => ∃ (k : Nat) (bs : List Bool), k ≤ m ∧ i = .int .i64 k ∧ Hid (MyQ w wr P Q [] []) ∧ Hid (BlkO wr T bs) ∧ Hid (OT g k bs)) (fun i _ => m - (intOf i).toNat)
      case atStart => exact ⟨0, _, Nat.zero_le _, rfl, unhide HM1, unhide HT1, OT.start g⟩
      case round =>
        obtain ⟨k, bs, hk, rfl, HM, HT, HO⟩ := hrel
        by_cases hlt : k < m
        · have hkI : (k : Int) < (m : Int) := by omega
          have hg8 := (unhide H1).v8 hlt
          obtain ⟨b, off, rfl, hb, hc⟩ := (unhide H1).2 (by omega)
          have d0 := (hc k hlt).1
          obtain ⟨x, hx⟩ : ∃ x : Nat, g k = (x : Int) := ⟨(g k).toNat, by omega⟩
          rw [hx] at d0 hg8
          have hx2 : x < 256 := by omega
          have hxI : (x : Int) < 256 := by omega
          have c0 := (Below.cell (unhide HM).kp (p := ⟨b, off + k, none⟩) hb).trans d0
          have cT := (unhide HT).cell (i := x) (by rw [(unhide HO).len]; exact hx2)
          have fT := (unhide HT).frozen x
          have HO2 := hide ((unhide HO).step hx hx2)
          have HT2 := hide ((unhide HT).set x true)
          have HM2 := hide ((unhide HM).other (unhide HT).oth hT (grown_set wr T x (.bool true)))
          clear hc d0 hx HM HT HO
          generalize bs.getD x false = old at *
          go_wp2
          go_roundw
          case rel => exact ⟨k + 1, _, by omega, by go_num, unhide HM2, unhide HT2, unhide HO2⟩
          case measure => simp [intOf]; omega
        · have hkm : k = m := by omega
          subst hkm
          go_wp2
          go_loopw [9] (fun i wx => ∃ (q : Nat) (ss : List (Int × Int)), q ≤ n ∧ i = .int .i64 q ∧ ss.length ≤ q ∧ Hid (MyQ w wx P Q ss (stayL g k ss)) ∧ Hid (BlkO wx T bs)) (fun i _ => n - (intOf i).toNat)
          case atStart => exact ⟨0, [], Nat.zero_le _, rfl, Nat.le_refl _, unhide HM, unhide HT⟩
          case round =>
            clear HM HT
            obtain ⟨q, ss, hq, rfl, hsl, HM, HT⟩ := hrel
            by_cases hlt2 : q < n
            · have hqI : (q : Int) < (n : Int) := by omega
              have hx8 := (unhide H).v8 hlt2 (show 0 < 2 by omega)
              have hy8 := (unhide H).v8 hlt2 (show 1 < 2 by omega)
              obtain ⟨b, off, rfl, hb, hc⟩ := (unhide H).2 (by omega)
              have d0 := (hc q hlt2 0 (by omega)).1
              have d1 := (hc q hlt2 1 (by omega)).1
              rw [Nat.add_zero] at d0
              obtain ⟨x, hx⟩ : ∃ x : Nat, z q 0 = (x : Int) := ⟨(z q 0).toNat, by omega⟩
              obtain ⟨y, hy⟩ : ∃ y : Nat, z q 1 = (y : Int) := ⟨(z q 1).toNat, by omega⟩
              rw [hx] at d0 hx8
              rw [hy] at d1 hy8
              have hx2 : x < 256 := by omega
              have hxI : (x : Int) < 256 := by omega
              have ex : IntKind.i64.wrap (x : Int) = (x : Int) := by rw [IntKind.wrap_i64]; omega
              have ey : IntKind.i64.wrap (y : Int) = (y : Int) := by rw [IntKind.wrap_i64]; omega
              have hcT : bs.getD x false = outB g k (x : Int) := (unhide HO).at_ x hx2
              have hsl2 := stayL_le g k ss
              have hsr := (unhide HM).srt
              have CC : Hid (∀ w2, Kp wr w2 → Calls Try.prog 12 #[.pointer (some ⟨P, 0, none⟩), .int .i64 (IntKind.i64.wrap (x : Int)), .int .i64 (IntKind.i64.wrap (y : Int))] w2 fun e w' => e = .returned (.tuple #[]) ∧ Hid (MyQ w w' P Q (insI ((x : Int), (y : Int)) ss) (stayL g k ss)) ∧ Hid (BlkO w' T bs) ∧ w'.cell? ⟨b, off + q * 2, none⟩ = some (.int .u8 (x : Int)) ∧ w'.cell? ⟨b, off + q * 2 + 1, none⟩ = some (.int .u8 (y : Int))) := by
                intro w2 k2
                rw [ex, ey]
                refine (two_push ((unhide HM).keep k2) (x : Int) (y : Int) (by omega)).mono ?_
                rintro e w' ⟨rfl, m', ky⟩
                exact ⟨rfl, m', ((unhide HT).kty (Kty.of_kp k2)).kty ky, (Below.cell m'.kp (p := ⟨b, off + q * 2, none⟩) hb).trans d0, (Below.cell m'.kp (p := ⟨b, off + q * 2 + 1, none⟩) hb).trans d1⟩
              have c0 := (Below.cell (unhide HM).kp (p := ⟨b, off + q * 2, none⟩) hb).trans d0
              have c1 := (Below.cell (unhide HM).kp (p := ⟨b, off + q * 2 + 1, none⟩) hb).trans d1
              have DD := hide (And.intro d0 (And.intro d1 hb))
              have HLO := (unhide HO).len
              have EX := hide (And.intro ex ey)
              have HSR := hide hsr
              have HCT := hide hcT
              clear hc d0 d1 hx hy hcT HM HT ex ey hsr hb
              go_wp2_with fail
              go_region_held3 (fun w' => w'.cell? ⟨b, off + q * 2, none⟩ = some (.int .u8 (x : Int)) ∧ w'.cell? ⟨b, off + q * 2 + 1, none⟩ = some (.int .u8 (y : Int))) (go_keep)
                (first
                  | (go_at_call 12; refine ((unhide CC) _ ?_).mono ?_; (first | exact Kp.drew wr | exact Kp.refl wr); rintro e w5 ⟨rfl, HM5, HT5, j0, j1⟩))
              all_goals (
                clear CC c0 c1
                have cT := (unhide HT5).cell (i := x) (by omega)
                have hob := unhide HCT
                generalize bs.getD x false = t at *
                clear HCT j0 j1
                have HLn : Hid ((insI ((x : Int), (y : Int)) ss).length = ss.length + 1) := insI_length _ _
                cases t with
                | true =>
                  have hst := stayL_out (g := g) (k := k) (x := ((x : Int), (y : Int))) (unhide HSR) hob.symm
                  rw [← hst] at HM5
                  clear hob hst hsl2
                  go_wp2
                  go_roundw
                  case rel => exact ⟨q + 1, _, by omega, by go_num, by rw [unhide HLn]; omega, unhide HM5, unhide HT5⟩
                  case measure => simp [intOf]; omega
                | false =>
                  have hst := stayL_in (g := g) (k := k) (x := ((x : Int), (y : Int))) (unhide HSR) hob.symm
                  have HST := hide hst
                  have CC2 : Hid (∀ w2, Kp w5 w2 → Calls Try.prog 12 #[.pointer (some ⟨Q, 0, none⟩), .int .i64 (IntKind.i64.wrap (x : Int)), .int .i64 (IntKind.i64.wrap (y : Int))] w2 fun e w' => e = .returned (.tuple #[]) ∧ Hid (MyQ w w' P Q (insI ((x : Int), (y : Int)) ss) (stayL g k (insI ((x : Int), (y : Int)) ss))) ∧ Hid (BlkO w' T bs) ∧ w'.cell? ⟨b, off + q * 2, none⟩ = some (.int .u8 (x : Int)) ∧ w'.cell? ⟨b, off + q * 2 + 1, none⟩ = some (.int .u8 (y : Int))) := by
                    intro w2 k2
                    rw [(unhide EX).1, (unhide EX).2]
                    refine (two_push ((unhide HM5).keep k2).swap (x : Int) (y : Int) (by omega)).mono ?_
                    rintro e w' ⟨rfl, m', ky⟩
                    rw [unhide HST]
                    exact ⟨rfl, m'.swap, ((unhide HT5).kty (Kty.of_kp k2)).kty ky, (Below.cell m'.kp (p := ⟨b, off + q * 2, none⟩) (unhide DD).2.2).trans (unhide DD).1, (Below.cell m'.kp (p := ⟨b, off + q * 2 + 1, none⟩) (unhide DD).2.2).trans (unhide DD).2.1⟩
                  have j0 := (Below.cell (unhide HM5).kp (p := ⟨b, off + q * 2, none⟩) (unhide DD).2.2).trans (unhide DD).1
                  have j1 := (Below.cell (unhide HM5).kp (p := ⟨b, off + q * 2 + 1, none⟩) (unhide DD).2.2).trans (unhide DD).2.1
                  clear hob hst hsl2
                  go_wp2_with fail
                  go_region_held3 (fun w' => w'.cell? ⟨b, off + q * 2, none⟩ = some (.int .u8 (x : Int)) ∧ w'.cell? ⟨b, off + q * 2 + 1, none⟩ = some (.int .u8 (y : Int))) (go_keep)
                    (first
                      | (go_at_call 12; refine ((unhide CC2) _ ?_).mono ?_; (first | exact Kp.drew w5 | exact Kp.refl w5); rintro e w6 ⟨rfl, HM6, HT6, l0, l1⟩))
                  all_goals (
                    clear l0 l1 CC2
                    go_wp2
                    go_roundw
                    case rel => exact ⟨q + 1, _, by omega, by go_num, by rw [unhide HLn]; omega, unhide HM6, unhide HT6⟩
                    case measure => simp [intOf]; omega))
            · have hqn : n = q := by omega
              subst hqn
              have hM0 : MyQ w wr P Q (stayL g 0 ss) (stayL g k ss) := by rw [stayL_zero]; exact unhide HM
              have HM0 := hide hM0
              clear hM0 HT HM
              go_wp2
              go_loopw [10] (fun i wy => ∃ (r : Nat), r ≤ k ∧ i = .int .i64 r ∧ Hid (MyQ w wy P Q (stayL g r ss) (stayL g k ss))) (fun i _ => k - (intOf i).toNat)
              case atStart => exact ⟨0, Nat.zero_le _, rfl, unhide HM0⟩
              case round =>
                obtain ⟨r, hr, rfl, HMr⟩ := hrel
                by_cases hlt3 : r < k
                · have hrI : (r : Int) < (k : Int) := by omega
                  have hg8 := (unhide H1).v8 hlt3
                  obtain ⟨b, off, rfl, hb, hc⟩ := (unhide H1).2 (by omega)
                  have d0 := (hc r hlt3).1
                  have c0 := (Below.cell (unhide HMr).kp (p := ⟨b, off + r, none⟩) hb).trans d0
                  have HC := hide ((two_drop (unhide HMr) (g r)).mono (R' := fun e w' => ∃ v, e = .returned v ∧ Hid (MyQ w w' P Q (stayL g (r + 1) ss) (stayL g k ss))) (by
                    rintro e w' ⟨rfl, m', -⟩
                    rw [stayL_succ]
                    exact ⟨_, rfl, m'⟩))
                  have ex : IntKind.i64.wrap (g r) = g r := by rw [IntKind.wrap_i64]; omega
                  clear hc d0
                  generalize g r = x at *
                  go_wp2_with fail
                  refine (unhide HC).mono ?_
                  clear HC
                  rintro e w5 ⟨v, rfl, HM5⟩
                  go_wp2
                  go_roundw
                  case rel => exact ⟨r + 1, by omega, by go_num, unhide HM5⟩
                  case measure => simp [intOf]; omega
                · have hrk : k = r := by omega
                  subst hrk
                  have hle := stayL_le g k ss
                  have hln : (stayL g k ss).length ≤ n := by omega
                  generalize stayL g k ss = s0 at *
                  go_wp2
                  go_loopw [11] (fun i wz => ∃ (q : Nat) (s : List (Int × Int)), q ≤ n + 1 ∧ i = .int .i64 q ∧ s.length ≤ n - q ∧ Hid (MyQ w wz P Q s s)) (fun i _ => n + 1 - (intOf i).toNat)
                  case atStart => exact ⟨0, s0, by omega, rfl, by omega, unhide HMr⟩
                  case round =>
                    clear HMr
                    obtain ⟨q, s, hq4, rfl, hsl4, HMz⟩ := hrel
                    by_cases hlt4 : q ≤ n
                    · have hqI : (q : Int) ≤ (n : Int) := by omega
                      have HTl : Hid (s.tail.length ≤ n - (q + 1)) := by unfold Hid; rw [List.length_tail]; omega
                      go_wp2_with fail
                      refine (two_pop (unhide HMz)).mono ?_
                      rintro e w5 ⟨rfl, m5, -⟩
                      have HM5 := hide m5
                      clear m5
                      have HC := hide (two_pop (unhide HM5).swap)
                      generalize (nxt s).1 = x1 at *
                      generalize (nxt s).2 = x2 at *
                      generalize decide (0 < s.length) = xb at *
                      go_wp2_with fail
                      refine (unhide HC).mono ?_
                      clear HC
                      rintro e w6 ⟨rfl, m6, -⟩
                      have HM6 := hide m6
                      have HLa := hide (two_len m6.swap (q := s.tail.length) rfl)
                      have HLb := hide (two_len m6 (q := s.tail.length) rfl)
                      clear m6
                      generalize htl : s.tail.length = tl at *
                      have HTE := hide htl
                      clear htl
                      go_wp2_with fail
                      refine (unhide HLa).mono ?_
                      rintro e w7 ⟨rfl, rfl⟩
                      go_wp2_with fail
                      refine (unhide HLb).mono ?_
                      rintro e w8 ⟨rfl, rfl⟩
                      go_wp2
                      go_roundw
                      case rel => exact ⟨q + 1, s.tail, by omega, by go_num, by rw [unhide HTE]; exact unhide HTl, (unhide HM6).swap⟩
                      case measure => simp [intOf]; omega
                    · have hqn : q = n + 1 := by omega
                      subst hqn
                      have hs0 : s.length = 0 := by omega
                      go_wp2_with fail
                      refine (two_len (unhide HMz) hs0).mono ?_
                      rintro e w7 ⟨rfl, rfl⟩
                      go_wp2
                      go_ret
                      exact ⟨rfl, (unhide HMz).kp⟩

end Go.Proofs.Ythcilobmoeihbaa
