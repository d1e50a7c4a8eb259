
/- The iterator over who uses whom, told what the caller's cells hold; its maker. -/
import Derived.Test.YtefohemihiiceaaRchF
namespace Go.Proofs.Ytefohemihiiceaa
open Go.RowKit Go.Shelf
attribute [local go_sem] Oper.semAt_some

/-- the inputs of node i -/
def innF (ns : List Nd) (i : Nat) : List Int := (ns.getD i ndnil).inn

/-- what the iterator reads of memory -/
structure UB (W0 : World) (Br Bg N : Nat) (ra ga : Option Addr) (gn gc : Nat) (W : World) : Prop where
  r : W.cell? ⟨Br, 0, none⟩ = some (.slice ra N N)
  g : W.cell? ⟨Bg, 0, none⟩ = some (.slice ga gn gc)
  kp : Kp W0 W

set_option maxHeartbeats 1000000 in
theorem uses_any (ga ra : Option Addr) (gn gc rn rc : Nat) (w : World) :
    Calls Try.prog 17 #[.agg #[.slice ga gn gc], .slice ra rn rc] w fun e w' => e = .returned (.func (.func 19) #[] #[.pointer (some ⟨w.heap.size + 1, 0, none⟩), .pointer (some ⟨w.heap.size, 0, none⟩)]) ∧
      w' = (w.alloc (.cells #[.slice ga gn gc] 24)).alloc (.cells #[.slice ra rn rc] 28) := by
  go_enter Try.func17, Try.ntmps17
  go_wp2
  go_ret
  exact ⟨rfl, rfl⟩

set_option maxRecDepth 100000 in
set_option maxHeartbeats 4000000 in
theorem uses1_in (F : Fence) (n : Nat) (h6 : F.fn 19) (hro : F.round = none) (hn : 1 ≤ n) (l Br Bg N R gc : Nat) (ra ga : Option Addr) (ns : List Nd) (W0 : World) (hns : Nodes W0 (.slice ga ns.length gc) ns) (hN : N ≤ ns.length) (hra : 0 < N → ra = some ⟨R, 0, none⟩)
    (T : Nat → World → Prop) (S : Nat → Nat → World → Prop) (A : World → Prop)
    (hT : ∀ m W, T m W → UB W0 Br Bg N ra ga ns.length gc W) (hS : ∀ m s W, S m s W → UB W0 Br Bg N ra ga ns.length gc W)
    (hTS : ∀ m W, m < N → T (m + 1) W → ∃ r : Bool, W.cell? ⟨R, m, none⟩ = some (.bool r) ∧ (r = true → S m 0 W) ∧ (r = false → T m W))
    (hST : ∀ m W, m < N → S m (innF ns m).length W → T m W)
    (hY : ∀ m s W, m < N → s < (innF ns m).length → S m s W → A W → YieldAt F (n - 1) Try.prog l #[.int .i64 ((innF ns m).getD s 0), .agg #[.int .i64 (m : Int), .int .i64 (s : Int)]] W fun e W' => e = .returned (.bool true) ∧ S m (s + 1) W' ∧ A W')
    (W : World) (h0 : T N W) (hA : A W) :
    CallsIn F n Try.prog 19 #[.func (.yield l) #[] #[], .pointer (some ⟨Br, 0, none⟩), .pointer (some ⟨Bg, 0, none⟩)] W fun e W' => (∃ v, e = .returned v) ∧ T 0 W' ∧ A W' := by
  have hroom := hns.room
  have HN := hide hns
  clear hns
  have cr := (hT N W h0).r
  have H0 := hide h0
  have HA := hide hA
  have LT := hide hT
  have LS := hide hS
  have LTS := hide hTS
  have LST := hide hST
  have LY := hide hY
  have LRA := hide hra
  clear h0 hA hT hS hTS hST hY hra
  refine callsIn_of_wp Try.func19 rfl h6 ?_ hro
  simp only [Try.ntmps19, List.size_toArray, List.length_cons, List.length_nil, Nat.reduceAdd, Nat.reduceSub, Array.replicate_succ, Array.replicate_zero, List.push_toArray, List.append_toArray, List.nil_append, List.cons_append]
  gi_wp2
  gi_loopw [4] (fun i wr => ∃ m : Nat, m ≤ N ∧ i = .int .i64 ((m : Int) - 1) ∧ Hid (T m wr) ∧ Hid (A wr)) (fun i _ => (intOf i + 1).toNat)
  case atStart => exact ⟨N, Nat.le_refl _, rfl, unhide H0, unhide HA⟩
  case round =>
    obtain ⟨m, hm, rfl, HT, HAr⟩ := hrel
    by_cases hp : 0 < m
    · obtain ⟨j, rfl⟩ : ∃ j, m = j + 1 := ⟨m - 1, by omega⟩
      have ej : ((j + 1 : Nat) : Int) - 1 = (j : Int) := by omega
      rw [ej]
      have ub := unhide LT _ _ (unhide HT)
      obtain ⟨r, cR, hr1, hr2⟩ := unhide LTS j wr (by omega) (unhide HT)
      have hra' := unhide LRA (by omega)
      subst hra'
      have cr := ub.r
      have cg := ub.g
      have hjN : (j : Int) < (N : Int) := by omega
      have hjL : (j : Int) < (ns.length : Int) := by omega
      have HU := hide ub
      clear ub ej
      cases r
      · have HT2 := hide (hr2 rfl)
        clear hr1 hr2
        gi_wp2
        go_roundw
        case rel => exact ⟨j, by omega, rfl, unhide HT2, unhide HAr⟩
        case measure => simp [intOf]
      · have HS0 := hide (hr1 rfl)
        clear hr1 hr2
        obtain ⟨b, off, rfl, hb, hnd⟩ := (unhide HN).one (Kp.refl W0) (show j < ns.length by omega)
        obtain ⟨a1, e1, c1, i1⟩ := hnd.inn
        have c1w := (unhide HU).kp.cellT c1
        have hi : innF ns j = (ns.getD j ndnil).inn := rfl
        have hS' := fun s W h => unhide LS j s W h
        have hY' := fun s W hs => unhide LY j s W (by omega) hs
        have hST' := fun W h => unhide LST j W (by omega) h
        rw [← hi] at i1 c1 c1w
        clear hi hnd c1 LT LS LTS LST LY LRA
        generalize innF ns j = xs at *
        have hxr := i1.room
        have I1 := hide i1
        have HS' := hide hS'
        have HY' := hide hY'
        have HST' := hide hST'
        clear i1 hS' hY' hST'
        gi_wp2
        gi_loopw [26] (fun i w3 => ∃ s : Nat, s ≤ xs.length ∧ i = .int .i64 s ∧ Hid (S j s w3) ∧ Hid (A w3)) (fun i _ => xs.length - (intOf i).toNat)
        case atStart => exact ⟨0, Nat.zero_le _, rfl, unhide HS0, unhide HAr⟩
        case round =>
          obtain ⟨s, hs, rfl, HSs, HA3⟩ := hrel
          by_cases hlt : s < xs.length
          · have hltI : (s : Int) < (xs.length : Int) := by omega
            have ub3 := unhide HS' s wr (unhide HSs)
            obtain ⟨hw9, _, _, a9, e9, he9, hc9⟩ := (unhide I1).keep ub3.kp
            cases he9
            obtain ⟨b9, o9, rfl, hb9, hc9⟩ := hc9 (by omega)
            have hcx := hc9 s hlt
            have hwx := (unhide I1).getD hlt
            obtain ⟨fn, tmps, assign, body, hy, hR⟩ := unhide HY' s wr hlt (unhide HSs) (unhide HA3)
            have hR' := hide hR
            clear hR hc9 hw9 ub3
            generalize xs.getD s 0 = x at *
            gi_wp2
            simp [go_sem, hro, hy, hn, execOp, resolve, invoke]
            refine (unhide hR').mono ?_
            rintro e W3 ⟨rfl, hS3, hA3⟩
            have HS3 := hide hS3
            have HA3 := hide hA3
            clear hS3 hA3 hy hR'
            gi_wp2
            go_roundw
            case rel => exact ⟨s + 1, by omega, by go_num, unhide HS3, unhide HA3⟩
            case measure => simp [intOf]; omega
          · obtain rfl : s = xs.length := by omega
            have HT2 := hide (unhide HST' _ (unhide HSs))
            gi_wp2
            go_roundw
            case rel => exact ⟨j, by omega, rfl, unhide HT2, unhide HA3⟩
            case measure => simp [intOf]
    · obtain rfl : m = 0 := by omega
      gi_wp2
      go_end0
      exact ⟨⟨_, rfl⟩, unhide HT, unhide HAr⟩

end Go.Proofs.Ytefohemihiiceaa
