
/- The law ReachRoots. -/
import Derived.Test.YtefohemihiiceaaRchW
import Derived.Test.YtefohemihiiceaaRchL
namespace Go.Proofs.Ytefohemihiiceaa
open Go.RowKit Go.Shelf

set_option maxRecDepth 20000 in
set_option maxHeartbeats 8000000 in
theorem roots_any (a : Option Addr) (len cap : Nat) (root : Int) (w : World) (h : InNodes w a len cap) (hz : ZNodes w a len) (hr : I64 root) :
    Calls Try.prog 6 #[.agg #[.slice a len cap], .int .i64 root] w fun e w' => e = .returned (.bool true) ∧ Kp w w' := by
  have hzl := hz.1
  unfold Zlen at hzl
  have H := hide h
  have HZ := hide hz
  have HR := hide hr
  unfold I64 at hr
  clear h hz
  have K0 := hide (Kp.alloc w (.cells #[.slice a len cap] 24))
  have c0 : (w.alloc (.cells #[.slice a len cap] 24)).cell? ⟨w.heap.size, 0, none⟩ = some (.slice a len cap) := (Boxed.new w 24 (.slice a len cap)).cell
  have q : ∀ (w : World) (a : Option Addr) (n c n' c' : Nat), (binOp .eql 28 (.slice a n c) (.slice none n' c')).run Try.prog w = .ok (.bool a.isNone) w := fun w a n c n' c' => Lib.run_eql_slice_nil w _ _ a n c n' c' Try.underlying28
  go_enter Try.func6, Try.ntmps6
  go_wp2_with fail
  generalize World.alloc w _ = w1 at *
  refine Calls.mono (awake11_any w1) ?_
  rintro e w2 ⟨rfl, k2⟩
  have c2 := k2.cellT c0
  have K2 := hide ((unhide K0).trans k2)
  clear k2 c0 K0
  go_wp2_with fail
  have ka := Kp.alloc w2 (.cells #[.slice a len cap] 24)
  have hq := (Boxed.new w2 24 (.slice a len cap)).cell
  have c3 := ka.cellT c2
  have K3 := hide ((unhide K2).trans ka)
  clear ka K2 c2
  generalize w2.alloc (.cells #[.slice a len cap] 24) = w3 at *
  refine Calls.mono (small1_any w2.heap.size len cap a w3 hq ((unhide H).keepW (unhide K3)) ((unhide HZ).keepW (unhide H) (unhide K3))) ?_
  rintro e w4 ⟨⟨b, rfl, hb⟩, k4⟩
  have c4 := k4.cellT c3
  have HB := hide hb
  have K4 := hide ((unhide K3).trans k4)
  have K34 := hide k4
  clear hb k4 c3 hq
  cases b
  · go_wp2
    go_ret
    exact ⟨by first | rfl | trivial, unhide K4⟩
  · by_cases h80 : 80 < len
    · have h80I : (80 : Int) < (len : Int) := by omega
      go_wp2
      go_ret
      exact ⟨by first | rfl | trivial, unhide K4⟩
    · have h80I : ¬ (80 : Int) < (len : Int) := by omega
      have h80' : decide ((80 : Int) < (len : Int)) = false := decide_eq_false h80I
      obtain ⟨hl, hsh⟩ := unhide HB rfl
      obtain ⟨ns, hn, hN, -, -⟩ := nodes_of ((unhide H).keepW (unhide K3)) hl hsh
      subst hn
      have HN := hide (hN.keep (unhide K34))
      clear hl hsh hN HB h80
      go_wp2_with fail
      refine Calls.mono (from_any a cap ns root w4 (unhide HN) (unhide HR)) ?_
      rintro e w5 ⟨hf, k5⟩
      have c5 := k5.cellT c4
      have K5 := hide ((unhide K4).trans k5)
      have HN5 := hide ((unhide HN).keep k5)
      rcases retF_any hf with ⟨hp, rfl⟩ | ⟨hp, B, rfl, hB⟩
      · have HP := hide hp
        clear hf k5 c4 hp K4 HN
        go_wp2_with fail
        refine Calls.mono (rfrom_any a cap ns root w5 (unhide HN5) (unhide HR)) ?_
        rintro e w6 ⟨hg, k6⟩
        obtain rfl := retF_null hg (unhide HP)
        have K6 := hide ((unhide K5).trans k6)
        clear hg k6
        go_wp2
        go_ret
        exact ⟨by first | rfl | trivial, unhide K6⟩
      · obtain ⟨r, rfl⟩ : ∃ r : Nat, root = (r : Int) := ⟨root.toNat, by have := hp.2.1; omega⟩
        have hrl : r < ns.length := by have := hp.2.2; omega
        have hrlI : (r : Int) < (ns.length : Int) := by omega
        have er : ((r : Int)).toNat = r := by omega
        rw [er] at hB
        have HS : Hid (SoundN ns) := hp.1
        have HB := hide hB
        have hpos : ¬ (ns.length = 0) := by omega
        have hposI : ((ns.length : Int) == 0) = false := beq_eq_false_iff_ne.2 (by omega)
        clear hf k5 c4 hp K4 HN hB er K34 K3 H HZ HR hr
        go_wp2
        go_loopw [6] (fun i wr => ∃ k : Nat, k ≤ ns.length ∧ i = .int .i64 k ∧ Hid (Kp w5 wr)) (fun i _ => ns.length - (intOf i).toNat)
        case atStart => exact ⟨0, Nat.zero_le _, rfl, Kp.refl _⟩
        case round =>
          obtain ⟨k, hk, rfl, KR⟩ := hrel
          have hBr := (unhide HB).keep (unhide KR)
          have hBl : (fromL (innF ns) ns.length r).length = ns.length := fromL_length _ _ _
          by_cases hlt : k < ns.length
          · have hkI : (k : Int) < (ns.length : Int) := by omega
            have ck := hBr.cell (i := k) (by omega)
            have cg := (unhide KR).cellT c5
            cases hv : (fromL (innF ns) ns.length r).getD k false
            · rw [hv] at ck
              clear hv hBr hBl
              go_wp2
              go_roundw
              case rel => exact ⟨k + 1, by omega, by go_num, unhide KR⟩
              case measure => simp [intOf]; omega
            · rw [hv] at ck
              have HV := hide hv
              clear hv hBr
              go_wp2_with fail
              refine Calls.mono (from_any a cap ns (k : Int) wr ((unhide HN5).keep (unhide KR)) ⟨by omega, by omega⟩) ?_
              rintro e w7 ⟨hf, k7⟩
              obtain ⟨B2, rfl, hB2⟩ := retF_known hf ⟨unhide HS, by omega, hkI⟩
              have ek : ((k : Int)).toNat = k := by omega
              rw [ek] at hB2
              have HB2 := hide hB2
              have HB7 := hide ((unhide HB).keep ((unhide KR).trans k7))
              have K7 := hide ((unhide KR).trans k7)
              have HT := hide (fromL_trans (unhide HS) (unhide HV))
              clear hf hB2 ek ck cg k7
              go_wp2
              go_loopw [8] (fun i w8 => ∃ m : Nat, m ≤ ns.length ∧ i = .int .i64 m ∧ w8 = w7) (fun i _ => ns.length - (intOf i).toNat)
              case atStart => exact ⟨0, Nat.zero_le _, rfl, rfl⟩
              case round =>
                obtain ⟨m, hm, rfl, hw8⟩ := hrel
                subst hw8
                by_cases hlm : m < ns.length
                · have hmI : (m : Int) < (ns.length : Int) := by omega
                  have cm := (unhide HB2).cell (i := m) (by rw [fromL_length]; exact hlm)
                  have cr := (unhide HB7).cell (i := m) (by omega)
                  cases hs : (fromL (innF ns) ns.length k).getD m false
                  · rw [hs] at cm
                    generalize (fromL (innF ns) ns.length r).getD m false = qb at *
                    clear hs
                    go_wp2
                    go_roundw
                    case rel => exact ⟨m + 1, by omega, by go_num, (by first | rfl | trivial)⟩
                    case measure => simp [intOf]; omega
                  · rw [hs] at cm
                    rw [unhide HT m hlm hs] at cr
                    clear hs
                    go_wp2
                    go_roundw
                    case rel => exact ⟨m + 1, by omega, by go_num, (by first | rfl | trivial)⟩
                    case measure => simp [intOf]; omega
                · obtain rfl : m = ns.length := by omega
                  go_wp2
                  go_roundw
                  case rel => exact ⟨k + 1, by omega, by go_num, unhide K7⟩
                  case measure => simp [intOf]; omega
          · obtain rfl : k = ns.length := by omega
            have cr := hBr.cell (i := r) (by omega)
            rw [fromL_root (unhide HS) hrl] at cr
            have K8 := hide ((unhide K5).trans (unhide KR))
            clear hBr hBl
            go_wp2
            go_ret
            exact ⟨by first | rfl | trivial, unhide K8⟩

end Go.Proofs.Ytefohemihiiceaa
