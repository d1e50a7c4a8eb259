/- The walk of the law on rows of products. -/
import Derived.Test.YtblhafibcnokdaaLawRE
import Derived.Test.YtblhafibcnokdaaFFin
namespace Go.Proofs.Ytblhafibcnokdaa
open Go.RowKit

theorem wf_u32 {z : Int} (h : (Lit.int .u32 z).wf = true) : 0 ≤ z ∧ z < 4294967296 := by
  simp only [Lit.wf, Bool.and_eq_true, decide_eq_true_eq] at h
  have e1 : IntKind.u32.min = 0 := by decide
  have e2 : IntKind.u32.max = 4294967295 := by decide
  omega

theorem order_ne {r : Nat} (h : nanW r = false) : (FloatKind.f64.format.order r r != some .eq) = false := (order_self' r).trans h

set_option maxHeartbeats 2000000 in
theorem exact_walk (a0 a1 : Option Addr) (l0 c0 l1 c1 : Nat) (zs ys : List Int) (w : World) (m0 : l0 ≤ 9223372036854775807) (m1 : l1 ≤ 9223372036854775807)
    (h0 : l0 ≤ 1000000 → RowK .u32 w a0 l0 zs) (h1 : l1 ≤ 1000000 → RowK .u32 w a1 l1 ys) :
    Calls Try.prog 8 #[.slice a0 l0 c0, .slice a1 l1 c1] w fun e w' => e = .returned (.bool true) ∧ Kp w w' := by
  have H0 := hide h0
  have H1 := hide h1
  have INFO := hide info_flt
  clear h0 h1
  by_cases g0 : l0 = l1
  · subst g0
    by_cases g1 : l0 ≤ 200
    · have A0 := hide (unhide H0 (by omega))
      have A1 := hide (unhide H1 (by omega))
      clear H0 H1
      go_enter Try.func8, Try.ntmps8
      go_wp2_with fail
      refine (awake_any w).mono ?_
      rintro e w1 ⟨rfl, k1⟩
      have K1 := hide k1
      clear k1
      go_wp2
      go_loopw [5, 6, 7] (fun lv sv i wr => ∃ (k rs : Nat) (ps : List Nat), k ≤ l0 ∧ i = .int .i64 k ∧ sv = .float .f64 rs ∧ Hid (ps.length = k ∧ (∀ p ∈ ps, W64 p) ∧ cn rs = rowC ps) ∧ OwnF wr 23 w1.heap.size lv ps ∧ Kp w1 wr) (fun _ _ i _ => l0 - (intOf i).toNat)
      case atStart => exact ⟨0, 0, [], Nat.zero_le _, rfl, rfl, ⟨rfl, by simp, rfl⟩, OwnF.nil _ _ _, Kp.refl _⟩
      case round =>
        obtain ⟨k, rs, ps, hk, rfl, rfl, HP, ho, hkp⟩ := hrel
        have HO := hide ho
        have HK := hide hkp
        clear ho hkp
        by_cases hlt : k < l0
        · obtain ⟨b, off, rfl, hck⟩ := (unhide A0).cell ((unhide K1).trans (unhide HK)) hlt
          obtain ⟨b', off', rfl, hck'⟩ := (unhide A1).cell ((unhide K1).trans (unhide HK)) hlt
          have hz := wf_u32 ((unhide A0).getD hlt)
          have hy := wf_u32 ((unhide A1).getD hlt)
          generalize zs.getD k 0 = z at *
          generalize ys.getD k 0 = y at *
          obtain ⟨qz, dz, fz⟩ := quo_fn hz.1 hz.2
          obtain ⟨qy, dy, fy⟩ := quo_fn hy.1 hy.2
          obtain ⟨xz, ez, gz⟩ := one_plus_fn fz
          obtain ⟨xy, ey, gy⟩ := one_plus_fn fy
          obtain ⟨r, hr⟩ := mul_fn gz gy
          have hd1 := fun t w => run_float_arith (P := Try.prog) w .quo t .f64 (floatOfInt .f64 z) 4751297606875873280 qz dz
          have hd2 := fun t w => run_float_arith (P := Try.prog) w .quo t .f64 (floatOfInt .f64 y) 4751297606875873280 qy dy
          have ha1 := fun t w => run_float_arith (P := Try.prog) w .add t .f64 4607182418800017408 qz xz ez
          have ha2 := fun t w => run_float_arith (P := Try.prog) w .add t .f64 4607182418800017408 qy xy ey
          have hm := fun t w => run_float_arith (P := Try.prog) w .mul t .f64 xz xy r hr
          have hq := order_ne (mul_notNaN hr)
          have MC : Hid (muC xz xy = r) := by unfold Hid muC; rw [hr]; rfl
          have NR := hide (mul_notNaN hr)
          have WR : Hid (W64 r) := DD.mul_lt hr
          clear dz fz dy fy ez gz ey gy hr
          go_wp2_with fail
          go_quiet (fail)
          go_wp2_with fail
          refine (num_of (L := r) (times_any xz xy _) (unhide MC) (unhide NR)).mono ?_
          rintro e w2 ⟨rfl, k2⟩
          have K2 := hide (((unhide HK).trans (Kp.drewN _ _)).trans k2)
          have O2 := hide (((unhide HO).keep (Kp.drewN _ _)).keep k2)
          clear k2 HK HO
          have qa := Kp.alloc w2 (.cells #[.float .f64 r] 23)
          have OW := hide ((unhide O2).keep qa)
          have AP := hide (lit_flts w2 23 [r] #[.float .f64 r] w2.heap.size 1 rfl rfl rfl (by intro y hy; cases List.mem_singleton.1 hy; exact unhide WR) (by decide))
          have RM : Hid ((ps.length + [r].length) * 8 ≤ 140737488351232) := by unfold Hid; rw [(unhide HP).1, List.length_singleton]; omega
          have BS : Hid (w1.heap.size ≤ (w2.alloc (.cells #[.float .f64 r] 23)).heap.size) := ((unhide K2).trans qa).size
          have QA := hide ((unhide K2).trans qa)
          clear qa
          go_wp2_with (at_builtin; go_must (refine wpList_append_flts_at _ rfl (.tmp 51) (.tmp 53) 22 rfl w1.heap.size 23 (unhide INFO) Try.underlying22 _ _ ps [r] rfl rfl (unhide OW) (unhide AP) (unhide RM) (unhide BS) ?_); intro v3 w3 o3 g3)
          have q3 : Kp w1 w3 := Kp.of_grown (unhide QA) g3 (fun k hk => (unhide OW).block k hk)
          have O3 := hide o3
          have Q3 := hide q3
          clear o3 q3 g3 OW AP RM BS QA O2 K2
          go_wp2_with fail
          refine (plus_any rs r _).mono ?_
          rintro e w4 ⟨r4, rfl, ⟨c4, -⟩, -, k4⟩
          have C4 := hide c4
          have O4 := hide ((unhide O3).keep k4)
          have Q4 := hide ((unhide Q3).trans k4)
          clear c4 k4 O3 Q3
          go_wp2
          go_roundw
          case rel =>
            refine ⟨k + 1, r4, ps ++ [r], by omega, by go_num, rfl, ⟨?_, ?_, ?_⟩, unhide O4, unhide Q4⟩
            · rw [List.length_append, (unhide HP).1]; rfl
            · intro p hp
              rcases List.mem_append.1 hp with h | h
              · exact (unhide HP).2.1 p h
              · cases List.mem_singleton.1 h; exact unhide WR
            · rw [unhide C4, rowC_snoc]; exact adC_cn_l r (unhide HP).2.2
          case measure => simp [intOf]; omega
        · have U := hide ((unhide HO).flts (unhide HP).2.1 (by rw [(unhide HP).1]; omega))
          clear HO
          go_wp2_with fail
          refine (row_any _ ps _ (unhide U)).mono ?_
          rintro e w2 ⟨r2, rfl, ⟨c2, -⟩, -, k2⟩
          have C2 := hide c2
          have K2 := hide (((unhide K1).trans (unhide HK)).trans k2)
          clear c2 k2
          go_wp2_with fail
          refine (same_any r2 rs _).mono ?_
          rw [same_of (unhide C2) (unhide HP).2.2]
          rintro e w3 ⟨rfl, rfl⟩
          go_wp2
          go_ret
          exact ⟨rfl, unhide K2⟩
    · go_enter Try.func8, Try.ntmps8
      go_wp2_with fail
      refine (awake_any w).mono ?_
      rintro e w1 ⟨rfl, k1⟩
      go_wp2
      go_ret
      exact ⟨rfl, k1⟩
  · have hd : ((l0 : Int) != (l1 : Int)) = true := by rw [bne_iff_ne]; omega
    go_enter Try.func8, Try.ntmps8
    go_wp2_with fail
    refine (awake_any w).mono ?_
    rintro e w1 ⟨rfl, k1⟩
    go_wp2
    go_ret
    exact ⟨rfl, k1⟩

end Go.Proofs.Ytblhafibcnokdaa
