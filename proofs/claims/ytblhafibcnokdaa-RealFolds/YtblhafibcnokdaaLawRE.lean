/- The walk of the law on whole numbers. -/
import Derived.Test.YtblhafibcnokdaaLawRD
import Derived.Test.YtblhafibcnokdaaFInt
namespace Go.Proofs.Ytblhafibcnokdaa
open Go.RowKit

/-- a slice of integers of a kind, that came in -/
def RowK (k : IntKind) (w : World) (a : Option Addr) (n : Nat) (zs : List Int) : Prop :=
  zs.length = n ∧ (∀ z ∈ zs, (Lit.int k z).wf = true) ∧ ∀ i, i < n → ∃ b off, a = some ⟨b, off, none⟩ ∧ b < w.heap.size ∧ w.cell? ⟨b, off + i, none⟩ = some (.int k (zs.getD i 0))

theorem RowK.cell {k : IntKind} {w w' : World} {a : Option Addr} {n : Nat} {zs : List Int} (h : RowK k w a n zs) (kp : Kp w w') {i : Nat} (hi : i < n) : ∃ b off, a = some ⟨b, off, none⟩ ∧ w'.cell? ⟨b, off + i, none⟩ = some (.int k (zs.getD i 0)) := by
  obtain ⟨b, off, rfl, hb, hc⟩ := h.2.2 i hi
  exact ⟨b, off, rfl, (Below.cell kp (p := ⟨b, off + i, none⟩) hb).trans hc⟩

theorem RowK.getD {k : IntKind} {w : World} {a : Option Addr} {n : Nat} {zs : List Int} (h : RowK k w a n zs) {i : Nat} (hi : i < n) : (Lit.int k (zs.getD i 0)).wf = true := by
  have hl : i < zs.length := by rw [h.1]; exact hi
  have e : zs.getD i 0 = zs[i] := by simp [hl]
  rw [e]
  exact h.2.1 _ (List.getElem_mem hl)

theorem wf_i16 {z : Int} (h : (Lit.int .i16 z).wf = true) : -32768 ≤ z ∧ z ≤ 32767 := by
  simp only [Lit.wf, Bool.and_eq_true, decide_eq_true_eq] at h
  have e1 : IntKind.i16.min = -32768 := by decide
  have e2 : IntKind.i16.max = 32767 := by decide
  omega

theorem sumI_take {zs : List Int} {k : Nat} (h : k < zs.length) : sumI (zs.take (k + 1)) = sumI (zs.take k) + zs.getD k 0 := by
  rw [List.take_add_one, show zs[k]? = some (zs.getD k 0) by simp [h], sumI_append]
  simp [sumI]
theorem map_take {f : Int → Nat} {zs : List Int} {k : Nat} (h : k < zs.length) : (zs.take (k + 1)).map f = (zs.take k).map f ++ [f (zs.getD k 0)] := by
  rw [List.take_add_one, show zs[k]? = some (zs.getD k 0) by simp [h], List.map_append]
  rfl
theorem ofI_w64 (z : Int) : W64 (ofI z) := DD.nearest_lt _ _ _

set_option maxHeartbeats 1000000 in
theorem whole_walk (a0 : Option Addr) (l0 c0 : Nat) (zs : List Int) (w : World) (m0 : l0 ≤ 9223372036854775807)
    (h0 : l0 ≤ 1000000 → RowK .i16 w a0 l0 zs) :
    Calls Try.prog 4 #[.slice a0 l0 c0] w fun e w' => e = .returned (.bool true) ∧ Kp w w' := by
  have H0 := hide h0
  have INFO := hide info_flt
  clear h0
  by_cases g0 : l0 ≤ 1000
  · have A0 := hide (unhide H0 (by omega))
    clear H0
    go_enter Try.func4, Try.ntmps4
    go_wp2_with fail
    refine (awake_any w).mono ?_
    rintro e w1 ⟨rfl, k1⟩
    have K1 := hide k1
    clear k1
    go_wp2
    go_loopw [3, 4, 5] (fun nn xv i wr => ∃ (k : Nat), k ≤ l0 ∧ i = .int .i64 k ∧ nn = .int .i64 (sumI (zs.take k)) ∧ OwnF wr 23 w1.heap.size xv ((zs.take k).map ofI) ∧ Kp w1 wr) (fun _ _ i _ => l0 - (intOf i).toNat)
    case atStart => exact ⟨0, Nat.zero_le _, rfl, rfl, OwnF.nil _ _ _, Kp.refl _⟩
    case round =>
      obtain ⟨k, hk, rfl, rfl, ho, hkp⟩ := hrel
      have HO := hide ho
      have HK := hide hkp
      clear ho hkp
      have hzl := (unhide A0).1
      have hb : Hid (∀ j, (sumI (zs.take j)).natAbs ≤ 32768 * 1000) := fun j => Nat.le_trans (sumI_bound (B := 32768) (fun x hx => by have := wf_i16 ((unhide A0).2.1 x (List.mem_of_mem_take hx)); omega)) (Nat.mul_le_mul_left _ (by rw [List.length_take]; omega))
      by_cases hlt : k < l0
      · obtain ⟨b, off, rfl, hck⟩ := (unhide A0).cell ((unhide K1).trans (unhide HK)) hlt
        have hz := wf_i16 ((unhide A0).getD hlt)
        have E1 := hide (sumI_take (zs := zs) (k := k) (by omega))
        have E2 := hide (map_take (f := ofI) (zs := zs) (k := k) (by omega))
        have LN : Hid (((zs.take k).map ofI).length = k) := by unfold Hid; rw [List.length_map, List.length_take]; omega
        have hs : -32768000 ≤ sumI (zs.take k) ∧ sumI (zs.take k) ≤ 32768000 := by have := unhide hb k; omega
        clear hzl
        generalize zs.getD k 0 = z at *
        generalize hS : sumI (zs.take k) = S at *
        have HS := hide hS
        clear hS
        have qa := Kp.alloc wr (.cells #[.float .f64 (floatOfInt .f64 z)] 23)
        have OW := hide ((unhide HO).keep qa)
        have AP : Hid (Flts (wr.alloc (.cells #[.float .f64 (floatOfInt .f64 z)] 23)) (.slice (some ⟨wr.heap.size, 0, none⟩) 1 1) [ofI z]) := lit_flts wr 23 [ofI z] #[.float .f64 (ofI z)] wr.heap.size 1 rfl rfl rfl (by intro y hy; cases List.mem_singleton.1 hy; exact ofI_w64 z) (by decide)
        have RM : Hid ((((zs.take k).map ofI).length + [ofI z].length) * 8 ≤ 140737488351232) := by unfold Hid; rw [unhide LN, List.length_singleton]; omega
        have BS : Hid (w1.heap.size ≤ (wr.alloc (.cells #[.float .f64 (floatOfInt .f64 z)] 23)).heap.size) := ((unhide HK).trans qa).size
        have QA := hide ((unhide HK).trans qa)
        clear qa
        go_wp2_with (at_builtin; go_must (refine wpList_append_flts_at _ rfl (.tmp 24) (.tmp 30) 22 rfl w1.heap.size 23 (unhide INFO) Try.underlying22 _ _ ((zs.take k).map ofI) [ofI z] rfl rfl (unhide OW) (unhide AP) (unhide RM) (unhide BS) ?_); intro v2 w2 o2 g2)
        have q2 : Kp w1 w2 := Kp.of_grown (unhide QA) g2 (fun k hk => (unhide OW).block k hk)
        have O2 := hide o2
        have Q2 := hide q2
        clear o2 q2 g2 OW AP RM BS QA
        go_wp2
        go_roundw
        case rel => exact ⟨k + 1, by omega, by go_num, by rw [unhide E1], by rw [unhide E2]; exact unhide O2, unhide Q2⟩
        case measure => simp [intOf]; omega
      · have E : Hid (zs.take k = zs) := List.take_of_length_le (by omega)
        have hS := unhide hb k
        rw [unhide E] at HO hS ⊢
        have U := hide ((unhide HO).flts (fun x hx => by obtain ⟨z, _, rfl⟩ := List.mem_map.1 hx; exact ofI_w64 z) (by rw [List.length_map]; omega))
        have RU : Hid (Roomy _) := (unhide HO).lens
        have EF := hide (foldC_ofI (B := 32768) 1000 (by decide) zs (by omega) (fun x hx => by have := wf_i16 ((unhide A0).2.1 x hx); omega))
        have ER := hide (rowC_ofI (B := 32768) 1000 (by decide) zs (by omega) (fun x hx => by have := wf_i16 ((unhide A0).2.1 x hx); omega))
        have hq : (FloatKind.f64.format.order (floatOfInt .f64 (sumI zs)) (floatOfInt .f64 (sumI zs)) == some .eq) = true := by
          have := order_self (ofI (sumI zs))
          rw [nan_ofI] at this
          exact this
        have HL : Hid (zs.length = l0) := hzl
        clear HO hzl
        go_wp2_with fail
        refine (num_of (L := floatOfInt .f64 (sumI zs)) (fold_any _ (zs.map ofI) _ (unhide U) (unhide RU)) (unhide EF) (nan_ofI _)).mono ?_
        rintro e w2 ⟨rfl, k2⟩
        have U2 := hide ((unhide U).keep k2)
        have K2 := hide ((unhide HK).trans k2)
        clear U k2
        go_wp2_with fail
        refine (num_of (L := floatOfInt .f64 (sumI zs)) (row_any _ (zs.map ofI) _ (unhide U2)) (unhide ER) (nan_ofI _)).mono ?_
        rintro e w3 ⟨rfl, k3⟩
        have K3 := hide (((unhide K1).trans (unhide K2)).trans k3)
        clear k3
        go_wp2
        go_ret
        exact ⟨rfl, unhide K3⟩
  · go_enter Try.func4, Try.ntmps4
    go_wp2_with fail
    refine (awake_any w).mono ?_
    rintro e w1 ⟨rfl, k1⟩
    go_wp2
    go_ret
    exact ⟨rfl, k1⟩

end Go.Proofs.Ytblhafibcnokdaa
