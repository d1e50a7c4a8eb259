
/- Contracts of what broadcasts numbers: sources, spread, paired. -/
import Derived.Test.YtcegkaemcjlfgaaKerA
import Derived.Test.YtcegkaemcjlfgaaTenJ
import Derived.Test.YtcegkaemcjlfgaaRealB
namespace Go.Proofs.Ytcegkaemcjlfgaa
open Go.RowKit

theorem dotP_zero : ∀ (ss r : List Int), dotP ss r 0 = 0
  | [], _ => by simp [dotP]
  | _ :: _, [] => by simp [dotP]
  | st :: ss, n :: r => by simp [dotP, dotP_zero ss r]
theorem srcR_sub {r ss l : List Int} (hl : ss.length = r.length) (hp : Pos r) : ∀ x ∈ l, x ∈ srcR l ss r := by
  intro x hx
  obtain ⟨i, hi, rfl⟩ := List.mem_iff_getElem.1 hx
  have h := srcR_spec r ss l hl hp
  have hr := prodL_pos hp
  have h2 := h.2 i 0 hi (by omega)
  rw [show ((0 : Nat) : Int) = 0 from rfl, dotP_zero, Int.add_zero, getD_at hi, Nat.add_zero] at h2
  have hlt : i * (prodL r).toNat < (srcR l ss r).length := by
    rw [h.1]
    exact (Nat.mul_lt_mul_right (by omega)).2 hi
  rw [← h2, getD_at hlt]
  exact List.getElem_mem _
theorem srcR_step {t ss xs : List Int} {k n : Nat} (hk : k < t.length) (hs : k < ss.length) (hn : t.getD k 0 = (n : Int)) : srcR xs (ss.drop k) (t.drop k) = srcR (onw xs n (ss.getD k 0)) (ss.drop (k + 1)) (t.drop (k + 1)) := by
  rw [drop_cons hk, drop_cons hs, hn]
  simp [srcR]

set_option maxHeartbeats 1000000 in
theorem sources_any (v u : Value) (f t : List Int) (w : World) (h : Ints w v f) (h' : Ints w u t) (hi : intoB f t = true) :
    Calls Try.prog 37 #[v, u] w fun e w' => ∃ a c, e = .returned (.slice a (srcL f t).length c) ∧ Ints w' (.slice a (srcL f t).length c) (srcL f t) ∧ Fresh w (.slice a (srcL f t).length c) ∧ Kp w w' := by
  have H := hide h
  have H' := hide h'
  obtain ⟨m1, m2, hl, -⟩ := into_spec hi
  have SB : Hid (∀ x ∈ srcL f t, 0 ≤ x ∧ x ≤ 4096) := fun x hx => by have := srcL_bounds hi x hx; have := may_prod m1; omega
  have PT := hide (may_good m2).2
  have MP := hide (may_prod m2)
  have ht : t.length ≤ 4 := (may_good m2).1
  have E0 := hide (srcL_is (f := f) (PT) hl)
  have SW := hide (stpP_wf t m1)
  have M1 := hide m1
  have SL : Hid ((stp (padL f t)).length = t.length) := by unfold Hid; rw [stp_length, padL_length hl]
  obtain ⟨a, cap, rfl, -⟩ := h.val
  obtain ⟨a', cap', rfl, hv'⟩ := h'.val
  have HV' := hide hv'
  clear h h' hv' hi m1 m2
  go_enter Try.func37, Try.ntmps37
  go_wp2_with fail
  have L0 := hide (lit_ints w 3 [0] #[.int .i64 0] w.heap.size 1 rfl rfl rfl (by unfold I64; decide) (by decide))
  have K0 := hide (Kp.alloc w (.cells #[.int .i64 0] 3))
  have F0 : Hid (Fresh w (.slice (some ⟨w.heap.size, 0, none⟩) 1 1)) := Fresh.mk (Nat.le_refl _)
  generalize w.alloc (.cells #[.int .i64 0] 3) = w0 at *
  generalize w.heap.size = B at L0 F0 ⊢
  refine (steps_any _ _ f t w0 ((unhide H).keep (unhide K0)) ((unhide H').keep (unhide K0)) (unhide M1) hl ht).mono ?_
  rintro e w1 ⟨u1, rfl, hu1, k1⟩
  obtain ⟨q, capq, rfl, HQ⟩ := hu1.opn (unhide SL)
  have L1 := hide ((unhide L0).keep k1)
  have K1 := hide ((unhide K0).trans k1)
  clear hu1 k1 L0 K0
  go_wp2
  go_loopw [5, 13] (fun l i wr => ∃ (k : Nat) (xs : List Int), k ≤ t.length ∧ i = .int .i64 k ∧ Hid (Ints wr l xs) ∧ Hid (srcR xs ((stp (padL f t)).drop k) (t.drop k) = srcL f t) ∧ Hid ((xs.length : Int) = prodL (t.take k)) ∧ Hid (Fresh w l) ∧ Hid (Kp w1 wr)) (fun _ i _ => t.length - (intOf i).toNat)
  case atStart => exact ⟨0, [0], Nat.zero_le _, rfl, unhide L1, by simpa using E0, rfl, unhide F0, Kp.refl _⟩
  case round =>
    obtain ⟨k, xs, hk, rfl, XS, ES, EL, FR, KR⟩ := hrel
    by_cases hlt : k < t.length
    · obtain ⟨b, off, rfl, hb, hc⟩ := unhide HV' (by omega)
      obtain ⟨bq, offq, rfl, hbq, hcq⟩ := unhide HQ (by omega)
      have hck := (Below.cell ((unhide K1).trans (unhide KR)) (p := ⟨b, off + k, none⟩) hb).trans (hc k hlt)
      have hcq' := (Below.cell (unhide KR) (p := ⟨bq, offq + k, none⟩) hbq).trans (hcq k hlt)
      have p1 := (unhide PT).getD hlt
      have p2 := getD_le_prodL (unhide PT) hlt
      have p3 := unhide MP
      have p4 := prodL_take_le (unhide PT) k
      have p5 := prodL_take_le (unhide PT) (k + 1)
      have e5 := prodL_take hlt
      obtain ⟨n, hn⟩ := Int.eq_ofNat_of_zero_le (show 0 ≤ t.getD k 0 by omega)
      have hsl : k < (stp (padL f t)).length := by rw [unhide SL]; exact hlt
      have EN := hide (srcR_step (xs := xs) hlt hsl hn)
      have hst := unhide SW ((stp (padL f t)).getD k 0) (by rw [getD_at hsl]; exact List.getElem_mem _)
      have XB : Hid (∀ x ∈ xs, 0 ≤ x ∧ x ≤ 4096) := fun x hx => unhide SB x (by rw [← unhide ES]; exact srcR_sub (by rw [List.length_drop, List.length_drop, unhide SL]) ((unhide PT).drop k) x hx)
      have n1 : n ≤ 4096 := by omega
      have l1 : xs.length ≤ 4096 := by have := unhide EL; omega
      have l2 : xs.length * n ≤ 4096 := by
        rw [hn, ← unhide EL] at e5
        have : ((xs.length * n : Nat) : Int) ≤ 4096 := by rw [Int.natCast_mul, ← e5]; omega
        omega
      have EL' : Hid (((onw xs n ((stp (padL f t)).getD k 0)).length : Int) = prodL (t.take (k + 1))) := by
        unfold Hid
        rw [onw_length, e5, hn, ← unhide EL, Int.natCast_mul]
      have CC := hide (onward_any _ xs n ((stp (padL f t)).getD k 0) wr (unhide XS) (unhide XB) n1 hst l1 l2)
      rw [hn] at hck
      rw [unhide EN] at ES
      clear hc hcq p1 p2 p3 p4 p5 e5 hn hsl l1 l2 EN EL XB
      obtain ⟨b2, c2, rfl, -⟩ := (unhide XS).val
      generalize (stp (padL f t)).getD k 0 = st at *
      generalize xs.length = m at *
      go_wp2_with fail
      refine (unhide CC).mono ?_
      rintro e w2 ⟨u2, rfl, o2, k2⟩
      have X2 : Hid (Ints w2 u2 (onw xs n st)) := by
        refine o2.ints ?_ ?_
        · intro x hx
          have := unhide SB x (by rw [← unhide ES]; exact srcR_sub (by rw [List.length_drop, List.length_drop, unhide SL]) ((unhide PT).drop (k + 1)) x hx)
          unfold I64
          omega
        · have h1 := unhide EL'
          have h2 := prodL_take_le (unhide PT) (k + 1)
          have h3 := unhide MP
          omega
      have K2 := hide ((unhide KR).trans k2)
      have F2 : Hid (Fresh w u2) := o2.fresh ((unhide K1).trans (unhide KR)).size
      clear o2 k2 CC
      go_wp2
      go_roundw
      case rel => exact ⟨k + 1, _, by omega, by go_num, unhide X2, unhide ES, unhide EL', unhide F2, unhide K2⟩
      case measure => simp [intOf]; omega
    · obtain rfl : k = t.length := by omega
      rw [List.drop_of_length_le (l := t) (Nat.le_refl _)] at ES
      have EX : Hid (xs = srcL f t) := by
        have := unhide ES
        unfold Hid
        rw [← this]
        simp [srcR]
      obtain ⟨b2, c2, rfl, -⟩ := (unhide XS).val
      rw [unhide EX] at XS FR ⊢
      go_wp2
      go_ret
      exact ⟨_, _, rfl, unhide XS, unhide FR, (unhide K1).trans (unhide KR)⟩

/-- the numbers of d, broadcast -/
def sprD (f t : List Int) (d : List Nat) : List Nat := (srcL f t).map fun j => d.getD j.toNat 0
theorem sprD_length (f t : List Int) (d : List Nat) : (sprD f t d).length = (srcL f t).length := by simp [sprD]
theorem sprD_getD {f t : List Int} {d : List Nat} {k : Nat} (h : k < (srcL f t).length) : (sprD f t d).getD k 0 = d.getD ((srcL f t).getD k 0).toNat 0 := by
  simp [sprD, h]
/-- a row that is filled from its beginning -/
def upK (ys : List Nat) (k : Nat) : List Nat := ys.take k ++ List.replicate (ys.length - k) 0
theorem upK_zero (ys : List Nat) : upK ys 0 = List.replicate ys.length 0 := by simp [upK]
theorem upK_all (ys : List Nat) : upK ys ys.length = ys := by simp [upK]
theorem upK_length (ys : List Nat) {k : Nat} (h : k ≤ ys.length) : (upK ys k).length = ys.length := by simp [upK]; omega
theorem upK_set {ys : List Nat} {k : Nat} (h : k < ys.length) : (upK ys k).set k (ys.getD k 0) = upK ys (k + 1) := by
  unfold upK
  rw [List.set_append_right _ _ (by simp; omega), List.length_take, Nat.min_eq_left (by omega), Nat.sub_self, show ys.length - k = (ys.length - (k + 1)) + 1 by omega, List.replicate_succ (n := ys.length - (k + 1)), List.set_cons_zero, take_snocN h]
  simp
theorem getD_w64 {d : List Nat} (h : ∀ x ∈ d, W64 x) (k : Nat) : W64 (d.getD k 0) := by
  by_cases hk : k < d.length
  · have : d.getD k 0 = d[k] := by simp [hk]
    rw [this]
    exact h _ (List.getElem_mem _)
  · have : d.getD k 0 = 0 := by simp [Nat.le_of_not_lt hk]
    rw [this]
    exact w64_0
theorem sprD_wf {f t : List Int} {d : List Nat} (h : ∀ x ∈ d, W64 x) : ∀ x ∈ sprD f t d, W64 x := by
  intro x hx
  obtain ⟨j, _, rfl⟩ := List.mem_map.1 hx
  exact getD_w64 h _

set_option maxHeartbeats 1000000 in
theorem kspread_any (sv dv u : Value) (f t : List Int) (d : List Nat) (w : World) (h : Ints w sv f) (hd : Flts w dv d) (h' : Ints w u t) (hi : intoB f t = true) (hl : (d.length : Int) = prodL f) :
    Calls Try.prog 21 #[.agg #[sv, dv], u] w fun e w' => ∃ G, e = .returned (.slice (some ⟨G, 0, none⟩) (sprD f t d).length (sprD f t d).length) ∧ w.heap.size ≤ G ∧ BlkF w' 38 G (sprD f t d) ∧ Kp w w' := by
  have H := hide h
  have HD := hide hd
  have H' := hide h'
  have HI := hide hi
  have SB := hide (srcL_bounds hi)
  have hsn : (srcL f t).length ≤ 4096 := by
    have := may_prod (into_spec hi).2.1
    rw [srcL_length]; omega
  have HL := hide hl
  have hr := hd.room
  obtain ⟨p, cp, rfl, hv⟩ := hd.val
  have HV := hide hv
  obtain ⟨p2, cp2, rfl, -⟩ := h.val
  obtain ⟨p3, cp3, rfl, -⟩ := h'.val
  have hmk := mk_flts (srcL f t).length (by omega)
  have ELN := hide (sprD_length f t d)
  have EG : Hid (∀ k, k < (srcL f t).length → (sprD f t d).getD k 0 = d.getD ((srcL f t).getD k 0).toNat 0) := fun k hk => sprD_getD hk
  clear h hd h' hi hl hv
  go_enter Try.func21, Try.ntmps21
  go_wp2_with fail
  obtain ⟨W, hW, x1, k0⟩ := box_in w (.slice p2 f.length cp2) (.slice p d.length cp)
  rw [← hW]
  clear hW
  have X1 := hide x1
  have K0 := hide k0
  clear x1 k0
  generalize w.heap.size = B at X1 ⊢
  refine (sources_any _ _ f t W ((unhide H).keep (unhide K0)) ((unhide H').keep (unhide K0)) (unhide HI)).mono ?_
  rintro e w1 ⟨a1, c1, rfl, hs1, -, k1⟩
  have X2 := hide ((unhide X1).keep k1)
  have K1 := hide ((unhide K0).trans k1)
  obtain ⟨y, cy, ey, hq⟩ := hs1.val
  injection ey with e1 e2 e3
  subst e1 e3
  have HQ := hide hq
  clear hs1 k1 X1 K0 hq e2
  go_wp2_with fail
  clear hmk
  have B0 := hide (BlkF.made w1 38 (srcL f t).length)
  have KA := hide (Kp.alloc w1 (.cells (madeCells #[.float .f64 0] (srcL f t).length) 38))
  have hGB : ¬ B = w1.heap.size := by have := (unhide X2).lt; omega
  have hGS : Hid (w.heap.size ≤ w1.heap.size) := (unhide K1).size
  have HQB : Hid (∀ b, b < w1.heap.size → ¬ b = w1.heap.size) := by intro b hb; omega
  generalize w1.alloc (.cells (madeCells #[.float .f64 0] (srcL f t).length) 38) = w2 at *
  have HVB : Hid (∀ b, b < w.heap.size → ¬ b = w1.heap.size) := by intro b hb; have := (unhide K1).size; omega
  generalize hG : w1.heap.size = G at B0 hGB hGS HQB HVB ⊢
  have LQ : Hid (∀ b, b < w1.heap.size → b < w2.heap.size) := by intro b hb; have := (unhide KA).size; omega
  have HQB' : Hid (∀ b, b < w1.heap.size → ¬ b = G) := by intro b hb; omega
  clear hG HQB
  rw [← unhide ELN, ← upK_zero] at B0
  have hst : ∀ (a : Addr) (x : Nat) (w : World), (store a (.float .f64 x)).run Try.prog w = stored Try.prog w a (.float .f64 x) .plain := fun a x w => run_store _ w a _ _ rfl
  generalize hN : (srcL f t).length = N at *
  go_wp2
  go_loopw [18] (fun i wr => ∃ k : Nat, k ≤ N ∧ i = .int .i64 k ∧ Hid (BlkF wr 38 G (upK (sprD f t d) k)) ∧ Hid (Kx G w2 wr)) (fun i _ => N - (intOf i).toNat)
  case atStart => exact ⟨0, Nat.zero_le _, rfl, unhide B0, Kx.refl _ _⟩
  case round =>
    obtain ⟨k, hk, rfl, BL, KX⟩ := hrel
    have xb := ((unhide X2).keep (unhide KA)).keepx (unhide KX) hGB
    obtain ⟨x0, x1, -, -, -⟩ := xb.o
    clear xb
    by_cases hlt : k < N
    · obtain ⟨bq, offq, rfl, hbq, hcq⟩ := unhide HQ (by omega)
      have hcq' : wr.cell? ⟨bq, offq + k, none⟩ = some (.int .i64 ((srcL f t).getD k 0)) := ((unhide KX).cell (p := ⟨bq, offq + k, none⟩) (unhide LQ bq hbq) (unhide HQB' bq hbq)).trans ((Below.cell (unhide KA) (p := ⟨bq, offq + k, none⟩) hbq).trans (hcq k (by omega)))
      have hb2 := unhide SB ((srcL f t).getD k 0) (by rw [getD_at (by omega)]; exact List.getElem_mem _)
      have EGk := unhide EG k (by omega)
      obtain ⟨j, hj⟩ := Int.eq_ofNat_of_zero_le hb2.1
      rw [hj] at hcq' hb2 EGk
      rw [Int.toNat_natCast] at EGk
      have hjd : j < d.length := by have := unhide HL; omega
      obtain ⟨b, off, rfl, hb, hc⟩ := unhide HV (by omega)
      have hck : wr.cell? ⟨b, off + j, none⟩ = some (.float .f64 (d.getD j 0)) := ((unhide KX).cell (p := ⟨b, off + j, none⟩) (Nat.lt_of_lt_of_le hb ((unhide K1).trans (unhide KA)).size) (unhide HVB b hb)).trans ((Below.cell ((unhide K1).trans (unhide KA)) (p := ⟨b, off + j, none⟩) hb).trans (hc j hjd))
      have hcell := (unhide BL).cell (i := k) (by rw [upK_length _ (by rw [unhide ELN]; omega), unhide ELN]; exact hlt)
      have hfro := (unhide BL).frozen k
      have BW := hide ((unhide BL).set k ((sprD f t d).getD k 0))
      rw [upK_set (by rw [unhide ELN]; exact hlt), EGk] at BW
      have KW := hide ((unhide KX).set k (.float .f64 (d.getD j 0)))
      clear hc hcq EGk hj BL
      generalize (upK (sprD f t d) k).getD k 0 = old at *
      generalize d.getD j 0 = x at *
      go_wp2
      go_roundw
      case rel => exact ⟨k + 1, by omega, by go_num, unhide BW, unhide KW⟩
      case measure => simp [intOf]; omega
    · have hkN : k = (sprD f t d).length := by rw [unhide ELN]; omega
      rw [hkN, upK_all] at BL
      have KF := hide (Kx.after ((unhide K1).trans (unhide KA)) (unhide KX) (unhide hGS))
      go_wp2
      go_ret
      rw [unhide ELN]
      exact ⟨_, rfl, unhide hGS, unhide BL, unhide KF⟩

end Go.Proofs.Ytcegkaemcjlfgaa
