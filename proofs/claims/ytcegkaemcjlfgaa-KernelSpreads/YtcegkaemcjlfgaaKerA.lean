
/- Contracts of what tells the sources of a broadcast: onward, steps, sources. -/
import Derived.Test.YtcegkaemcjlfgaaStri
import Derived.Test.YtcegkaemcjlfgaaKPure
namespace Go.Proofs.Ytcegkaemcjlfgaa
open Go.RowKit

theorem mk_room (m : Nat) (hm : m * 8 ≤ 140737488351232) (w : World) :
    (Instr.makeSlice 22 (.int .i64 0) (.int .i64 m)).run Try.prog w = .ok (.slice (some ⟨w.heap.size, 0, none⟩) 0 m) (w.alloc (.cells (madeCells #[.int .i64 0] m) 3)) := by
  obtain ⟨i0, hi, hz0, hz1, hz2⟩ := info_parts Try.infoInt
  have h := run_make (P := Try.prog) w 22 3 i0 (.int .i64 0) Try.underlying22 hi hz0 .i64 .i64 0 m (by omega) (by omega) (by rw [hz2]; omega) (by omega)
  rw [hz1] at h
  simpa [Value.cells] using h

theorem Own.made (w : World) (e : TypeId) (m base : Nat) (hb : base ≤ w.heap.size) (hm : m ≤ maxLen) : Own (w.alloc (.cells (madeCells #[.int .i64 0] m) e)) e base (.slice (some ⟨w.heap.size, 0, none⟩) 0 m) [] := by
  refine ⟨by simp, .inr ⟨w.heap.size, m, madeCells #[.int .i64 0] m, rfl, hb, ?_, Nat.zero_le _, hm, by simp [madeCells], by simp⟩⟩
  simp only [World.alloc, Array.getElem?_push_size]

theorem onw_nil (n : Nat) (st : Int) : onw [] n st = [] := rfl

set_option maxHeartbeats 1000000 in
theorem onward_any (v : Value) (xs : List Int) (n : Nat) (st : Int) (w : World) (h : Ints w v xs) (hx : ∀ x ∈ xs, 0 ≤ x ∧ x ≤ 4096) (hn : n ≤ 4096) (hs : 0 ≤ st ∧ st ≤ 4096) (hl : xs.length ≤ 4096) (hm : xs.length * n ≤ 4096) :
    Calls Try.prog 57 #[v, .int .i64 n, .int .i64 st] w fun e w' => ∃ u, e = .returned u ∧ Own w' 3 w.heap.size u (onw xs n st) ∧ Kp w w' := by
  have INFO := hide Try.infoInt
  have HX := hide hx
  obtain ⟨a, cap, rfl, hv⟩ := h.val
  have HV := hide hv
  have HM := hide hm
  have hp1 : ((n : Int) * (xs.length : Int)) = ((xs.length * n : Nat) : Int) := by rw [Int.natCast_mul, Int.mul_comm]
  have hp2 : 0 ≤ (n : Int) * (xs.length : Int) := by rw [hp1]; omega
  have hp3 : (n : Int) * (xs.length : Int) ≤ 4096 := by rw [hp1]; omega
  have hmk : ∀ w, (Instr.makeSlice 22 (.int .i64 0) (.int .i64 ((n : Int) * (xs.length : Int)))).run Try.prog w = .ok (.slice (some ⟨w.heap.size, 0, none⟩) 0 (xs.length * n)) (w.alloc (.cells (madeCells #[.int .i64 0] (xs.length * n)) 3)) := fun w => by rw [hp1]; exact mk_room _ (by omega) w
  clear h hv hx hm hp1
  go_enter Try.func57, Try.ntmps57
  go_wp2
  have OW0 := hide (Own.made w 3 (xs.length * n) w.heap.size (Nat.le_refl _) (by have := unhide HM; unfold maxLen; omega))
  have K0 := hide (Kp.alloc w (.cells (madeCells #[.int .i64 0] (xs.length * n)) 3))
  clear hmk hp2 hp3
  generalize w.alloc (.cells (madeCells #[.int .i64 0] (xs.length * n)) 3) = w0 at *
  go_loopw [7, 18] (fun u i wr => ∃ k : Nat, k ≤ xs.length ∧ i = .int .i64 k ∧ Hid (Own wr 3 w.heap.size u (onw (xs.take k) n st)) ∧ Hid (Kp w wr)) (fun _ i _ => xs.length - (intOf i).toNat)
  case atStart => exact ⟨0, Nat.zero_le _, rfl, unhide OW0, unhide K0⟩
  case round =>
    obtain ⟨k, hk, rfl, OW, KW⟩ := hrel
    generalize wr = w1 at *
    by_cases hlt : k < xs.length
    · obtain ⟨b, off, rfl, hb, hc⟩ := unhide HV (by omega)
      have hck := (Below.cell (unhide KW) (p := ⟨b, off + k, none⟩) hb).trans (hc k hlt)
      have hxk := unhide HX (xs.getD k 0) (by rw [getD_at hlt]; exact List.getElem_mem _)
      have ET := hide (onw_take n st hlt)
      have LB : Hid ((onw (xs.take k) n st).length + n ≤ 4096) := by
        unfold Hid
        have := unhide HM
        have h2 : (k + 1) * n ≤ xs.length * n := Nat.mul_le_mul_right n hlt
        rw [onw_length, List.length_take, Nat.min_eq_left (by omega)]
        rw [Nat.add_mul] at h2
        omega
      clear hc
      generalize xs.getD k 0 = x at *
      go_wp2
      go_loopw [7, 23] (fun u i wr => ∃ j : Nat, j ≤ n ∧ i = .int .i64 j ∧ Hid (Own wr 3 w.heap.size u (onw (xs.take k) n st ++ runL x j st)) ∧ Hid (Kp w wr)) (fun _ i _ => n - (intOf i).toNat)
      case atStart => exact ⟨0, Nat.zero_le _, rfl, by simpa [runL] using OW, unhide KW⟩
      case round =>
        obtain ⟨j, hj, rfl, OI, KI⟩ := hrel
        by_cases hlj : j < n
        · have p1 : 0 ≤ (j : Int) * st := Int.mul_nonneg (by omega) hs.1
          have p2 : (j : Int) * st ≤ 4096 * 4096 := by
            have := Int.mul_le_mul (show (j : Int) ≤ 4096 by omega) hs.2 hs.1 (by omega)
            omega
          have ER := hide (runL_succ x j st)
          have qa := Kp.alloc wr (.cells #[.int .i64 (x + (j : Int) * st)] 3)
          have OW' := hide ((unhide OI).keep qa)
          have AP : Hid (Ints (wr.alloc (.cells #[.int .i64 (x + (j : Int) * st)] 3)) (.slice (some ⟨wr.heap.size, 0, none⟩) 1 1) [x + (j : Int) * st]) := lit_ints wr 3 [x + (j : Int) * st] #[.int .i64 (x + (j : Int) * st)] wr.heap.size 1 rfl rfl rfl (by intro z hz; rw [List.mem_singleton.1 hz]; unfold I64; omega) (by decide)
          have RM : Hid (((onw (xs.take k) n st ++ runL x j st).length + [x + (j : Int) * st].length) * 8 ≤ 140737488351232) := by
            have := unhide LB
            unfold Hid; rw [List.length_append, runL_length, List.length_singleton]; omega
          have BS : Hid (w.heap.size ≤ (wr.alloc (.cells #[.int .i64 (x + (j : Int) * st)] 3)).heap.size) := ((unhide KI).trans qa).size
          have QA := hide ((unhide KI).trans qa)
          clear qa
          go_wp2_with (at_builtin; go_must (refine wpList_append_ints _ rfl (.tmp 26) (.tmp 32) 22 rfl w.heap.size 3 (unhide INFO) Try.underlying22 _ _ (onw (xs.take k) n st ++ runL x j st) [x + (j : Int) * st] rfl rfl (unhide OW') (unhide AP) (unhide RM) (unhide BS) ?_); intro v2 w2 o2 g2)
          have q2 : Kp w w2 := Kp.of_grown (unhide QA) g2 (fun k hk => (unhide OW').block k hk)
          have O2 := hide o2
          have Q2 := hide q2
          clear o2 q2 g2 OW' AP RM BS QA
          go_wp2
          go_roundw
          case rel => exact ⟨j + 1, by omega, by go_num, by rw [unhide ER, ← List.append_assoc]; exact unhide O2, unhide Q2⟩
          case measure => simp [intOf]; omega
        · obtain rfl : j = n := by omega
          rw [← unhide ET] at OI
          go_wp2
          go_roundw
          case rel => exact ⟨k + 1, by omega, by go_num, unhide OI, unhide KI⟩
          case measure => simp [intOf]; omega
    · have E : Hid (xs.take k = xs) := List.take_of_length_le (by omega)
      rw [unhide E] at OW
      go_wp2
      go_ret
      exact ⟨_, rfl, unhide OW, unhide KW⟩

/-- the steps' row while it is filled -/
def stpK (f t : List Int) (k : Nat) : List Int := List.replicate (t.length - f.length) 0 ++ ((stp f).take k ++ List.replicate (f.length - k) 0)
theorem stpK_zero {f t : List Int} (h : f.length ≤ t.length) : stpK f t 0 = List.replicate t.length 0 := by
  unfold stpK
  rw [List.take_zero, List.nil_append, List.replicate_append_replicate]
  congr 1
  omega
theorem stpK_all (f t : List Int) : stpK f t f.length = stp (padL f t) := by
  unfold stpK padL
  rw [stp_ones, Nat.sub_self, List.take_of_length_le (by rw [stp_length]; omega)]
  simp
theorem stpK_length {f t : List Int} (h : f.length ≤ t.length) {k : Nat} (hk : k ≤ f.length) : (stpK f t k).length = t.length := by
  unfold stpK
  simp [stp_length]
  omega
theorem stp_getD : ∀ {f : List Int} {k : Nat}, k < f.length → (stp f).getD k 0 = if f.getD k 0 = 1 then 0 else (sufs f).getD k 0
  | _ :: _, 0, _ => by simp [stp, sufs]
  | x :: r, k + 1, h => by
    have := stp_getD (f := r) (k := k) (by simpa using h)
    simpa [stp, sufs] using this
theorem stpK_set {f t : List Int} {k : Nat} (hk : k < f.length) : (stpK f t k).set (t.length - f.length + k) ((stp f).getD k 0) = stpK f t (k + 1) := by
  unfold stpK
  rw [List.set_append_right _ _ (by simp), List.length_replicate, Nat.add_sub_cancel_left, List.set_append_right _ _ (by simp; omega), List.length_take, stp_length, Nat.min_eq_left (by omega), Nat.sub_self,
    show f.length - k = (f.length - (k + 1)) + 1 by omega, List.replicate_succ (n := f.length - (k + 1)), List.set_cons_zero, take_snoc (xs := stp f) (by rw [stp_length]; exact hk)]
  simp
theorem stpK_at {f t : List Int} {k : Nat} (hk : k < f.length) : (stpK f t k).getD (t.length - f.length + k) 0 = 0 := by
  unfold stpK
  have e := getD_app_r (l := List.replicate (t.length - f.length) (0 : Int)) (m := (stp f).take k ++ List.replicate (f.length - k) 0) (k := k)
  rw [List.length_replicate] at e
  rw [e]
  have e2 := getD_app_r (l := (stp f).take k) (m := List.replicate (f.length - k) 0) (k := 0)
  rw [List.length_take, stp_length, Nat.min_eq_left (by omega), Nat.add_zero] at e2
  rw [e2, show f.length - k = (f.length - (k + 1)) + 1 by omega, List.replicate_succ]
  rfl
theorem stpK_same {f t : List Int} {k : Nat} (hk : k < f.length) (h : f.getD k 0 = 1) : stpK f t (k + 1) = stpK f t k := by
  rw [← stpK_set hk, stp_getD hk, if_pos h]
  apply List.ext_getElem
  · simp
  · intro i h1 h2
    rw [List.getElem_set]
    split
    · rename_i e
      have := stpK_at (f := f) (t := t) hk
      rw [e, getD_at h2] at this
      exact this.symm
    · rfl
theorem stp_wf {f : List Int} (h : mayB f = true) : ∀ x ∈ stp f, 0 ≤ x ∧ x ≤ 4096 := by
  intro x hx
  obtain ⟨k, hk, rfl⟩ := List.mem_iff_getElem.1 hx
  have hk' : k < f.length := by rw [stp_length] at hk; exact hk
  have e := stp_getD hk'
  rw [getD_at hk] at e
  rw [e]
  split
  · omega
  · have := sufs_wf h ((sufs f).getD k 0) (by rw [getD_at (by rw [sufs_length]; exact hk')]; exact List.getElem_mem _)
    omega
theorem stpP_wf {f : List Int} (t : List Int) (h : mayB f = true) : ∀ x ∈ stp (padL f t), 0 ≤ x ∧ x ≤ 4096 := by
  intro x hx
  unfold padL at hx
  rw [stp_ones] at hx
  rcases List.mem_append.1 hx with hx | hx
  · rw [(List.mem_replicate.1 hx).2]; omega
  · exact stp_wf h x hx

set_option maxHeartbeats 1000000 in
theorem steps_any (v u : Value) (f t : List Int) (w : World) (h : Ints w v f) (h' : Ints w u t) (hm : mayB f = true) (hl : f.length ≤ t.length) (ht : t.length ≤ 4) :
    Calls Try.prog 56 #[v, u] w fun e w' => ∃ r, e = .returned r ∧ Ints w' r (stp (padL f t)) ∧ Kp w w' := by
  have H := hide h
  have HM := hide hm
  have HG := hide (fun k hk => h.getD (k := k) hk)
  obtain ⟨a, cap, rfl, hv⟩ := h.val
  obtain ⟨a', cap', rfl, hv'⟩ := h'.val
  have HV := hide hv
  have hmk := mk_ints t.length (by omega)
  clear h hv h' hv' hm
  go_enter Try.func56, Try.ntmps56
  go_wp2_with fail
  clear hmk
  have B0 := hide (Blk.made w 3 t.length)
  have K0 := hide (Kp.alloc w (.cells (madeCells #[.int .i64 0] t.length) 3))
  have hBS : w.heap.size ≤ w.heap.size := Nat.le_refl _
  have HBV : Hid (∀ b, b < w.heap.size → ¬ b = w.heap.size) := by intro b hb; omega
  generalize w.alloc (.cells (madeCells #[.int .i64 0] t.length) 3) = w0 at *
  generalize hB : w.heap.size = B at B0 HBV ⊢
  have HBS : Hid (w.heap.size ≤ B) := by unfold Hid; omega
  have HB' : Hid (∀ b, b < w.heap.size → ¬ b = B) := by intro b hb; omega
  clear hB hBS HBV
  refine (strides_any _ f w0 ((unhide H).keep (unhide K0))).mono ?_
  rw [strN_yes (unhide HM)]
  rintro e w1 ⟨u1, rfl, hu1, _, k1⟩
  have FR : Hid (B < w0.heap.size) := (unhide B0).lt
  obtain ⟨q, capq, rfl, HQ⟩ := hu1.opn (sufs_length f)
  have B1 := hide ((unhide B0).keep k1)
  have K1 := hide ((unhide K0).trans k1)
  have SW := hide (sufs_wf (unhide HM))
  rename_i hfr
  have HQB : Hid (0 < f.length → ∃ b off, q = some ⟨b, off, none⟩ ∧ ¬ b = B ∧ b < w1.heap.size ∧ ∀ i, i < f.length → w1.cell? ⟨b, off + i, none⟩ = some (.int .i64 ((sufs f).getD i 0))) := by
    intro h0
    obtain ⟨b, off, rfl, hb, hc⟩ := unhide HQ h0
    have := hfr _ _ _ rfl
    have := unhide FR
    exact ⟨b, off, rfl, by simp at *; omega, hb, hc⟩
  clear hu1 hfr k1 B0 K0 HQ FR
  rw [← stpK_zero hl] at B1
  go_wp2
  go_loopw [20] (fun i wr => ∃ k : Nat, k ≤ f.length ∧ i = .int .i64 k ∧ Hid (Blk wr 3 B (stpK f t k)) ∧ Hid (Kx B w1 wr)) (fun i _ => f.length - (intOf i).toNat)
  case atStart => exact ⟨0, Nat.zero_le _, rfl, unhide B1, Kx.refl _ _⟩
  case round =>
    obtain ⟨k, hk, rfl, BL, KX⟩ := hrel
    by_cases hlt : k < f.length
    · obtain ⟨b, off, rfl, hb, hc⟩ := unhide HV (by omega)
      obtain ⟨bq, offq, rfl, hne, hbq, hcq⟩ := unhide HQB (by omega)
      have hck : wr.cell? ⟨b, off + k, none⟩ = some (.int .i64 (f.getD k 0)) := ((unhide KX).cell (p := ⟨b, off + k, none⟩) (Nat.lt_of_lt_of_le hb (unhide K1).size) (unhide HB' b hb)).trans ((Below.cell (unhide K1) (p := ⟨b, off + k, none⟩) hb).trans (hc k hlt))
      have hcq' : wr.cell? ⟨bq, offq + k, none⟩ = some (.int .i64 ((sufs f).getD k 0)) := ((unhide KX).cell (p := ⟨bq, offq + k, none⟩) hbq hne).trans (hcq k hlt)
      have hx2 := unhide HG k hlt
      have hsw := unhide SW ((sufs f).getD k 0) (by rw [getD_at (by rw [sufs_length]; exact hlt)]; exact List.getElem_mem _)
      have hcell := Blk.cell (unhide BL) (i := t.length - f.length + k) (by rw [stpK_length hl hk]; omega)
      have hfro := Blk.frozen (unhide BL) (t.length - f.length + k)
      have ED := hide (stp_getD hlt)
      have ES := hide (stpK_set (t := t) hlt)
      have EW := hide (stpK_same (f := f) (t := t) hlt)
      have hix : ((t.length : Int) - (f.length : Int) + (k : Int)).toNat = t.length - f.length + k := by omega
      have hix1 : 0 ≤ (t.length : Int) - (f.length : Int) + (k : Int) := by omega
      have hix2 : (t.length : Int) - (f.length : Int) + (k : Int) < (t.length : Int) := by omega
      clear hc hcq
      by_cases h1 : f.getD k 0 = 1
      · have BW := hide (unhide BL)
        rw [← unhide EW h1] at BW
        have hb1 : (f.getD k 0 != 1) = false := by rw [h1]; rfl
        clear BL hcell hfro
        generalize f.getD k 0 = x at *
        generalize (sufs f).getD k 0 = y at *
        go_wp2
        go_roundw
        case rel => exact ⟨k + 1, by omega, by go_num, unhide BW, unhide KX⟩
        case measure => simp [intOf]; omega
      · have hb1 : (f.getD k 0 != 1) = true := by rw [bne_iff_ne]; exact h1
        have BW := hide ((unhide BL).set (t.length - f.length + k) ((sufs f).getD k 0))
        rw [if_neg h1] at ED
        rw [← unhide ED, unhide ES] at BW
        have KW := hide ((unhide KX).set (t.length - f.length + k) (.int .i64 ((sufs f).getD k 0)))
        rw [unhide ED] at BW
        clear BL ED ES EW
        generalize (stpK f t k).getD (t.length - f.length + k) 0 = old at *
        generalize f.getD k 0 = x at *
        generalize (sufs f).getD k 0 = y at *
        go_wp2
        go_roundw
        case rel => exact ⟨k + 1, by omega, by go_num, unhide BW, unhide KW⟩
        case measure => simp [intOf]; omega
    · obtain rfl : k = f.length := by omega
      rw [stpK_all] at BL
      have R := hide ((unhide BL).ints (n := t.length) (cap := t.length) (by rw [stp_length, padL_length hl]) (fun x hx => by have := stpP_wf t (unhide HM) x hx; unfold I64; omega) (by omega))
      have KF := hide (Kx.after (unhide K1) (unhide KX) (unhide HBS))
      go_wp2
      go_ret
      exact ⟨_, rfl, unhide R, unhide KF⟩

end Go.Proofs.Ytcegkaemcjlfgaa
