
/- Contracts of the functions that tell which place stands at a number: the program's and the document's. -/
import Derived.Test.YtnmpbjjppdkomaaPlac
namespace Go.Proofs.Ytnmpbjjppdkomaa
open Go.RowKit

theorem szN_may {xs : List Int} (h : mayB xs = true) : szN xs = prodL xs := if_pos h
theorem szE_may {xs : List Int} (h : mayB xs = true) : szE xs = 0 := if_pos h
theorem szE_not {xs : List Int} (h : mayB xs = false) : (szE xs != 0) = true := by
  have := szE_zero xs
  rw [h] at this
  simpa using this

theorem place_step {s l : List Int} {i j : Int} {k : Nat} (hk : k < s.length) (hl : l.length = k) (h : plc s i = l ++ plc (s.drop k) j) :
    plc s i = (l ++ [j / prodL (s.drop (k + 1))]) ++ plc (s.drop (k + 1)) (j % prodL (s.drop (k + 1))) ∧ (l ++ List.replicate (s.length - k) 0).set k (j / prodL (s.drop (k + 1))) = (l ++ [j / prodL (s.drop (k + 1))]) ++ List.replicate (s.length - (k + 1)) 0 := by
  constructor
  · rw [h, drop_cons hk]
    simp [plc]
  · have e : s.length - k = (s.length - (k + 1)) + 1 := by omega
    rw [e, List.replicate_succ]
    exact fill_up hl

theorem rplace_step {s : List Int} {i : Int} (hp : Pos s) (h0 : 0 ≤ i) {k : Nat} (hk : k < s.length) :
    (List.replicate (k + 1) 0 ++ plc (s.drop (k + 1)) (i % prodL (s.drop (k + 1)))).set k ((i / prodL (s.drop (k + 1))) % s.getD k 0) = List.replicate k 0 ++ plc (s.drop k) (i % prodL (s.drop k)) := by
  rw [fill_down, (plc_down hp h0 hk).1]

set_option maxHeartbeats 400000 in
theorem rplace_any (v : Value) (s : List Int) (i : Int) (w : World) (h : Ints w v s) (hi : I64 i) :
    Calls Try.prog 33 #[v, .int .i64 i] w fun e w' => ∃ u, e = .returned u ∧ Ints w' u (plN s i) ∧ Fresh w u ∧ Kp w w' := by
  have hr := h.room
  have H := hide h
  obtain ⟨a, cap, rfl, hv⟩ := h.val
  have HV := hide hv
  clear h hv
  obtain ⟨hi1, hi2⟩ := hi
  cases hm : mayB s
  · have HM := hide hm
    have E := hide (szE_not hm)
    clear hm
    go_enter Try.func33, Try.ntmps33
    go_wp2_with fail
    refine (rsize_any _ s w (unhide H)).mono ?_
    rintro e w1 ⟨rfl, hk1⟩
    have E' := unhide E
    clear E
    go_wp2
    go_ret
    exact ⟨_, rfl, by rw [plN_no (.inl (unhide HM))]; exact Ints.nil _, Fresh.nil _ _ _, hk1⟩
  · have HM := hide hm
    have HZ := hide (szN_may hm)
    have HZ' := hide (szE_may hm)
    have hP := (may_good hm).2
    have hpp := prodL_pos hP
    have hp4 := may_prod hm
    have HP := hide hP
    clear hm hP
    by_cases h0 : 0 ≤ i
    · by_cases h1 : i < prodL s
      · have hmk := mk_ints s.length hr
        go_enter Try.func33, Try.ntmps33
        go_wp2_with fail
        refine (rsize_any _ s w (unhide H)).mono ?_
        rw [unhide HZ, unhide HZ']
        rintro e w1 ⟨rfl, hk1⟩
        go_wp2
        obtain ⟨B, hB⟩ : ∃ B, B = w1.heap.size := ⟨_, rfl⟩
        have HB0 := hide (Blk.made w1 3 s.length)
        have HW0 := hide (Kp.alloc w1 (.cells (madeCells #[.int .i64 0] s.length) 3))
        have HBB := hide hB
        rw [← hB] at HB0 ⊢
        clear hB hmk
        generalize w1.alloc (.cells (madeCells #[.int .i64 0] s.length) 3) = w2 at *
        have HBw : Hid (w.heap.size ≤ B) := by rw [unhide HBB]; exact hk1.size
        have HK2 := hide (hk1.trans (unhide HW0))
        clear hk1 HW0 HBB
        go_loopw [1, 8] (fun t c wr => ∃ k : Nat, k ≤ s.length ∧ c = .int .i64 ((k : Int) - 1) ∧ t = .int .i64 (i / prodL (s.drop k)) ∧ Blk wr 3 B (List.replicate k 0 ++ plc (s.drop k) (i % prodL (s.drop k))) ∧ Kx B w2 wr) (fun _ c _ => (intOf c + 1).toNat)
        case atStart => exact ⟨s.length, Nat.le_refl _, rfl, by simp [prodL], by simpa [plc] using unhide HB0, Kx.refl _ _⟩
        case round =>
          obtain ⟨k, hk, rfl, rfl, hblk, hkx⟩ := hrel
          have HBL := hide hblk
          have HKX := hide hkx
          clear hblk hkx
          match k, hk with
          | 0, hk =>
            have E : Hid (plN s i = List.replicate 0 0 ++ plc (s.drop 0) (i % prodL (s.drop 0))) := by
              unfold Hid
              rw [plN_yes (unhide HM) h0 h1]
              simp [Int.emod_eq_of_lt h0 h1]
            go_wp2
            go_ret
            refine ⟨_, rfl, ?_, Fresh.mk (unhide HBw), Kx.after (unhide HK2) (unhide HKX) (unhide HBw)⟩
            have hlen : (List.replicate 0 0 ++ plc (s.drop 0) (i % prodL (s.drop 0))).length = s.length := by simp [plc_length]
            rw [unhide E]
            refine (unhide HBL).ints hlen ?_ hr
            rw [← unhide E, plN_yes (unhide HM) h0 h1]
            intro x hx
            have := plc_wf (unhide HP) h0 h1 x hx
            unfold I64
            omega
          | k + 1, hk =>
            have hlt : k < s.length := by omega
            obtain ⟨b, off, rfl, hb, hc⟩ := unhide HV (by omega)
            have hb2 : b < w2.heap.size := Nat.lt_of_lt_of_le hb (unhide HK2).size
            have hne : b ≠ B := by have := unhide HBw; omega
            have hck := ((unhide HKX).cell (p := ⟨b, off + k, none⟩) hb2 hne).trans ((Below.cell (unhide HK2) (p := ⟨b, off + k, none⟩) hb).trans (hc k hlt))
            have b5 := (unhide HP).getD hlt
            have b6 := prodL_pos ((unhide HP).drop (k + 1))
            have b7 := getD_le_prodL (unhide HP) hlt
            have hcell := Blk.cell (unhide HBL) (i := k) (by simp [plc_length]; omega)
            have hfro := Blk.frozen (unhide HBL) k
            have HS := hide (Blk.set (unhide HBL) k ((i / prodL (s.drop (k + 1))) % s.getD k 0))
            have ST := hide (rplace_step (unhide HP) h0 hlt)
            rw [unhide ST] at HS
            have D := hide (plc_down (unhide HP) h0 hlt).2
            have g2 := Int.ediv_nonneg (a := i) (b := prodL (s.drop (k + 1))) h0 (by omega)
            have g3 := Int.ediv_le_self (a := i) (prodL (s.drop (k + 1))) h0
            have hck2 : (wr.setCell ⟨B, k, none⟩ (.int .i64 ((i / prodL (s.drop (k + 1))) % s.getD k 0))).cell? ⟨b, off + k, none⟩ = some (.int .i64 (s.getD k 0)) := by
              rw [World.cell?_setCell_other _ _ _ _ (fun e => absurd (congrArg Addr.block e) (by show ¬ B = b; omega))]; exact hck
            clear hc HBL HV ST
            generalize (List.replicate (k + 1) 0 ++ plc (s.drop (k + 1)) (i % prodL (s.drop (k + 1)))).getD k 0 = old at *
            have hj4 : i / prodL (s.drop (k + 1)) ≤ 4096 := by omega
            generalize i / prodL (s.drop (k + 1)) = j at *
            generalize s.getD k 0 = m at *
            go_wp2
            go_roundw
            case rel => exact ⟨k, by omega, by go_num, by rw [unhide D], unhide HS, (unhide HKX).set _ _⟩
            case measure => simp [intOf]
      · have E := hide (plN_no (s := s) (i := i) (.inr (.inr (by omega))))
        go_enter Try.func33, Try.ntmps33
        go_wp2_with fail
        refine (rsize_any _ s w (unhide H)).mono ?_
        rw [unhide HZ, unhide HZ']
        rintro e w1 ⟨rfl, hk1⟩
        go_wp2
        go_ret
        exact ⟨_, rfl, by rw [unhide E]; exact Ints.nil _, Fresh.nil _ _ _, hk1⟩
    · have E := hide (plN_no (s := s) (i := i) (.inr (.inl (by omega))))
      go_enter Try.func33, Try.ntmps33
      go_wp2_with fail
      refine (rsize_any _ s w (unhide H)).mono ?_
      rw [unhide HZ, unhide HZ']
      rintro e w1 ⟨rfl, hk1⟩
      go_wp2
      go_ret
      exact ⟨_, rfl, by rw [unhide E]; exact Ints.nil _, Fresh.nil _ _ _, hk1⟩

end Go.Proofs.Ytnmpbjjppdkomaa
