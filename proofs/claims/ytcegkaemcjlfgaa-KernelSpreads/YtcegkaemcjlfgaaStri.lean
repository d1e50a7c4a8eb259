
/- Contracts of the functions that tell strides: the program's and the document's. -/
import Derived.Test.YtcegkaemcjlfgaaProg
import Derived.Test.YtcegkaemcjlfgaaShapeA
import Derived.Test.YtcegkaemcjlfgaaRefA
namespace Go.Proofs.Ytcegkaemcjlfgaa
open Go.RowKit

theorem Try.infoInt : (Try.prog.info? 3).map (fun i => (i.zero, i.size, i.bytes)) = some (some (.int .i64 0), 1, 8) := by kernel_rfl

theorem mk_ints (n : Nat) (hn : n * 8 ≤ 140737488351232) (w : World) :
    (Instr.makeSlice 22 (.int .i64 n) (.int .i64 n)).run Try.prog w = .ok (.slice (some ⟨w.heap.size, 0, none⟩) n n) (w.alloc (.cells (madeCells #[.int .i64 0] n) 3)) := by
  obtain ⟨i0, hi, hz0, hz1, hz2⟩ := info_parts Try.infoInt
  have h := run_make (P := Try.prog) w 22 3 i0 (.int .i64 0) Try.underlying22 hi hz0 .i64 .i64 n n (by omega) (by omega) (by rw [hz2]; omega) (by omega)
  rw [hz1] at h
  simpa [Value.cells] using h

theorem sufs_wf {xs : List Int} (h : mayB xs = true) : ∀ x ∈ sufs xs, 1 ≤ x ∧ x ≤ 4096 := by
  intro x hx
  obtain ⟨k, hk, rfl⟩ := List.mem_iff_getElem.1 hx
  rw [sufs_length] at hk
  have e := sufs_getD xs k hk
  rw [getD_at (by rw [sufs_length]; exact hk)] at e
  rw [e]
  have hg := (may_good h).2
  have h1 := prodL_pos (hg.drop (k + 1))
  have h2 := prodL_drop_le hg (k + 1)
  have h3 := may_prod h
  omega

theorem strN_yes {xs : List Int} (h : mayB xs = true) : strN xs = sufs xs := if_pos h
theorem strN_no {xs : List Int} (h : mayB xs = false) : strN xs = [] := if_neg (by rw [h]; simp)

theorem strides_step {xs : List Int} {k : Nat} (hk : k < xs.length) : (List.replicate (k + 1) 0 ++ sufs (xs.drop (k + 1))).set k (prodL (xs.drop (k + 1))) = List.replicate k 0 ++ sufs (xs.drop k) := by
  rw [fill_down, drop_cons hk]
  rfl

set_option maxHeartbeats 400000 in
theorem strides_any (v : Value) (xs : List Int) (w : World) (h : Ints w v xs) :
    Calls Try.prog 61 #[v] w fun e w' => ∃ u, e = .returned u ∧ Ints w' u (strN xs) ∧ Fresh w u ∧ Kp w w' := by
  have hr := h.room
  have H := hide h
  have HG := hide (fun k hk => h.getD (k := k) hk)
  obtain ⟨a, cap, rfl, hv⟩ := h.val
  have HV := hide hv
  clear h hv
  cases hm : mayB xs
  · have HM := hide hm
    clear hm
    go_enter Try.func61, Try.ntmps61
    go_wp2_with fail
    refine (may_any _ xs w (unhide H)).mono ?_
    rw [unhide HM]
    rintro e w1 ⟨rfl, hk1⟩
    go_wp2
    go_ret
    exact ⟨_, rfl, by rw [strN_no (unhide HM)]; exact Ints.nil _, Fresh.nil _ _ _, hk1⟩
  · have HM := hide hm
    clear hm
    have hmk := mk_ints xs.length hr
    go_enter Try.func61, Try.ntmps61
    go_wp2_with fail
    refine (may_any _ xs w (unhide H)).mono ?_
    rw [unhide HM]
    rintro e w1 ⟨rfl, hk1⟩
    go_wp2
    clear hmk
    obtain ⟨B, hB⟩ : ∃ B, B = w1.heap.size := ⟨_, rfl⟩
    have HB0 := hide (Blk.made w1 3 xs.length)
    have HW0 := hide (Kp.alloc w1 (.cells (madeCells #[.int .i64 0] xs.length) 3))
    have HBB := hide hB
    rw [← hB] at HB0 ⊢
    clear hB
    generalize w1.alloc (.cells (madeCells #[.int .i64 0] xs.length) 3) = w2 at *
    go_loopw [4, 5] (fun n i wr => ∃ k : Nat, k ≤ xs.length ∧ i = .int .i64 ((k : Int) - 1) ∧ n = .int .i64 (prodL (xs.drop k)) ∧ Blk wr 3 B (List.replicate k 0 ++ sufs (xs.drop k)) ∧ Kp w1 wr) (fun _ i _ => (intOf i + 1).toNat)
    case atStart => exact ⟨xs.length, Nat.le_refl _, rfl, by simp [prodL], by simpa [sufs] using unhide HB0, unhide HW0⟩
    case round =>
      obtain ⟨k, hk, rfl, rfl, hblk, hkp⟩ := hrel
      have hP := (may_good (unhide HM)).2
      have h1 := prodL_pos (hP.drop k)
      have h2 := prodL_drop_le hP k
      have h3 := may_prod (unhide HM)
      have HP := hide hP
      have HK := hide hkp
      have HBL := hide hblk
      clear hP hkp hblk
      match k, hk with
      | 0, hk =>
        go_wp2
        go_ret
        refine ⟨_, rfl, ?_, Fresh.mk (by rw [unhide HBB]; exact hk1.size), hk1.trans (unhide HK)⟩
        rw [strN_yes (unhide HM)]
        have hb : Blk wr 3 B (sufs xs) := by simpa using unhide HBL
        exact hb.ints (sufs_length xs) (fun x hx => by have := sufs_wf (unhide HM) x hx; unfold I64; omega) hr
      | k + 1, hk =>
        have hlt : k < xs.length := by omega
        obtain ⟨b, off, rfl, hb, hc⟩ := unhide HV (by omega)
        have hb1 : b < w1.heap.size := Nat.lt_of_lt_of_le hb hk1.size
        have hck := (Below.cell (unhide HK) (p := ⟨b, off + k, none⟩) hb1).trans ((Below.cell hk1 (p := ⟨b, off + k, none⟩) hb).trans (hc k hlt))
        clear hc
        have hx := (unhide HP).getD hlt
        have hx2 := unhide HG k hlt
        have h4 := prodL_drop_le (unhide HP) k
        have E := hide (prodL_drop hlt)
        have ES := hide (strides_step hlt)
        have hcell := Blk.cell (unhide HBL) (i := k) (by simp [sufs_length]; omega)
        have hfro := Blk.frozen (unhide HBL) k
        have HS := hide (Blk.set (unhide HBL) k (prodL (xs.drop (k + 1))))
        rw [unhide ES] at HS
        clear ES
        rw [unhide E] at h4
        generalize (List.replicate (k + 1) 0 ++ sufs (xs.drop (k + 1))).getD k 0 = old at *
        have hne : b < B := by rw [unhide HBB]; exact hb1
        have hck2 : (wr.setCell ⟨B, k, none⟩ (.int .i64 (prodL (xs.drop (k + 1))))).cell? ⟨b, off + k, none⟩ = some (.int .i64 (xs.getD k 0)) := by
          rw [World.cell?_setCell_other _ _ _ _ (fun e => absurd (congrArg Addr.block e) (by show ¬ B = b; omega))]; exact hck
        clear hck HBL
        generalize xs.getD k 0 = x at *
        generalize prodL (xs.drop (k + 1)) = p at *
        have h5 := mul_one_le hx h1
        rw [Int.mul_comm] at h4 h5 E
        go_wp2
        go_roundw
        case rel => exact ⟨k, by omega, by go_num, by rw [unhide E], unhide HS, (unhide HK).set (by rw [unhide HBB]; exact Nat.le_refl _) _⟩
        case measure => simp [intOf]

end Go.Proofs.Ytcegkaemcjlfgaa
