
/- Who is reached: the document's From. -/
import Derived.Test.YtefohemihiiceaaRchK
import Derived.Test.YtefohemihiiceaaRchG
namespace Go.Proofs.Ytefohemihiiceaa
open Go.RowKit Go.Shelf

set_option maxRecDepth 20000 in
set_option maxHeartbeats 8000000 in
theorem rfrom_any (a : Option Addr) (c : Nat) (ns : List Nd) (root : Int) (w : World) (h : Nodes w (.slice a ns.length c) ns) (hr : I64 root) :
    Calls Try.prog 13 #[.agg #[.slice a ns.length c], .int .i64 root] w fun e w' => RetF w ns root e w' ∧ Kp w w' := by
  have hroom := h.room
  have H := hide h
  clear h
  unfold I64 at hr
  have K0 := hide (Kp.alloc w (.cells #[.slice a ns.length c] 24))
  have hmk := mk_bools ns.length (by omega)
  go_enter Try.func13, Try.ntmps13
  go_wp2_with fail
  have c0 : (w.alloc (.cells #[.slice a ns.length c] 24)).cell? ⟨w.heap.size, 0, none⟩ = some (.slice a ns.length c) := (Boxed.new w 24 (.slice a ns.length c)).cell
  generalize World.alloc w _ = w1 at *
  refine (sound_any a c ns w1 ((unhide H).keep (unhide K0))).mono ?_
  rintro e w2 ⟨⟨b, rfl, hb⟩, k2⟩
  have c2 := k2.cellT c0
  have K2 := hide ((unhide K0).trans k2)
  have HB := hide hb
  clear hb k2 c0 K0
  cases b
  · have HX : Hid (¬ FromP ns root) := fun h => by cases (unhide HB).2 h.1
    clear hmk
    go_wp2
    go_ret
    exact ⟨retF_none (unhide HX) rfl, unhide K2⟩
  · have HSN := hide ((unhide HB).1 rfl)
    by_cases h0 : root < 0
    · have HX : Hid (¬ FromP ns root) := fun h => by have := h.2.1; omega
      clear hmk
      go_wp2
      go_ret
      exact ⟨retF_none (unhide HX) rfl, unhide K2⟩
    · by_cases h1 : (ns.length : Int) ≤ root
      · have HX : Hid (¬ FromP ns root) := fun h => by have := h.2.2; omega
        have h0' : decide (root < 0) = false := decide_eq_false h0
        clear hmk
        go_wp2
        go_ret
        exact ⟨retF_none (unhide HX) rfl, unhide K2⟩
      · obtain ⟨r, rfl⟩ : ∃ r : Nat, root = (r : Int) := ⟨root.toNat, by omega⟩
        have HP : Hid (FromP ns (r : Int)) := ⟨unhide HSN, by omega, by omega⟩
        have h0' : decide ((r : Int) < 0) = false := decide_eq_false h0
        have hrl : r < ns.length := by omega
        have hrlI : (r : Int) < (ns.length : Int) := by omega
        obtain ⟨q, hq⟩ : ∃ q, q = (List.replicate ns.length false).getD r false := ⟨_, rfl⟩
        have cm : (w2.alloc (.cells (madeCells #[.bool false] ns.length) 4)).cell? ⟨w2.heap.size, r, none⟩ = some (.bool q) := by rw [hq]; exact (BlkB.made w2 ns.length).cell (by simpa using hrl)
        have fm : (w2.alloc (.cells (madeCells #[.bool false] ns.length) 4)).frozen? ⟨w2.heap.size, r, none⟩ = false := (BlkB.made w2 ns.length).frozen r
        have HB3 : Hid (BlkB (w2.alloc (.cells ((madeCells #[.bool false] ns.length).setIfInBounds r (.bool true)) 4)) w2.heap.size (rootL ns.length r)) := made_set w2 ns.length r
        have hK3 : Kp w2 (w2.alloc (.cells ((madeCells #[.bool false] ns.length).setIfInBounds r (.bool true)) 4)) := Kp.alloc _ _
        have c3 := hK3.cellT c2
        have K3 := hide ((unhide K2).trans hK3)
        have hRb : w.heap.size < w2.heap.size := lt_of_cell c2
        clear hq hK3 HB
        go_wp2
        generalize World.alloc w2 _ = w3 at *
        obtain ⟨R, hR⟩ : ∃ R, R = w2.heap.size := ⟨_, rfl⟩
        rw [← hR] at HB3 hRb ⊢
        clear hmk cm fm hR c2 K2
        go_loopw [6] (fun i wr => ∃ m : Nat, m ≤ r + 1 ∧ i = .int .i64 ((m : Int) - 1) ∧ Hid (BlkB wr R (sM (innF ns) (rootL ns.length r) (r + 1) m)) ∧ wr.cell? ⟨w.heap.size, 0, none⟩ = some (.slice a ns.length c) ∧ Hid (Kp w wr)) (fun i _ => (intOf i + 1).toNat)
        case atStart => exact ⟨r + 1, Nat.le_refl _, by go_num, by unfold Hid; rw [sM_top]; exact unhide HB3, c3, unhide K3⟩
        case round =>
          obtain ⟨m, hm, rfl, HBm, cg, KR⟩ := hrel
          clear c3 HB3 K3
          by_cases hp : 0 < m
          · obtain ⟨j, rfl⟩ : ∃ j, m = j + 1 := ⟨m - 1, by omega⟩
            have ej : ((j + 1 : Nat) : Int) - 1 = (j : Int) := by omega
            rw [ej]
            have hj : j < ns.length := by omega
            have hjI : (j : Int) < (ns.length : Int) := by omega
            obtain ⟨b, off, rfl, hb, hnd⟩ := (unhide H).one (Kp.refl w) hj
            obtain ⟨a1, c1, d1, hinn⟩ := hnd.inn
            have hri := hinn.room
            have hst := hide (sM_step (innF ns) (rootL ns.length r) (show j < r + 1 by omega))
            have hin : Hid (∀ x ∈ innF ns j, 0 ≤ x ∧ x < (j : Int)) := (unhide HSN) j hj
            have hi : innF ns j = (ns.getD j ndnil).inn := rfl
            have hlen := hide (sM_length (innF ns) (rootL ns.length r) (r + 1) (j + 1))
            rw [← hi] at d1 hinn hri
            clear ej hnd hi
            have I1 := hide hinn
            clear hinn
            unfold stepM at hst
            generalize innF ns j = xs at *
            generalize sM (innF ns) (rootL ns.length r) (r + 1) (j + 1) = bs at *
            have hlb : bs.length = ns.length := by rw [unhide hlen, rootL_length]
            have HA : Hid (∀ s, s ≤ xs.length → bs.getD j false = true → (markL bs (xs.take s)).getD j false = true) := fun s _ h => (markL_at _ _ _ (fun x hx => (unhide hin x (List.mem_of_mem_take hx)).1) (by omega)).2 (.inl h)
            have HLm : Hid (∀ s, (markL bs (xs.take s)).length = ns.length) := fun s => by rw [markL_length]; exact hlb
            clear hlen
            go_wp2
            go_loopw [7] (fun i w4 => ∃ s : Nat, s ≤ xs.length ∧ i = .int .i64 s ∧ Hid (bs.getD j false = true ∨ s = 0) ∧ Hid (BlkB w4 R (markL bs (xs.take s))) ∧ w4.cell? ⟨w.heap.size, 0, none⟩ = some (.slice (some ⟨b, off, none⟩) ns.length c) ∧ Hid (Kp w w4)) (fun i _ => xs.length - (intOf i).toNat)
            case atStart => exact ⟨0, Nat.zero_le _, rfl, .inr rfl, unhide HBm, cg, unhide KR⟩
            case round =>
              obtain ⟨s, hs, rfl, HZ, HBs, cg2, K4⟩ := hrel
              clear HBm cg
              have d4 := (unhide K4).cellT d1
              have I4 := hide ((unhide I1).keep (unhide K4))
              by_cases hbj : bs.getD j false = true
              · have cj : wr.cell? ⟨R, j, none⟩ = some (.bool true) := by rw [(unhide HBs).cell (by rw [unhide HLm]; exact hj), unhide HA s hs hbj]
                by_cases hlt : s < xs.length
                · have hltI : (s : Int) < (xs.length : Int) := by omega
                  obtain ⟨_, _, _, a9, e9, he9, hc9⟩ := unhide I4
                  cases he9
                  obtain ⟨b9, o9, rfl, hb9, hc9⟩ := hc9 (by omega)
                  have hcx := hc9 s hlt
                  have e1 : xs.getD s 0 = xs[s] := by simp [hlt]
                  have hxx := (unhide hin) _ (List.getElem_mem hlt)
                  have hsn : Hid (markL bs (xs.take (s + 1)) = (markL bs (xs.take s)).set (xs[s]).toNat true) := by unfold Hid; rw [← List.take_append_getElem hlt, markL_snoc]
                  rw [← e1] at hxx hsn
                  clear hc9 e1
                  generalize xs.getD s 0 = x at *
                  obtain ⟨y, rfl⟩ : ∃ y : Nat, x = (y : Int) := ⟨x.toNat, by omega⟩
                  have hyI : (y : Int) < (ns.length : Int) := by omega
                  have cy := (unhide HBs).cell (i := y) (by rw [unhide HLm]; omega)
                  have fy := (unhide HBs).frozen y
                  generalize (markL bs (xs.take s)).getD y false = q at *
                  have e2 : ((y : Int)).toNat = y := by omega
                  rw [e2] at hsn
                  have HB5 := hide ((unhide HBs).set y true)
                  have cg5 := cell_ne (i := y) (.bool true) (show w.heap.size ≠ R by omega) cg2
                  have K5 := hide (Kp.set (unhide K4) (Nat.le_of_lt hRb) (i := y) (.bool true))
                  clear HBs e2 hxx
                  go_wp2
                  generalize World.setCell _ _ _ = w5 at *
                  go_roundw
                  case rel => exact ⟨s + 1, by omega, by go_num, .inl hbj, by unfold Hid; rw [unhide hsn]; exact unhide HB5, cg5, unhide K5⟩
                  case measure => simp [intOf]; omega
                · obtain rfl : s = xs.length := by omega
                  have HB6 : Hid (BlkB wr R (sM (innF ns) (rootL ns.length r) (r + 1) j)) := by unfold Hid; rw [unhide hst, if_pos hbj]; have h := unhide HBs; rw [List.take_length] at h; exact h
                  go_wp2
                  go_roundw
                  case rel => exact ⟨j, by omega, rfl, unhide HB6, cg2, unhide K4⟩
                  case measure => simp [intOf]
              · have hb0 : bs.getD j false = false := by cases h : bs.getD j false with | false => rfl | true => exact absurd h hbj
                obtain rfl : s = 0 := (unhide HZ).resolve_left hbj
                have HB6 : Hid (BlkB wr R bs) := unhide HBs
                have cj : wr.cell? ⟨R, j, none⟩ = some (.bool false) := by rw [(unhide HB6).cell (by omega), hb0]
                have HB7 : Hid (BlkB wr R (sM (innF ns) (rootL ns.length r) (r + 1) j)) := by unfold Hid; rw [unhide hst, if_neg hbj]; exact unhide HB6
                clear HB6 HBs
                go_wp2
                go_roundw
                case rel => exact ⟨j, by omega, rfl, unhide HB7, cg2, unhide K4⟩
                case measure => simp [intOf]
          · obtain rfl : m = 0 := by omega
            go_wp2
            go_ret
            exact ⟨retF_some (unhide HP) rfl rfl (by unfold fromL; rw [sM_root hrl 0 (Nat.zero_le _)]) (Nat.le_of_lt hRb) (unhide HBm), unhide KR⟩

end Go.Proofs.Ytefohemihiiceaa
