
/- Contracts of what asks for matrices, lays them by columns, multiplies two rows. -/
import Derived.Test.YthofnmaobmfoiaaMPure
import Derived.Test.YthofnmaobmfoiaaHnd
import Derived.BigQuiet
namespace Go.Proofs.Ythofnmaobmfoiaa
open Go.RowKit

theorem Ints.two {w : World} {v : Value} {p m : Int} (h : Ints w v [p, m]) : ∃ b off c, v = .slice (some ⟨b, off, none⟩) 2 c ∧ b < w.heap.size ∧ w.cell? ⟨b, off, none⟩ = some (.int .i64 p) ∧ w.cell? ⟨b, off + 1, none⟩ = some (.int .i64 m) := by
  obtain ⟨_, _, _, a, cap, e, hv⟩ := h
  obtain ⟨b, off, rfl, hb, hc⟩ := hv (by simp)
  exact ⟨b, off, cap, e, hb, hc 0 (by simp), hc 1 (by simp)⟩

theorem mk_roomF (n : Nat) (hn : n * 8 ≤ 140737488351232) (w : World) :
    (Instr.makeSlice 26 (.int .i64 0) (.int .i64 n)).run Try.prog w = .ok (.slice (some ⟨w.heap.size, 0, none⟩) 0 n) (w.alloc (.cells (madeCells #[.float .f64 0] n) 36)) := by
  obtain ⟨i0, hi, hz0, hz1, hz2⟩ := info_parts Try.infoFlt
  have h := run_make (P := Try.prog) w 26 36 i0 (.float .f64 0) Try.underlying26 hi hz0 .i64 .i64 0 n (by omega) (by omega) (by rw [hz2]; omega) (by omega)
  rw [hz1] at h
  simpa [Value.cells] using h
theorem OwnF.made (w : World) (e : TypeId) (n base : Nat) (hb : base ≤ w.heap.size) (hm : n ≤ maxLen) : OwnF (w.alloc (.cells (madeCells #[.float .f64 0] n) e)) e base (.slice (some ⟨w.heap.size, 0, none⟩) 0 n) [] := by
  refine ⟨by simp, .inr ⟨w.heap.size, n, madeCells #[.float .f64 0] n, rfl, hb, ?_, Nat.zero_le _, hm, by simp [madeCells], by simp⟩⟩
  simp only [World.alloc, Array.getElem?_push_size]

set_option maxHeartbeats 400000 in
theorem mmay_any (sv dv : Value) (s : List Int) (d : List Nat) (w : World) (hs : Ints w sv s) (hd : Flts w dv d) :
    Calls Try.prog 9 #[.agg #[sv, dv]] w fun e w' => e = .returned (.bool (matB s d)) ∧ Kp w w' := by
  have HS := hide hs
  have HD := hide hd
  have hr := hs.room
  obtain ⟨p, cap, rfl, -⟩ := hs.val
  clear hs hd
  go_enter Try.func9, Try.ntmps9
  go_wp2_with fail
  obtain ⟨W, hW, x1, k0⟩ := box_in w (.slice p s.length cap) dv
  rw [← hW]
  clear hW
  have X1 := hide x1
  have K0 := hide k0
  obtain ⟨c0, c1, -, -, -⟩ := x1.o
  clear x1 k0
  generalize w.heap.size = B at X1 c0 c1 ⊢
  try go_wp2_with fail
  refine (mayT_any _ _ s d W ((unhide HS).keep (unhide K0)) ((unhide HD).keep (unhide K0))).mono ?_
  rintro e w1 ⟨rfl, k1⟩
  clear c0 c1
  obtain ⟨c0, c1, -, -, -⟩ := ((unhide X1).keep k1).o
  have K1 := hide ((unhide K0).trans k1)
  clear k1
  cases hm : mayT s d
  · have E : Hid (matB s d = false) := by unfold Hid matB; rw [hm]; rfl
    clear hm
    go_wp2
    go_ret
    exact ⟨ret_bool (unhide E).symm, unhide K1⟩
  · have E : Hid (matB s d = ((s.length : Int) == 2)) := by unfold Hid matB; rw [hm]; rfl
    clear hm
    go_wp2
    go_ret
    exact ⟨ret_bool (unhide E).symm, unhide K1⟩

/-- a pair's block is not the row's that was appended to -/
theorem Bx.grown {w w' : World} {B base : Nat} {x y v : Value} {e : TypeId} {xs : List Nat} (h : Bx w B x y) (g : w.grownBy w' v.ownBlock) (o : OwnF w e base v xs) (he : e ≠ 28) : Bx w' B x y := by
  unfold Bx at *
  rw [g.block B (Array.getElem?_eq_some_iff.1 h).1 (fun e1 => ?_)]
  · exact h
  · obtain ⟨_, ⟨rfl, _⟩ | ⟨q, cap, cur, rfl, _, hh, _⟩⟩ := o
    · cases e1
    · cases e1
      rw [hh] at h
      injection h with e2
      injection e2 with _ e3
      exact he e3

set_option maxHeartbeats 1000000 in
theorem bycols_any (sv dv : Value) (r c : Nat) (d : List Nat) (w : World) (hs : Ints w sv [(r : Int), (c : Int)]) (hd : Flts w dv d) (hl : d.length = r * c) (hn : r * c ≤ 4096) (r1 : 1 ≤ r) (c1 : 1 ≤ c) :
    Calls Try.prog 13 #[.agg #[sv, dv]] w fun e w' => ∃ u, e = .returned u ∧ OwnF w' 36 w.heap.size u (turnD r c d) ∧ Kp w w' := by
  have INFO := hide Try.infoFlt
  have WX := hide hd.wf
  have rm : r ≤ 4096 := le_mul_l c1 hn
  have cm : c ≤ 4096 := le_mul_r r1 hn
  obtain ⟨bs, os, cs, rfl, hbs, hs0, hs1⟩ := hs.two
  obtain ⟨a, cap, rfl, hv⟩ := hd.val
  obtain ⟨b, off, rfl, hb, hc⟩ := hv (by rw [hl]; have := Nat.mul_le_mul r1 c1; omega)
  have HC := hide hc
  have hmk := mk_roomF d.length (by omega)
  have HL := hide hl
  have hdl : d.length ≤ 4096 := by omega
  have HN := hide hn
  clear hs hd hv hc hl hn
  go_enter Try.func13, Try.ntmps13
  go_wp2_with fail
  obtain ⟨W, hW, x1, k0⟩ := box_in w (.slice (some ⟨bs, os, none⟩) 2 cs) (.slice (some ⟨b, off, none⟩) d.length cap)
  rw [← hW]
  clear hW
  have X1 := hide x1
  have K0 := hide k0
  obtain ⟨c0, c1', -, -, -⟩ := x1.o
  have hs0' := (Below.cell k0 (p := ⟨bs, os, none⟩) hbs).trans hs0
  have hs1' := (Below.cell k0 (p := ⟨bs, os + 1, none⟩) hbs).trans hs1
  clear x1 k0 hs0 hs1
  generalize hB : w.heap.size = B at X1 c0 c1' ⊢
  have HB := hide hB
  clear hB
  try go_wp2_with fail
  go_quiet (fail)
  have KD := hide ((unhide K0).trans (Kp.drewN W nq))
  have XD := hide ((unhide X1).keep (Kp.drewN W nq))
  clear hs0' hs1' c0 c1' X1 K0
  generalize W.drewN nq = W2 at *
  obtain ⟨c0, c1', -, -, -⟩ := (unhide XD).o
  go_wp2
  have OW0 := hide ((OwnF.made W2 36 d.length w.heap.size (unhide KD).size (by unfold maxLen; omega)))
  have qa := Kp.alloc W2 (.cells (madeCells #[.float .f64 0] d.length) 36)
  have KL := hide ((unhide KD).trans qa)
  have XL := hide ((unhide XD).keep qa)
  clear c0 c1' hmk KD XD qa
  generalize W2.alloc (.cells (madeCells #[.float .f64 0] d.length) 36) = w0 at *
  generalize W2.heap.size = G0 at *
  go_loopw [5, 21] (fun u i wr => ∃ k : Nat, k ≤ c ∧ i = .int .i64 k ∧ Hid (OwnF wr 36 w.heap.size u ((List.range (k * r)).map (turnAt r c d))) ∧ Hid (Kp w wr) ∧ Hid (Bx wr B (.slice (some ⟨bs, os, none⟩) 2 cs) (.slice (some ⟨b, off, none⟩) d.length cap))) (fun _ i _ => c - (intOf i).toNat)
  case atStart => exact ⟨0, Nat.zero_le _, rfl, by simpa using OW0, unhide KL, unhide XL⟩
  case round =>
    obtain ⟨k, hk, rfl, OW, KW, XW⟩ := hrel
    generalize wr = w1 at *
    by_cases hlt : k < c
    · go_wp2
      go_loopw [5, 25] (fun u i wr => ∃ j : Nat, j ≤ r ∧ i = .int .i64 j ∧ Hid (OwnF wr 36 w.heap.size u ((List.range (k * r + j)).map (turnAt r c d))) ∧ Hid (Kp w wr) ∧ Hid (Bx wr B (.slice (some ⟨bs, os, none⟩) 2 cs) (.slice (some ⟨b, off, none⟩) d.length cap))) (fun _ i _ => r - (intOf i).toNat)
      case atStart => exact ⟨0, Nat.zero_le _, rfl, unhide OW, unhide KW, unhide XW⟩
      case round =>
        obtain ⟨j, hj, rfl, OI, KI, XI⟩ := hrel
        by_cases hlj : j < r
        · have hq : j * c + k < d.length := by rw [unhide HL]; exact inrow hlj hlt
          have i0 : (j : Int) * (c : Int) = ((j * c : Nat) : Int) := by simp
          have i1 : 0 ≤ (j : Int) * (c : Int) := by rw [i0]; omega
          have i2 : (j : Int) * (c : Int) ≤ 4096 := by rw [i0]; omega
          have hix : ((j : Int) * (c : Int) + (k : Int)).toNat = j * c + k := by rw [i0]; omega
          have hix1 : 0 ≤ (j : Int) * (c : Int) + (k : Int) := by omega
          have hix2 : (j : Int) * (c : Int) + (k : Int) < (d.length : Int) := by rw [i0]; omega
          have hck := (Below.cell (unhide KI) (p := ⟨b, off + (j * c + k), none⟩) hb).trans (unhide HC (j * c + k) hq)
          have ET : Hid ((List.range (k * r + (j + 1))).map (turnAt r c d) = (List.range (k * r + j)).map (turnAt r c d) ++ [d.getD (j * c + k) 0]) := by
            unfold Hid
            rw [← Nat.add_assoc, map_range_snoc, turnAt_at hlj]
          have LB : Hid (((List.range (k * r + j)).map (turnAt r c d)).length ≤ 4096) := by
            have h1 := inrow hlt hlj
            have h2 := unhide HN
            rw [Nat.mul_comm c r] at h1
            unfold Hid
            simp
            omega
          have WY : Hid (W64 (d.getD (j * c + k) 0)) := getD_w64 (unhide WX) _
          obtain ⟨c0, c1', -, -, -⟩ := (unhide XI).o
          clear i0 hq
          generalize d.getD (j * c + k) 0 = x at *
          generalize hL : (List.range (k * r + j)).map (turnAt r c d) = L at *
          have HLL := hide hL
          clear hL
          have qa := Kp.alloc wr (.cells #[.float .f64 x] 36)
          have OW' := hide ((unhide OI).keep qa)
          have XA := hide ((unhide XI).keep qa)
          have AP : Hid (Flts (wr.alloc (.cells #[.float .f64 x] 36)) (.slice (some ⟨wr.heap.size, 0, none⟩) 1 1) [x]) := lit_flts wr 36 [x] #[.float .f64 x] wr.heap.size 1 rfl rfl rfl (by intro z hz; rw [List.mem_singleton.1 hz]; exact unhide WY) (by decide)
          have RM : Hid ((L.length + [x].length) * 8 ≤ 140737488351232) := by
            have := unhide LB
            unfold Hid; rw [List.length_singleton]; omega
          have BS : Hid (w.heap.size ≤ (wr.alloc (.cells #[.float .f64 x] 36)).heap.size) := ((unhide KI).trans qa).size
          have QA := hide ((unhide KI).trans qa)
          have XB : Hid (B < w.heap.size → False) := by have := unhide HB; intro h; omega
          have XO : Hid (∀ w2, (wr.alloc (.cells #[.float .f64 x] 36)).grownBy w2 (Value.ownBlock u5) → Bx w2 B (.slice (some ⟨bs, os, none⟩) 2 cs) (.slice (some ⟨b, off, none⟩) d.length cap)) := by
            intro w2 g
            exact (unhide XA).grown g (unhide OW') (by decide)
          clear qa
          go_wp2_with (at_builtin; go_must (refine wpList_append_flts_at _ rfl (.tmp 28) (.tmp 38) 26 rfl w.heap.size 36 (unhide INFO) Try.underlying26 _ _ L [x] rfl rfl (unhide OW') (unhide AP) (unhide RM) (unhide BS) ?_); intro v2 w2 o2 g2)
          have q2 : Kp w w2 := Kp.of_grown (unhide QA) g2 (fun k hk => (unhide OW').block k hk)
          have O2 := hide o2
          have Q2 := hide q2
          have X2 := hide (unhide XO _ g2)
          clear o2 q2 g2 OW' AP RM BS QA XO XA
          go_wp2
          go_roundw
          case rel => exact ⟨j + 1, by omega, by go_num, by rw [unhide ET]; exact unhide O2, unhide Q2, unhide X2⟩
          case measure => simp [intOf]; omega
        · obtain rfl : j = r := by omega
          have ER : Hid (k * j + j = (k + 1) * j) := by unfold Hid; rw [Nat.add_mul, Nat.one_mul]
          go_wp2
          go_roundw
          case rel => exact ⟨k + 1, by omega, by go_num, by rw [← unhide ER]; exact unhide OI, unhide KI, unhide XI⟩
          case measure => simp [intOf]; omega
    · obtain rfl : k = c := by omega
      go_wp2
      go_ret
      exact ⟨_, rfl, unhide OW, unhide KW⟩

end Go.Proofs.Ythofnmaobmfoiaa
