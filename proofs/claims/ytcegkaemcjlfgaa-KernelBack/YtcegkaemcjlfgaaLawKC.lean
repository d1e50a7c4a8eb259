
/- The law KernelBack, walked. -/
import Derived.Test.YtcegkaemcjlfgaaKerI
import Derived.Test.YtcegkaemcjlfgaaFInt
import Derived.Test.YtcegkaemcjlfgaaOpn
namespace Go.Proofs.Ytcegkaemcjlfgaa
open Go.RowKit Go.ChangeShapes

theorem ofI_w64 (z : Int) : W64 (ofI z) := DD.nearest_lt _ _ _
theorem info_flt4 : (Try.prog.info? 38).map (fun i => (i.zero, i.size, i.bytes)) = some (some (.float .f64 0), 1, 8) := by kernel_rfl

theorem InRowK.at {k : IntKind} {w : World} {a : Option Addr} {len cap : Nat} {zs : List Int} (h : InRowK k w a len cap zs) (h0 : 0 < len) : ∃ b off, a = some ⟨b, off, none⟩ ∧ b < w.heap.size ∧ ∀ i, i < len → w.cell? ⟨b, off + i, none⟩ = some (.int k (zs.getD i 0)) := by
  rcases h with ⟨_, rfl, _, _⟩ | ⟨x, rfl, h1, _, h3, h4, h5⟩
  · omega
  · obtain ⟨b, off, rfl, hb, hc⟩ := cells_at h4 (by omega)
    exact ⟨b, off, rfl, hb, fun i hi => hc i (by omega)⟩
theorem InRowK.wfD {k : IntKind} {w : World} {a : Option Addr} {len cap : Nat} {zs : List Int} (h : InRowK k w a len cap zs) {i : Nat} (hi : i < len) : (Lit.int k (zs.getD i 0)).wf = true := by
  rcases h with ⟨_, rfl, _, _⟩ | ⟨x, rfl, h1, _, h3, h4, h5⟩
  · omega
  · have hl : i < zs.length := by omega
    have e : zs.getD i 0 = zs[i] := by simp [hl]
    rw [e]
    exact h5 _ (List.getElem_mem hl)

/-- the numbers that came in, noughts behind them -/
def fillL (zs : List Int) (l n : Nat) : List Int := (List.range n).map fun i => if i < l then zs.getD i 0 else 0
theorem fillL_length (zs : List Int) (l n : Nat) : (fillL zs l n).length = n := by simp [fillL]
theorem fillL_getD {zs : List Int} {l n i : Nat} (h : i < n) : (fillL zs l n).getD i 0 = if i < l then zs.getD i 0 else 0 := by
  unfold fillL
  simp [h]
theorem map_takeI {f : Int → Nat} {zs : List Int} {k : Nat} (h : k < zs.length) : (zs.take (k + 1)).map f = (zs.take k).map f ++ [f (zs.getD k 0)] := by
  rw [List.take_add_one, show zs[k]? = some (zs.getD k 0) by simp [h], List.map_append]
  rfl

theorem Bx.grown {w w' : World} {row : Option Nat} {B : Nat} {x y : Value} (h : Bx w B x y) (g : w.grownBy w' row) (hne : some B ≠ row) : Bx w' B x y := by
  unfold Bx
  rw [g.block B h.lt hne]
  exact h
theorem OwnF.neBx {w : World} {e : TypeId} {base B : Nat} {v x y : Value} {xs : List Nat} (h : OwnF w e base v xs) (hb : Bx w B x y) (he : e ≠ 25) : some B ≠ v.ownBlock := by
  obtain ⟨_, h | ⟨g, cap, cur, rfl, _, hh, _⟩⟩ := h
  · obtain ⟨rfl, _⟩ := h
    simp [Value.ownBlock]
  · intro e1
    obtain rfl : B = g := by simpa [Value.ownBlock] using e1
    unfold Bx at hb
    rw [hh] at hb
    injection hb with e2
    injection e2 with _ e3
    exact he e3
theorem Bx.set1 {w : World} {B : Nat} {x y : Value} (h : Bx w B x y) (v : Value) : Bx (w.setCell ⟨B, 1, none⟩ v) B x v := by
  unfold Bx at h ⊢
  simp [World.setCell, Array.getElem?_modify, h]
theorem OwnF.setB1 {w : World} {e : TypeId} {base B : Nat} {v x y : Value} {xs : List Nat} (h : OwnF w e base v xs) (hb : Bx w B x y) (he : e ≠ 25) (u : Value) : OwnF (w.setCell ⟨B, 1, none⟩ u) e base v xs := by
  have hn := h.neBx hb he
  obtain ⟨h0, h | ⟨g, cap, cur, rfl, hg, hh, r⟩⟩ := h
  · exact ⟨h0, .inl h⟩
  · have hne : g ≠ B := fun e => hn (by rw [e]; rfl)
    exact ⟨h0, .inr ⟨g, cap, cur, rfl, hg, (Below.heap_setCell w ⟨B, 1, none⟩ u g hne).trans hh, r⟩⟩

theorem fe_cons {k : Int} {s : List Int} {j : Nat} (h : j < s.length) : fe (k :: s) j = fe s j := by
  rw [fe_in (by simp; omega), fe_in h, List.length_cons, show s.length + 1 - 1 - j = (s.length - 1 - j) + 1 by omega]
  rfl
theorem into_front {k : Int} {s : List Int} (h1 : mayB s = true) (h2 : mayB (k :: s) = true) : intoB s (k :: s) = true := by
  refine into_mk h1 h2 (by simp) (fun j => ?_) (fun j => ?_)
  · by_cases hj : j < s.length
    · rw [fe_cons hj]; omega
    · rw [fe_out (xs := s) (by omega)]
      exact fe_pos (may_good h2).2 j
  · unfold agB
    by_cases hj : j < s.length
    · rw [fe_cons hj]; simp
    · rw [fe_out (xs := s) (by omega)]; simp

theorem pick_map : ∀ (S : List Int) (g : Int → Nat) (k : Int), pick S (S.map g) k = List.replicate (S.countP (· == k)) (g k)
  | [], g, k => rfl
  | a :: S, g, k => by
    have ih := pick_map S g k
    simp only [List.map_cons, pick, List.countP_cons, beq_iff_eq]
    split
    · rename_i e
      subst e
      rw [ih]
      simp [List.replicate_succ]
    · rw [ih]; rfl
theorem sumI_rep (x : Int) : ∀ k : Nat, sumI (List.replicate k x) = (k : Int) * x
  | 0 => by simp [sumI]
  | k + 1 => by
    rw [List.replicate_succ, show sumI (x :: List.replicate k x) = x + sumI (List.replicate k x) from rfl, sumI_rep x k]
    rw [show ((k + 1 : Nat) : Int) = (k : Int) + 1 from rfl, Int.add_mul]
    omega

/-- what comes back at place j -/
theorem back_at {s : List Int} {k n : Nat} {xs : List Int} (h1 : mayB s = true) (h2 : mayB ((k : Int) :: s) = true) (hn : prodL s = (n : Int)) (hx : xs.length = n) (hb : ∀ x ∈ xs, x.natAbs ≤ 128) (hk : k ≤ 5) {j : Nat} (hj : j < n) :
    foldC (pick (srcL s ((k : Int) :: s)) (sprD s ((k : Int) :: s) (xs.map ofI)) (j : Int)) = ofI ((k : Int) * xs.getD j 0) := by
  unfold sprD
  rw [pick_map, Int.toNat_natCast]
  have hM : n * k = (prodL ((k : Int) :: s)).toNat := by
    simp only [prodL]
    rw [hn, ← Int.natCast_mul, Int.toNat_natCast, Nat.mul_comm]
  rw [count_many (into_front h1 h2) hn hM j hj]
  have e : (xs.map ofI).getD j 0 = ofI (xs.getD j 0) := by
    simp [hx, hj]
  rw [e, ← List.map_replicate, foldC_ofI (B := 128) 5 (by decide) _ (by simpa using hk) ?_, sumI_rep]
  intro y hy
  rw [(List.mem_replicate.1 hy).2, getD_at (by omega)]
  exact hb _ (List.getElem_mem _)

theorem mul_small : ∀ k : _root_.Fin 5, ∀ x : _root_.Fin 256, DD.mul (ofI ((k.val : Int) + 1)) (ofI ((x.val : Int) - 128)) = some (ofI (((k.val : Int) + 1) * ((x.val : Int) - 128))) := by decide +kernel
theorem mul_back {k : Nat} {x : Int} (h1 : 1 ≤ k) (h5 : k ≤ 5) (hx : -128 ≤ x ∧ x ≤ 127) : floatBits .mul .f64 (ofI (k : Int)) (ofI x) = some (ofI ((k : Int) * x)) := by
  have h := mul_small ⟨k - 1, by omega⟩ ⟨(x + 128).toNat, by omega⟩
  simp only at h
  rw [show ((k - 1 : Nat) : Int) + 1 = (k : Int) by omega, show (((x + 128).toNat : Nat) : Int) - 128 = x by omega] at h
  exact h

theorem fillL_wf {zs : List Int} {l n : Nat} (h : ∀ i, i < l → -128 ≤ zs.getD i 0 ∧ zs.getD i 0 ≤ 127) : ∀ x ∈ fillL zs l n, -128 ≤ x ∧ x ≤ 127 := by
  intro x hx
  obtain ⟨i, _, rfl⟩ := List.mem_map.1 hx
  split
  · rename_i hi
    exact h i hi
  · omega
theorem ds_at {ds : List Nat} {n : Nat} {g : Nat → Nat} (h : ds.map cn = (List.range n).map g) {i : Nat} (hi : i < n) (hg : nanW (g i) = false) : ds.getD i 0 = g i := by
  have hl : ds.length = n := by have := congrArg List.length h; simpa using this
  have h2 := congrArg (fun l => l.getD i 0) h
  have hi' : i < ds.length := by omega
  simp [hi, hi'] at h2
  have e : ds.getD i 0 = ds[i] := by simp [hi']
  rw [e]
  exact is_num h2 rfl hg

set_option maxHeartbeats 4000000 in
theorem back_walk (a0 : Option Addr) (l0 c0 : Nat) (zs : List Int) (q : Option Addr) (g : Nat) (s : List Int) (fr : Int) (w : World) (m0 : l0 ≤ 9223372036854775807) (ms : s.length ≤ 9223372036854775807) (hfr : 0 ≤ fr ∧ fr ≤ 255)
    (h0 : InRowK .i8 w a0 l0 c0 zs) (h1 : s.length ≤ 1000000 → Ints w (.slice q s.length g) s) :
    Calls Try.prog 4 #[.slice a0 l0 c0, .slice q s.length g, .int .u8 fr] w fun e w' => e = .returned (.bool true) ∧ Kp w w' := by
  have INFO := hide Try.infoInt
  have INFF := hide info_flt4
  have A0 := hide h0
  have H1 := hide h1
  clear h0 h1
  by_cases g0 : l0 ≤ 300
  · by_cases g1 : s.length ≤ 40
    · have S_0 := hide (unhide H1 (by omega))
      have b1 : ¬ ((300 : Int) < (l0 : Int)) := by omega
      have b2 : ¬ ((40 : Int) < (s.length : Int)) := by omega
      have b1' : decide ((300 : Int) < (l0 : Int)) = false := decide_eq_false b1
      have b2' : decide ((40 : Int) < (s.length : Int)) = false := decide_eq_false b2
      have WS := hide (unhide S_0).wf
      obtain ⟨k, hk⟩ : ∃ k : Nat, 1 + fr % 5 = (k : Int) := ⟨(1 + fr % 5).toNat, by omega⟩
      have k1 : 1 ≤ k := by omega
      have k5 : k ≤ 5 := by omega
      clear H1
      go_enter Try.func4, Try.ntmps4
      go_wp2_with fail
      refine (awake4_any w).mono ?_
      rintro e w1 ⟨rfl, q1⟩
      have K1 := hide q1
      have S_1 := hide ((unhide S_0).keep q1)
      clear q1 S_0
      go_wp2_with fail
      refine (rsize_any _ s w1 (unhide S_1)).mono ?_
      rintro e w2 ⟨rfl, q2⟩
      have K2 := hide ((unhide K1).trans q2)
      have S_2 := hide ((unhide S_1).keep q2)
      clear q2 S_1 K1
      go_upto_region 7 with fail
      have qa := Kp.alloc w2 (.cells #[.int .i64 (k : Int)] 3)
      have OW := hide (Own.lit w2 3 [(k : Int)] #[.int .i64 (k : Int)] w2.heap.size 1 w2.heap.size rfl rfl rfl (Nat.le_refl _) (by decide))
      have AP := hide ((unhide S_2).keep qa)
      have RM : Hid (([(k : Int)].length + s.length) * 8 ≤ 140737488351232) := by unfold Hid; rw [List.length_singleton]; omega
      have BS : Hid (w2.heap.size ≤ (w2.alloc (.cells #[.int .i64 (k : Int)] 3)).heap.size) := qa.size
      have QA := hide qa
      clear qa hk
      go_wp2_with (at_builtin; go_must (refine wpList_append_ints _ rfl (.tmp 41) (.tmp 42) 22 rfl w2.heap.size 3 (unhide INFO) Try.underlying22 _ _ [(k : Int)] s rfl rfl (unhide OW) (unhide AP) (unhide RM) (unhide BS) ?_); intro v2 w3 o2 g2)
      have q3 : Kp w2 w3 := Kp.of_grown (unhide QA) g2 (fun k hk => (unhide OW).block k hk)
      have T_3 : Hid (Ints w3 v2 ((k : Int) :: s)) := o2.ints (by
        intro y hy
        rcases List.mem_append.1 hy with h | h
        · rw [List.mem_singleton.1 h]; unfold I64; omega
        · exact unhide WS y h) (by rw [List.length_append, List.length_singleton]; omega)
      have K3 := hide ((unhide K2).trans q3)
      have S_3 := hide ((unhide S_2).keep q3)
      clear o2 q3 g2 OW AP RM BS QA S_2 K2
      obtain ⟨at2, ct2, rfl, -⟩ := (unhide T_3).val
      go_wp2_with fail
      refine (rsize_any _ ((k : Int) :: s) w3 (unhide T_3)).mono ?_
      rintro e w4 ⟨rfl, q4⟩
      have K4 := hide ((unhide K3).trans q4)
      have S_4 := hide ((unhide S_3).keep q4)
      have T_4 := hide ((unhide T_3).keep q4)
      clear q4 S_3 T_3 K3
      generalize ((k : Int) :: s).length = tl at *
      cases hs : mayB s
      · have z := szE_ne hs
        generalize szE s = z1 at *
        generalize szN s = z2 at *
        generalize szE ((k : Int) :: s) = z3 at *
        generalize szN ((k : Int) :: s) = z4 at *
        go_wp2
        go_ret
        exact ⟨rfl, unhide K4⟩
      · rw [szE_yes hs, szN_yes hs]
        cases ht : mayB ((k : Int) :: s)
        · have z := szE_ne ht
          generalize prodL s = z2 at *
          generalize szE ((k : Int) :: s) = z3 at *
          generalize szN ((k : Int) :: s) = z4 at *
          go_wp2
          go_ret
          exact ⟨rfl, unhide K4⟩
        · rw [szE_yes ht, szN_yes ht]
          obtain ⟨n, hn, n1⟩ := prodN s (may_good hs).2
          have HS := hide hs
          have HT := hide ht
          have HN := hide hn
          have PT := may_prod ht
          have PT1 := prodL_pos (may_good ht).2
          rw [hn]
          clear hs ht hn
          generalize hm : prodL ((k : Int) :: s) = m at *
          have HMM := hide hm
          clear hm
          by_cases hn3 : n ≤ 300
          · have hn4 : ¬ ((300 : Int) < (n : Int)) := by omega
            have hn5 : decide ((300 : Int) < (n : Int)) = false := decide_eq_false hn4
            go_upto_region 12 with fail
            have XB := hide (Bx.made w4 (.slice q s.length g) (.slice none 0 0))
            have KB := hide (Kp.alloc w4 (.cells #[.slice q s.length g, .slice none 0 0] 25))
            have hBS : w4.heap.size ≤ w4.heap.size := Nat.le_refl _
            generalize w4.alloc (.cells #[.slice q s.length g, .slice none 0 0] 25) = w40 at *
            generalize hB : w4.heap.size = B at XB ⊢
            replace hBS : w4.heap.size ≤ B := by omega
            clear hB
            go_wp2
            go_loopw [14] (fun i wr => ∃ (j : Nat) (v : Value), j ≤ n ∧ i = .int .i64 j ∧ Hid (Bx wr B (.slice q s.length g) v) ∧ Hid (OwnF wr 38 w4.heap.size v (((fillL zs l0 n).take j).map ofI)) ∧ Hid (Kp w4 wr)) (fun i _ => n - (intOf i).toNat)
            case atStart => exact ⟨0, _, Nat.zero_le _, rfl, unhide XB, OwnF.nil _ _ _, unhide KB⟩
            case round =>
              obtain ⟨j, v, hj, rfl, XI, OI, KI⟩ := hrel
              by_cases hlt : j < n
              · obtain ⟨p0, p1, p2, p3, -⟩ := (unhide XI).o
                have LN : Hid ((((fillL zs l0 n).take j).map ofI).length = j) := by unfold Hid; rw [List.length_map, List.length_take, fillL_length]; omega
                have ET := hide (map_takeI (f := ofI) (zs := fillL zs l0 n) (k := j) (by rw [fillL_length]; exact hlt))
                rw [fillL_getD hlt] at ET
                obtain ⟨av, nv, cv, rfl⟩ := (unhide OI).sl
                by_cases hl : j < l0
                · rw [if_pos hl] at ET
                  obtain ⟨b, off, rfl, hb, hc⟩ := (unhide A0).at (by omega)
                  have hck := (Below.cell ((unhide K4).trans (unhide KI)) (p := ⟨b, off + j, none⟩) hb).trans (hc j hl)
                  have hz := bounds_i8 ((unhide A0).wfD hl)
                  have hl' : (j : Int) < (l0 : Int) := by omega
                  clear hc hb
                  generalize zs.getD j 0 = z at *
                  have qa := Kp.alloc wr (.cells #[.float .f64 (floatOfInt .f64 z)] 38)
                  have OW := hide ((unhide OI).keep qa)
                  have AP : Hid (Flts (wr.alloc (.cells #[.float .f64 (floatOfInt .f64 z)] 38)) (.slice (some ⟨wr.heap.size, 0, none⟩) 1 1) [ofI z]) := lit_flts wr 38 [ofI z] #[.float .f64 (ofI z)] wr.heap.size 1 rfl rfl rfl (by intro y hy; cases List.mem_singleton.1 hy; exact ofI_w64 z) (by decide)
                  have RM : Hid (((((fillL zs l0 n).take j).map ofI).length + [ofI z].length) * 8 ≤ 140737488351232) := by unfold Hid; rw [unhide LN, List.length_singleton]; omega
                  have BS : Hid (w4.heap.size ≤ (wr.alloc (.cells #[.float .f64 (floatOfInt .f64 z)] 38)).heap.size) := ((unhide KI).trans qa).size
                  have QA := hide ((unhide KI).trans qa)
                  have XA := hide ((unhide XI).keep qa)
                  clear qa
                  go_wp2_with (at_builtin; go_must (refine wpList_append_flts_at _ rfl (.tmp 76) (.tmp 78) 23 rfl w4.heap.size 38 (unhide INFF) Try.underlying23 _ _ (((fillL zs l0 n).take j).map ofI) [ofI z] rfl rfl (unhide OW) (unhide AP) (unhide RM) (unhide BS) ?_); intro v2 w5 o2 g2; obtain ⟨a2, n2, c2, rfl⟩ := o2.sl; have x2 := (unhide XA).grown g2 ((unhide OW).neBx (unhide XA) (by decide)); obtain ⟨d0, d1, d2, d3, -⟩ := x2.o)
                  have q2 : Kp w4 w5 := Kp.of_grown (unhide QA) g2 (fun k hk => (unhide OW).block k hk)
                  have X5 := hide (x2.set1 (.slice a2 n2 c2))
                  have O5 := hide (o2.setB1 x2 (by decide) (.slice a2 n2 c2))
                  rw [← unhide ET] at O5
                  have K5 := hide (q2.set hBS (i := 1) (.slice a2 n2 c2))
                  clear o2 q2 g2 OW AP RM BS QA XA x2 p0 p1 p2 p3
                  go_wp2
                  go_roundw
                  case rel => exact ⟨j + 1, _, by omega, by go_num, unhide X5, unhide O5, unhide K5⟩
                  case measure => simp [intOf]; omega
                · rw [if_neg hl] at ET
                  have hl' : ¬ (j : Int) < (l0 : Int) := by omega
                  have qa := Kp.alloc wr (.cells #[.float .f64 0] 38)
                  have OW := hide ((unhide OI).keep qa)
                  have AP : Hid (Flts (wr.alloc (.cells #[.float .f64 0] 38)) (.slice (some ⟨wr.heap.size, 0, none⟩) 1 1) [ofI 0]) := by rw [ofI_zero]; exact lit_flts wr 38 [0] #[.float .f64 0] wr.heap.size 1 rfl rfl rfl (by intro y hy; cases List.mem_singleton.1 hy; exact w64_0) (by decide)
                  have RM : Hid (((((fillL zs l0 n).take j).map ofI).length + [ofI 0].length) * 8 ≤ 140737488351232) := by unfold Hid; rw [unhide LN, List.length_singleton]; omega
                  have BS : Hid (w4.heap.size ≤ (wr.alloc (.cells #[.float .f64 0] 38)).heap.size) := ((unhide KI).trans qa).size
                  have QA := hide ((unhide KI).trans qa)
                  have XA := hide ((unhide XI).keep qa)
                  clear qa
                  go_wp2_with (at_builtin; go_must (refine wpList_append_flts_at _ rfl (.tmp 76) (.tmp 78) 23 rfl w4.heap.size 38 (unhide INFF) Try.underlying23 _ _ (((fillL zs l0 n).take j).map ofI) [ofI 0] rfl rfl (unhide OW) (unhide AP) (unhide RM) (unhide BS) ?_); intro v2 w5 o2 g2; obtain ⟨a2, n2, c2, rfl⟩ := o2.sl; have x2 := (unhide XA).grown g2 ((unhide OW).neBx (unhide XA) (by decide)); obtain ⟨d0, d1, d2, d3, -⟩ := x2.o)
                  have q2 : Kp w4 w5 := Kp.of_grown (unhide QA) g2 (fun k hk => (unhide OW).block k hk)
                  have X5 := hide (x2.set1 (.slice a2 n2 c2))
                  have O5 := hide (o2.setB1 x2 (by decide) (.slice a2 n2 c2))
                  rw [← unhide ET] at O5
                  have K5 := hide (q2.set hBS (i := 1) (.slice a2 n2 c2))
                  clear o2 q2 g2 OW AP RM BS QA XA x2 p0 p1 p2 p3
                  go_wp2
                  go_roundw
                  case rel => exact ⟨j + 1, _, by omega, by go_num, unhide X5, unhide O5, unhide K5⟩
                  case measure => simp [intOf]; omega
              · obtain rfl : j = n := by omega
                rw [List.take_of_length_le (by rw [fillL_length]; omega)] at OI
                have XL : Hid ((fillL zs l0 j).length = j) := fillL_length _ _ _
                have XW : Hid (∀ x ∈ fillL zs l0 j, -128 ≤ x ∧ x ≤ 127) := fillL_wf (fun i hi => bounds_i8 ((unhide A0).wfD hi))
                generalize fillL zs l0 j = xs at *
                have XN : Hid (∀ x ∈ xs, x.natAbs ≤ 128) := fun x hx => by have := unhide XW x hx; omega
                have WX : Hid (∀ x ∈ xs.map ofI, W64 x) := fun x hx => by obtain ⟨z, _, rfl⟩ := List.mem_map.1 hx; exact ofI_w64 z
                have D5 := hide ((unhide OI).flts (unhide WX) (by rw [List.length_map, unhide XL]; omega))
                obtain ⟨pd, cd, rfl, -⟩ := (unhide D5).val
                have MS : Hid (mayT s (xs.map ofI) = true) := by
                  unfold Hid mayT
                  rw [unhide HS, List.length_map, unhide XL, unhide HN]
                  simp
                have IT := hide (into_front (unhide HS) (unhide HT))
                have P1 : Hid (kspS s (xs.map ofI) ((k : Int) :: s) = ((k : Int) :: s) ∧ kspD s (xs.map ofI) ((k : Int) :: s) = sprD s ((k : Int) :: s) (xs.map ofI) ∧ kspE s (xs.map ofI) ((k : Int) :: s) = 0) := ksp_yes (by rw [unhide MS, unhide IT]; rfl)
                have MT := hide (sprD_may (d := xs.map ofI) (unhide IT))
                have P2 := hide (gat_yes (f := s) (t := (k : Int) :: s) (d := sprD s ((k : Int) :: s) (xs.map ofI)) (by rw [unhide MT, unhide IT]; rfl))
                have BK : Hid (∀ i, i < j → foldC (pick (srcL s ((k : Int) :: s)) (sprD s ((k : Int) :: s) (xs.map ofI)) (i : Int)) = ofI ((k : Int) * xs.getD i 0)) := fun i hi => back_at (unhide HS) (unhide HT) (unhide HN) (unhide XL) (unhide XN) k5 hi
                have LM : Hid (((sprD s ((k : Int) :: s) (xs.map ofI)).length : Int) = m) := (mayT_len (unhide MT)).trans (unhide HMM)
                rw [List.length_map, unhide XL] at D5 XI
                have K5 := hide ((unhide K4).trans (unhide KI))
                have S_5 := hide ((unhide S_4).keep (unhide KI))
                have T_5 := hide ((unhide T_4).keep (unhide KI))
                obtain ⟨p0, p1, -, -, -⟩ := (unhide XI).o
                clear KI OI S_4 T_4 K4 XB KB
                generalize wr = w5 at *
                go_wp2_with fail
                refine (Kspread_all _ _ _ s ((k : Int) :: s) (xs.map ofI) w5 (unhide S_5) (unhide D5) (unhide T_5)).mono ?_
                rw [(unhide P1).1, (unhide P1).2.1, (unhide P1).2.2]
                rintro e w6 ⟨⟨au, cu, bu, du, rfl, su, fu⟩, q6⟩
                have SU := hide su
                have FU := hide fu
                clear su fu
                generalize ((k : Int) :: s).length = tl2 at *
                generalize sprD s ((k : Int) :: s) (xs.map ofI) = sd at *
                have S_6 := hide ((unhide S_5).keep q6)
                have D6 := hide ((unhide D5).keep q6)
                have X6 := hide ((unhide XI).keep q6)
                have K6 := hide ((unhide K5).trans q6)
                clear q6 p0 p1 S_5 D5 XI K5 T_5 P1
                go_upto_region 20 with fail
                have YB := hide (Bx.made w6 (.slice au tl2 cu) (.slice bu sd.length du))
                have qa := Kp.alloc w6 (.cells #[.slice au tl2 cu, .slice bu sd.length du] 25)
                have S_7 := hide ((unhide S_6).keep qa)
                have D7 := hide ((unhide D6).keep qa)
                have X7 := hide ((unhide X6).keep qa)
                have K7 := hide ((unhide K6).trans qa)
                have SU7 := hide ((unhide SU).keep qa)
                have FU7 := hide ((unhide FU).keep qa)
                clear qa S_6 D6 X6 K6 SU FU
                generalize w6.alloc (.cells #[.slice au tl2 cu, .slice bu sd.length du] 25) = w7 at *
                generalize w6.heap.size = Y at *
                obtain ⟨y0, y1, -, -, -⟩ := (unhide YB).o
                go_wp2_with fail
                refine (Kgather_all _ _ _ ((k : Int) :: s) s sd w7 (unhide SU7) (unhide FU7) (unhide S_7)).mono ?_
                rw [(unhide P2).1, (unhide P2).2.1, (unhide P2).2.2]
                rintro e w8 ⟨ds, ⟨av, cv, bv, dv, rfl, sv, fv⟩, hcn, q8⟩
                have LDS : Hid (ds.length = j) := by
                  have := congrArg List.length hcn
                  unfold Hid
                  rw [List.length_map, List.length_map, List.length_range, unhide HN, Int.toNat_natCast] at this
                  exact this
                have DV : Hid (∀ i, i < j → ds.getD i 0 = ofI ((k : Int) * xs.getD i 0)) := by
                  intro i hi
                  have e := unhide BK i hi
                  rw [← e]
                  rw [unhide HN, Int.toNat_natCast] at hcn
                  exact ds_at hcn hi (by rw [e]; exact nan_ofI _)
                have FV := hide fv
                have D8 := hide ((unhide D7).keep q8)
                have X8 := hide ((unhide X7).keep q8)
                have Y8 := hide ((unhide YB).keep q8)
                have K8 := hide ((unhide K7).trans q8)
                clear sv fv hcn q8 y0 y1 D7 X7 YB K7 SU7 FU7 S_7 P2 BK
                go_upto_region 21 with fail
                have ZB := hide (Bx.made w8 (.slice av s.length cv) (.slice bv ds.length dv))
                have qa := Kp.alloc w8 (.cells #[.slice av s.length cv, .slice bv ds.length dv] 25)
                have D9 := hide ((unhide D8).keep qa)
                have X9 := hide ((unhide X8).keep qa)
                have Y9 := hide ((unhide Y8).keep qa)
                have K9 := hide ((unhide K8).trans qa)
                have F9 := hide ((unhide FV).keep qa)
                clear qa D8 X8 Y8 K8 FV
                generalize w8.alloc (.cells #[.slice av s.length cv, .slice bv ds.length dv] 25) = w9 at *
                generalize w8.heap.size = Z at *
                have hb1 : ((sd.length : Int) != m) = false := by rw [unhide LM]; simp
                have hb2 : ((ds.length : Int) != (j : Int)) = false := by rw [unhide LDS]; simp
                obtain ⟨y0, y1, -, -, -⟩ := (unhide Y9).o
                obtain ⟨z0, z1, -, -, -⟩ := (unhide ZB).o
                go_wp2
                clear y0 y1 z0 z1
                go_loopw [20] (fun i wr => ∃ i' : Nat, i' ≤ j ∧ i = .int .i64 i' ∧ Hid (Kp w9 wr)) (fun i _ => j - (intOf i).toNat)
                case atStart => exact ⟨0, Nat.zero_le _, rfl, Kp.refl _⟩
                case round =>
                  obtain ⟨i, hi, rfl, KR⟩ := hrel
                  by_cases hlt : i < j
                  · obtain ⟨x0, x1, -, -, -⟩ := ((unhide X9).keep (unhide KR)).o
                    obtain ⟨z0, z1, -, -, -⟩ := ((unhide ZB).keep (unhide KR)).o
                    obtain ⟨b1, o1, rfl, hb1', hc1⟩ := flts_at (unhide D9) (by rw [List.length_map, unhide XL]; omega)
                    obtain ⟨b2', o2, rfl, hb2', hc2⟩ := flts_at (unhide F9) (by rw [unhide LDS]; omega)
                    have c1 := (Below.cell (unhide KR) (p := ⟨b1, o1 + i, none⟩) hb1').trans (hc1 i (by rw [List.length_map, unhide XL]; omega))
                    have c2 := (Below.cell (unhide KR) (p := ⟨b2', o2 + i, none⟩) hb2').trans (hc2 i (by rw [unhide LDS]; omega))
                    have ex : (xs.map ofI).getD i 0 = ofI (xs.getD i 0) := by simp [unhide XL, hlt]
                    rw [ex] at c1
                    rw [unhide DV i hlt] at c2
                    have hxw := unhide XW (xs.getD i 0) (by rw [getD_at (by rw [unhide XL]; exact hlt)]; exact List.getElem_mem _)
                    have hids : i < ds.length := by rw [unhide LDS]; exact hlt
                    have hids' : (i : Int) < (ds.length : Int) := by omega
                    have hij : (i : Int) < (j : Int) := by omega
                    clear hc1 hc2 ex hb1' hb2'
                    generalize xs.getD i 0 = x at *
                    have hop : ∀ t w, (binOp .mul t (.float .f64 (floatOfInt .f64 (k : Int))) (.float .f64 (ofI x))).run Try.prog w = .ok (.float .f64 (ofI ((k : Int) * x))) w := fun t w => run_float_arith w .mul t .f64 _ _ _ (mul_back k1 k5 hxw)
                    have hq1 : (FloatKind.f64.format.order (ofI ((k : Int) * x)) (ofI ((k : Int) * x)) == some .eq) = true := by
                      have := order_self (ofI ((k : Int) * x))
                      rw [nan_ofI] at this
                      exact this
                    have hq2 : (FloatKind.f64.format.order (ofI ((k : Int) * x)) (ofI ((k : Int) * x)) != some .eq) = false := by
                      unfold bne
                      rw [hq1]
                      rfl
                    generalize ofI ((k : Int) * x) = r at *
                    generalize ofI x = y at *
                    go_wp2
                    go_quiet (fail)
                    go_wp2
                    go_roundw
                    case rel => exact ⟨i + 1, by omega, by go_num, (unhide KR).trans (Kp.drewN _ _)⟩
                    case measure => simp [intOf]; omega
                  · go_wp2
                    go_ret
                    exact ⟨rfl, (unhide K9).trans (unhide KR)⟩
          · have hn4 : (300 : Int) < (n : Int) := by omega
            have hn5 : decide ((300 : Int) < (n : Int)) = true := decide_eq_true hn4
            go_wp2
            go_ret
            exact ⟨rfl, unhide K4⟩
    · have b1 : ¬ ((300 : Int) < (l0 : Int)) := by omega
      have b2 : ((40 : Int) < (s.length : Int)) := by omega
      have b1' : decide ((300 : Int) < (l0 : Int)) = false := decide_eq_false b1
      have b2' : decide ((40 : Int) < (s.length : Int)) = true := decide_eq_true b2
      clear A0 H1
      go_enter Try.func4, Try.ntmps4
      go_wp2_with fail
      refine (awake4_any w).mono ?_
      rintro e w1 ⟨rfl, q1⟩
      go_wp2
      go_ret
      exact ⟨rfl, q1⟩
  · have b1 : ((300 : Int) < (l0 : Int)) := by omega
    have b1' : decide ((300 : Int) < (l0 : Int)) = true := decide_eq_true b1
    clear A0 H1
    go_enter Try.func4, Try.ntmps4
    go_wp2_with fail
    refine (awake4_any w).mono ?_
    rintro e w1 ⟨rfl, q1⟩
    go_wp2
    go_ret
    exact ⟨rfl, q1⟩

end Go.Proofs.Ytcegkaemcjlfgaa
