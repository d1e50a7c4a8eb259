
/- Contract of what lays a matrix of small whole numbers. -/
import Derived.Test.YthofnmaobmfoiaaMatN
namespace Go.Proofs.Ythofnmaobmfoiaa
open Go.RowKit Go.ChangeShapes

/-- small whole numbers that lie in memory -/
def Rw8 (w : World) (a0 : Option Addr) (l0 : Nat) (zs : List Int) : Prop := ∀ i, i < l0 → (∃ b off, a0 = some ⟨b, off, none⟩ ∧ b < w.heap.size ∧ w.cell? ⟨b, off + i, none⟩ = some (.int .i8 (zs.getD i 0))) ∧ -128 ≤ zs.getD i 0 ∧ zs.getD i 0 ≤ 127
theorem Rw8.keep {w w' : World} {a0 : Option Addr} {l0 : Nat} {zs : List Int} (h : Rw8 w a0 l0 zs) (k : Kp w w') : Rw8 w' a0 l0 zs := by
  intro i hi
  obtain ⟨⟨b, off, e, hb, hc⟩, h2⟩ := h i hi
  exact ⟨⟨b, off, e, Nat.lt_of_lt_of_le hb k.size, (Below.cell k (p := ⟨b, off + i, none⟩) hb).trans hc⟩, h2⟩
theorem InRowK.rw8 {w : World} {a : Option Addr} {len cap : Nat} {zs : List Int} (h : InRowK .i8 w a len cap zs) : Rw8 w a len zs := by
  intro i hi
  obtain ⟨b, off, e, hb, hc⟩ := h.at (by omega)
  exact ⟨⟨b, off, e, hb, hc i hi⟩, bounds_i8 (h.wfD hi)⟩

/-- the number at a place of the row, noughts behind it -/
def mofZ (zs : List Int) (l0 fr i : Nat) : Int := if fr + i < l0 then zs.getD (fr + i) 0 else 0
def mofT (zs : List Int) (l0 fr j : Nat) : List Nat := (List.range j).map (fun i => ofI (mofZ zs l0 fr i))
theorem mofT_length (zs : List Int) (l0 fr j : Nat) : (mofT zs l0 fr j).length = j := by simp [mofT]
theorem mofT_snoc (zs : List Int) (l0 fr j : Nat) : mofT zs l0 fr (j + 1) = mofT zs l0 fr j ++ [ofI (mofZ zs l0 fr j)] := map_range_snoc (f := fun i => ofI (mofZ zs l0 fr i)) j

theorem OwnF.setBx5 {w : World} {e : TypeId} {base B : Nat} {v x y : Value} {xs : List Nat} (h : OwnF w e base v xs) (hb : Bx w B x y) (he : e ≠ 28) (u u' : Value) : OwnF ((w.setCell ⟨B, 0, none⟩ u).setCell ⟨B, 1, none⟩ u') e base v xs := by
  have hn := h.neBx hb he
  obtain ⟨h0, h | ⟨g, cap, cur, rfl, hg, hh, r⟩⟩ := h
  · exact ⟨h0, .inl h⟩
  · have hne : g ≠ B := fun e => hn (by rw [e]; rfl)
    exact ⟨h0, .inr ⟨g, cap, cur, rfl, hg, ((Below.heap_setCell _ ⟨B, 1, none⟩ u' g hne).trans (Below.heap_setCell w ⟨B, 0, none⟩ u g hne)).trans hh, r⟩⟩

set_option maxHeartbeats 4000000 in
theorem mof_any (a0 : Option Addr) (l0 c0 : Nat) (zs : List Int) (a b fr : Nat) (w : World) (ha : 1 ≤ a ∧ a ≤ 4) (hb : 1 ≤ b ∧ b ≤ 4) (hf : fr ≤ 32) (hl0 : l0 ≤ 9223372036854775807) (h0 : Rw8 w a0 l0 zs) :
    Calls Try.prog 5 #[.int .i64 (a : Int), .int .i64 (b : Int), .slice a0 l0 c0, .int .i64 (fr : Int)] w fun e w' => ∃ L a2 n2 c2, e = .returned (.agg #[.slice (some ⟨L, 0, none⟩) 2 2, .slice a2 n2 c2]) ∧ Own w' 3 w.heap.size (.slice (some ⟨L, 0, none⟩) 2 2) [(a : Int), (b : Int)] ∧ OwnF w' 36 w.heap.size (.slice a2 n2 c2) (mofT zs l0 fr (a * b)) ∧ Kp w w' := by
  have A0 := hide h0
  have INFF := hide info_flt5
  have hab : a * b ≤ 4 * 4 := Nat.mul_le_mul ha.2 hb.2
  have e0 : (a : Int) * (b : Int) = ((a * b : Nat) : Int) := by simp
  have e1 : 0 ≤ (a : Int) * (b : Int) := by rw [e0]; omega
  have e2 : (a : Int) * (b : Int) ≤ 16 := by rw [e0]; omega
  have E0 := hide e0
  clear h0 e0
  go_enter Try.func5, Try.ntmps5
  go_upto_region 2 with fail
  have hs2 : w.heap.size + 2 = ((w.alloc (.cells #[.slice none 0 0, .slice none 0 0] 28)).alloc (.cells #[.int .i64 (a : Int), .int .i64 (b : Int)] 3)).heap.size := by simp
  have hs1 : w.heap.size + 1 = (w.alloc (.cells #[.slice none 0 0, .slice none 0 0] 28)).heap.size := by simp
  rw [hs2, hs1]
  clear hs1 hs2
  have XR0 := Bx.made w (.slice none 0 0) (.slice none 0 0)
  have KR0 := Kp.alloc w (.cells #[.slice none 0 0, .slice none 0 0] 28)
  have OL0 := Own.lit (w.alloc (.cells #[.slice none 0 0, .slice none 0 0] 28)) 3 [(a : Int), (b : Int)] #[.int .i64 (a : Int), .int .i64 (b : Int)] (w.alloc (.cells #[.slice none 0 0, .slice none 0 0] 28)).heap.size 2 w.heap.size rfl rfl rfl KR0.size (by decide)
  have KL0 := Kp.alloc (w.alloc (.cells #[.slice none 0 0, .slice none 0 0] 28)) (.cells #[.int .i64 (a : Int), .int .i64 (b : Int)] 3)
  have XR := hide (XR0.keep KL0)
  have KL := hide (KR0.trans KL0)
  have OL := hide OL0
  have hRw : Hid (w.heap.size ≤ w.heap.size) := Nat.le_refl _
  clear XR0 KR0 OL0 KL0
  generalize (w.alloc (.cells #[.slice none 0 0, .slice none 0 0] 28)).alloc (.cells #[.int .i64 (a : Int), .int .i64 (b : Int)] 3) = wL at *
  generalize (w.alloc (.cells #[.slice none 0 0, .slice none 0 0] 28)).heap.size = L at *
  have XT := hide (Bx.made wL (.slice (some ⟨L, 0, none⟩) 2 2) (.slice none 0 0))
  have KT := hide (Kp.alloc wL (.cells #[.slice (some ⟨L, 0, none⟩) 2 2, .slice none 0 0] 28))
  generalize wL.alloc (.cells #[.slice (some ⟨L, 0, none⟩) 2 2, .slice none 0 0] 28) = wT at *
  generalize hT : wL.heap.size = T at XT ⊢
  have HT : Hid (wL.heap.size ≤ T) := Nat.le_of_eq hT
  clear hT
  generalize hR : w.heap.size = R at XR ⊢
  have HR : Hid (w.heap.size ≤ R) := Nat.le_of_eq hR
  clear hR
  go_wp2
  go_loopw [10] (fun i wr => ∃ (j : Nat) (v : Value), j ≤ a * b ∧ i = .int .i64 j ∧ Hid (Bx wr T (.slice (some ⟨L, 0, none⟩) 2 2) v) ∧ Hid (OwnF wr 36 wL.heap.size v (mofT zs l0 fr j)) ∧ Hid (Kp wL wr)) (fun i _ => a * b - (intOf i).toNat)
  case atStart => exact ⟨0, _, Nat.zero_le _, rfl, unhide XT, OwnF.nil _ _ _, unhide KT⟩
  case round =>
    obtain ⟨j, v, hj, rfl, XI, OI, KI⟩ := hrel
    obtain ⟨av, nv, cv, rfl⟩ := (unhide OI).sl
    by_cases hlt : j < a * b
    · have hltI : (j : Int) < (a : Int) * (b : Int) := by rw [unhide E0]; omega
      obtain ⟨p0, p1, p2, p3, p4⟩ := (unhide XI).o
      have ET := hide (mofT_snoc zs l0 fr j)
      by_cases hl : fr + j < l0
      · have ez : mofZ zs l0 fr j = zs.getD (fr + j) 0 := if_pos hl
        rw [ez] at ET
        obtain ⟨⟨bb, oo, rfl, -, hck⟩, hz⟩ := ((unhide A0).keep ((unhide KL).trans (unhide KI))) (fr + j) hl
        have hlI : (fr : Int) + (j : Int) < (l0 : Int) := by omega
        have hlN : ((fr : Int) + (j : Int)).toNat = fr + j := by omega
        clear ez
        generalize zs.getD (fr + j) 0 = z at *
        have qa := Kp.alloc wr (.cells #[.float .f64 (floatOfInt .f64 z)] 36)
        have OW := hide ((unhide OI).keep qa)
        have AP : Hid (Flts (wr.alloc (.cells #[.float .f64 (floatOfInt .f64 z)] 36)) (.slice (some ⟨wr.heap.size, 0, none⟩) 1 1) [ofI z]) := lit_flts wr 36 [ofI z] #[.float .f64 (ofI z)] wr.heap.size 1 rfl rfl rfl (by intro y hy; cases List.mem_singleton.1 hy; exact ofI_w64 z) (by decide)
        have RM : Hid (((mofT zs l0 fr j).length + [ofI z].length) * 8 ≤ 140737488351232) := by unfold Hid; rw [mofT_length, List.length_singleton]; omega
        have BS : Hid (wL.heap.size ≤ (wr.alloc (.cells #[.float .f64 (floatOfInt .f64 z)] 36)).heap.size) := ((unhide KI).trans qa).size
        have QA := hide ((unhide KI).trans qa)
        have XA := hide ((unhide XI).keep qa)
        clear qa
        go_wp2_with (at_builtin; go_must (refine wpList_append_flts_at _ rfl (.tmp 37) (.tmp 39) 26 rfl wL.heap.size 36 (unhide INFF) Try.underlying26 _ _ (mofT zs l0 fr j) [ofI z] rfl rfl (unhide OW) (unhide AP) (unhide RM) (unhide BS) ?_); intro v2 w5 o2 g2; obtain ⟨a2, n2, c2, rfl⟩ := o2.sl; have x2 := (unhide XA).grown g2 (unhide OW) (by decide); obtain ⟨d0, d1, d2, d3, -⟩ := x2.o)
        have FF := hide (box_after (unhide QA) (Nat.le_refl _) (unhide HT) (unhide OW) (And.intro o2 (And.intro g2 x2)))
        rw [← unhide ET] at FF
        clear o2 g2 OW AP RM BS QA XA x2 p0 p1 p2 p3
        go_wp2
        go_roundw
        case rel => exact ⟨j + 1, _, by omega, by go_num, (unhide FF).1, (unhide FF).2.1, (unhide FF).2.2⟩
        case measure => simp [intOf]; omega
      · have ez : mofZ zs l0 fr j = 0 := if_neg hl
        rw [ez] at ET
        have hlI : ¬ (fr : Int) + (j : Int) < (l0 : Int) := by omega
        clear ez
        have qa := Kp.alloc wr (.cells #[.float .f64 0] 36)
        have OW := hide ((unhide OI).keep qa)
        have AP : Hid (Flts (wr.alloc (.cells #[.float .f64 0] 36)) (.slice (some ⟨wr.heap.size, 0, none⟩) 1 1) [ofI 0]) := by rw [ofI_zero]; exact lit_flts wr 36 [0] #[.float .f64 0] wr.heap.size 1 rfl rfl rfl (by intro y hy; cases List.mem_singleton.1 hy; exact w64_0) (by decide)
        have RM : Hid (((mofT zs l0 fr j).length + [ofI 0].length) * 8 ≤ 140737488351232) := by unfold Hid; rw [mofT_length, List.length_singleton]; omega
        have BS : Hid (wL.heap.size ≤ (wr.alloc (.cells #[.float .f64 0] 36)).heap.size) := ((unhide KI).trans qa).size
        have QA := hide ((unhide KI).trans qa)
        have XA := hide ((unhide XI).keep qa)
        clear qa
        go_wp2_with (at_builtin; go_must (refine wpList_append_flts_at _ rfl (.tmp 37) (.tmp 39) 26 rfl wL.heap.size 36 (unhide INFF) Try.underlying26 _ _ (mofT zs l0 fr j) [ofI 0] rfl rfl (unhide OW) (unhide AP) (unhide RM) (unhide BS) ?_); intro v2 w5 o2 g2; obtain ⟨a2, n2, c2, rfl⟩ := o2.sl; have x2 := (unhide XA).grown g2 (unhide OW) (by decide); obtain ⟨d0, d1, d2, d3, -⟩ := x2.o)
        have FF := hide (box_after (unhide QA) (Nat.le_refl _) (unhide HT) (unhide OW) (And.intro o2 (And.intro g2 x2)))
        rw [← unhide ET] at FF
        clear o2 g2 OW AP RM BS QA XA x2 p0 p1 p2 p3
        go_wp2
        go_roundw
        case rel => exact ⟨j + 1, _, by omega, by go_num, (unhide FF).1, (unhide FF).2.1, (unhide FF).2.2⟩
        case measure => simp [intOf]; omega
    · have hltI : ¬ (j : Int) < (a : Int) * (b : Int) := by rw [unhide E0]; omega
      have hjn : a * b = j := by omega
      rw [← hjn] at OI
      generalize wr = w3 at *
      obtain ⟨p0, p1, -, -, -⟩ := (unhide XI).o
      have xr := (unhide XR).keep (unhide KI)
      obtain ⟨r0, r1, r2, r3, -⟩ := xr.o
      have yr := xr.set (.slice (some ⟨L, 0, none⟩) 2 2) (.slice av nv cv)
      obtain ⟨z0, z1, -, -, -⟩ := yr.o
      have OF := hide ((((unhide OL).keep (unhide KI)).setBx xr (by decide) (.slice (some ⟨L, 0, none⟩) 2 2) (.slice av nv cv)))
      have DF := hide (((unhide OI).weak (unhide KL).size).setBx5 xr (by decide) (.slice (some ⟨L, 0, none⟩) 2 2) (.slice av nv cv))
      have KF := hide ((((unhide KL).trans (unhide KI)).set (unhide HR) (i := 0) (.slice (some ⟨L, 0, none⟩) 2 2)).set (unhide HR) (i := 1) (.slice av nv cv))
      clear xr yr hjn
      go_wp2
      generalize ((w3.setCell ⟨R, 0, none⟩ (.slice (some ⟨L, 0, none⟩) 2 2)).setCell ⟨R, 1, none⟩ (.slice av nv cv)) = w9 at *
      refine bodyPost_ret (v := .agg #[.slice (some ⟨L, 0, none⟩) 2 2, .slice av nv cv]) (by simp [results, Try.results5, go_sem, z0, z1]) rfl ⟨L, av, nv, cv, rfl, unhide OF, unhide DF, unhide KF⟩

end Go.Proofs.Ythofnmaobmfoiaa
