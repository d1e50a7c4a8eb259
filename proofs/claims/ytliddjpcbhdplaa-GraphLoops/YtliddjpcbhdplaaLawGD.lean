
/- The law GraphLoops: graphs that Call each other in any way. -/
import Derived.Test.YtliddjpcbhdplaaGlA
import Derived.Test.YtliddjpcbhdplaaRgE
import Derived.Deep.RegionLaw
namespace Go.Proofs.Ytliddjpcbhdplaa
open Go.RowKit

theorem InRows.oneR {k : IntKind} {w : World} {a : Option Addr} {len cap : Nat} (h : InRows k w a len cap) {i : Nat} (hi : i < len) : ∃ b off a' l' c' zs, a = some ⟨b, off, none⟩ ∧ w.cell? ⟨b, off + i, none⟩ = some (.slice a' l' c') ∧ InRowK k w a' l' c' zs := by
  rcases h with ⟨_, h0, _⟩ | ⟨x, rfl, h1, h2, h3⟩
  · omega
  · obtain ⟨b, off, rfl, hb, hc⟩ := h3 (by omega)
    obtain ⟨a', l', c', zs, h4, h5⟩ := hc i hi
    exact ⟨b, off, a', l', c', zs, rfl, h4, h5⟩
theorem InRowK.oneU {w : World} {a : Option Addr} {len cap : Nat} {zs : List Int} (h : InRowK .u8 w a len cap zs) {i : Nat} (hi : i < len) : ∃ b off, ∃ z : Nat, a = some ⟨b, off, none⟩ ∧ z < 256 ∧ w.cell? ⟨b, off + i, none⟩ = some (.int .u8 (z : Int)) := by
  rcases h with ⟨_, h0, _⟩ | ⟨x, rfl, h1, h2, h3, h4, h5⟩
  · omega
  · obtain ⟨b, off, rfl, _, hc⟩ := cells_at h4 (by omega)
    have hz := h5 (zs.getD i 0) (by
      have hl : i < zs.length := by omega
      have e : zs.getD i 0 = zs[i] := by simp [hl]
      rw [e]
      exact List.getElem_mem hl)
    have hb := bounds_u8 hz
    refine ⟨b, off, (zs.getD i 0).toNat, rfl, by omega, ?_⟩
    have e : (((zs.getD i 0).toNat : Nat) : Int) = zs.getD i 0 := by omega
    rw [e]
    exact hc i (by omega)

theorem cells_newL (w : World) (cs : List Value) (e : TypeId) (b j : Nat) (u : Value) (hb : b = w.heap.size) (h : cs[j]? = some u) : (w.alloc (.cells cs.toArray e)).cell? ((⟨b, 0, none⟩ : Addr).add j) = some u := by
  subst hb
  rw [Addr.add_lit, Nat.zero_add, Blk.cells (heap_new w (.cells cs.toArray e) _ rfl)]
  simpa using h

set_option maxRecDepth 20000 in
set_option maxHeartbeats 16000000 in
theorem loops_walk (a0 : Option Addr) (len0 cap0 : Nat) (w : World) (h : InRows .u8 w a0 len0 cap0) :
    Calls Try.prog 4 #[.slice a0 len0 cap0] w fun e w' => e = .returned (.bool true) ∧ Kp w w' := by
  have H := hide h
  clear h
  go_enter Try.func4, Try.ntmps4
  go_wp2_with fail
  refine (awake10_any w).mono ?_
  rintro e w1 ⟨rfl, k1⟩
  have K1 := hide k1
  clear k1
  by_cases hz : len0 = 0
  · have hzI : ((len0 : Int) == 0) = true := by rw [hz]; rfl
    subst hz
    go_wp2
    go_ret
    exact ⟨rfl, unhide K1⟩
  have hzI : ((len0 : Int) == 0) = false := beq_eq_false_iff_ne.2 (by omega)
  by_cases h16 : 16 < len0
  · have h16I : (16 : Int) < (len0 : Int) := by omega
    go_wp2
    go_ret
    exact ⟨rfl, unhide K1⟩
  have h16I : ¬ (16 : Int) < (len0 : Int) := by omega
  go_wp2
  go_loopw [4, 3] (fun i v wr => ∃ i0 : Nat, i0 ≤ len0 ∧ i = .int .i64 i0 ∧ ∃ (vl : Value) (gs : List (List Nd)), vl = v ∧ gs.length = i0 ∧ Hid (LA w1 wr vl gs)) (fun i _ _ => len0 - (intOf i).toNat)
  case atStart => exact ⟨0, Nat.zero_le _, rfl, _, [], rfl, rfl, LA.nil w1⟩
  case round =>
    obtain ⟨i0, hi, rfl, vl, gs, hvl, hgl, HL⟩ := hrel
    subst hvl
    by_cases hlt : i0 < len0
    · have hltI : (i0 : Int) < (len0 : Int) := by omega
      obtain ⟨b, off, a', l', c', zs, rfl, hc0, hrow⟩ := (unhide H).oneR hlt
      have hlm := hrow.max
      have HR := hide hrow
      have HCL := hide hc0
      have KS := hide ((unhide K1).trans (unhide HL).kp)
      have cl := (unhide KS).cellT hc0
      clear hrow hc0
      by_cases h200 : 200 < l'
      · have h200I : (200 : Int) < (l' : Int) := by omega
        go_wp2
        go_ret
        exact ⟨rfl, unhide KS⟩
      · have h200I : ¬ (200 : Int) < (l' : Int) := by omega
        have HG0 : Hid (Gbd wr ((wr.alloc (.cells #[.int .i64 1, .slice none 0 0, .slice none 0 0, .int .i64 0, .slice none 0 0, .slice none 0 0, .slice none 0 0] 41)).alloc (.cells #[.slice (some ⟨wr.heap.size, 0, none⟩) 1 1] 34)) (.slice (some ⟨wr.heap.size, 0, none⟩) 1 1) [ndLf]) := gbd_start wr
        go_wp2
        generalize World.alloc (World.alloc wr _) _ = w5 at *
        obtain ⟨wS, hwS⟩ : ∃ x, x = wr := ⟨_, rfl⟩
        subst hwS
        clear cl
        go_loopw [6] (fun j wi => ∃ q : Nat, q ≤ l' ∧ j = .int .i64 q ∧ ∃ (v : Value) (ns : List Nd), ns.length = q + 1 ∧ Hid (Gbd wS wi v ns)) (fun j _ => l' - (intOf j).toNat)
        case atStart => exact ⟨0, Nat.zero_le _, rfl, _, [ndLf], rfl, unhide HG0⟩
        case round =>
          clear HG0
          obtain ⟨q, hq, rfl, v, ns, hnl0, HI⟩ := hrel
          have hnl := hide hnl0
          have hnb : ns.length ≤ 201 := by omega
          clear hnl0
          have cl := ((unhide KS).trans (unhide HI).kp).cellT (unhide HCL)
          obtain ⟨g, c, xs, rfl, hown, hrn⟩ := (unhide HI).row
          have HOW := hide hown
          have HRN := hide hrn
          have cb : wr.cell? ⟨wS.heap.size + 1, 0, none⟩ = some (.slice (some ⟨g, 0, none⟩) ns.length c) := by rw [Blk.cells (unhide HI).box]; rfl
          clear hown hrn
          by_cases hqc : q < l'
          · have hqI : (q : Int) < (l' : Int) := by omega
            obtain ⟨b2, off2, z, rfl, hz256, hcz⟩ := (unhide HR).oneU hqc
            have cz := ((unhide KS).trans (unhide HI).kp).cellT hcz
            have hmod : ((z : Int)).tmod (len0 : Int) = ((z % len0 : Nat) : Int) := by rw [Int.tmod_eq_emod_of_nonneg (by omega)]; omega
            have hn0 : ¬ (len0 : Int) = 0 := by omega
            have hm1 := Nat.mod_lt z (show 0 < len0 by omega)
            clear hcz
            have HT64 : Hid (I64 ((IntKind.i64.wrap (z : Int)).tmod (len0 : Int))) := by
              have e : IntKind.i64.wrap (z : Int) = (z : Int) := by rw [IntKind.wrap_i64]; omega
              unfold Hid I64
              rw [e, hmod]
              omega
            clear hmod hm1
            have ka1 := Kp.alloc wr (.cells #[.int .i64 0] 3)
            have ka2 := Kp.alloc (wr.alloc (.cells #[.int .i64 0] 3)) (.cells #[.int .i64 16, .slice (some ⟨wr.heap.size, 0, none⟩) 1 1, .slice none 0 0, .int .i64 ((IntKind.i64.wrap (z : Int)).tmod (len0 : Int)), .slice none 0 0, .slice none 0 0, .slice none 0 0] 41)
            have cl1 := ka1.cellT cl
            have cz1 := ka1.cellT cz
            have cb1 := ka1.cellT cb
            have cb2 := ka2.cellT cb1
            have KA := hide ((ka1.trans ka2).trans (Kp.drew _))
            have XA : Hid ((((wr.alloc (.cells #[.int .i64 0] 3)).alloc (.cells #[.int .i64 16, .slice (some ⟨wr.heap.size, 0, none⟩) 1 1, .slice none 0 0, .int .i64 ((IntKind.i64.wrap (z : Int)).tmod (len0 : Int)), .slice none 0 0, .slice none 0 0, .slice none 0 0] 41)).drew).heap[wr.heap.size]? = some (.cells #[.int .i64 0] 3)) := heap_old (heap_new wr _ _ rfl)
            have HC7 : Hid (∀ j u, (callL ((IntKind.i64.wrap (z : Int)).tmod (len0 : Int)) wr.heap.size)[j]? = some u → (((wr.alloc (.cells #[.int .i64 0] 3)).alloc (.cells #[.int .i64 16, .slice (some ⟨wr.heap.size, 0, none⟩) 1 1, .slice none 0 0, .int .i64 ((IntKind.i64.wrap (z : Int)).tmod (len0 : Int)), .slice none 0 0, .slice none 0 0, .slice none 0 0] 41)).drew).cell? ((⟨wr.heap.size + 1, 0, none⟩ : Addr).add j) = some u) := fun j u hj => by
              have h := cells_newL (wr.alloc (.cells #[.int .i64 0] 3)) (callL ((IntKind.i64.wrap (z : Int)).tmod (len0 : Int)) wr.heap.size) 41 (wr.heap.size + 1) j u (by rw [sz_alloc]) hj
              exact h
            have OW := hide (owns_kpL (unhide HOW) (unhide KA))
            have HBX : Hid ((((wr.alloc (.cells #[.int .i64 0] 3)).alloc (.cells #[.int .i64 16, .slice (some ⟨wr.heap.size, 0, none⟩) 1 1, .slice none 0 0, .int .i64 ((IntKind.i64.wrap (z : Int)).tmod (len0 : Int)), .slice none 0 0, .slice none 0 0, .slice none 0 0] 41)).drew).heap[wS.heap.size + 1]? = some (.cells #[.slice (some ⟨g, 0, none⟩) ns.length c] 34)) := by
              unfold Hid
              rw [(unhide KA).block _ (lt_heap (unhide HI).box)]
              exact (unhide HI).box
            have BS := hide (Nat.le_trans (unhide HI).kp.size (unhide KA).size)
            clear ka1 ka2
            go_upto_region 15 with fail
            go_region_law (refine step_append_node rfl (.tmp 49) (.tmp 63) rfl wS.heap.size g ns.length c xs ⟨wr.heap.size + 1, 0, none⟩ (callL ((IntKind.i64.wrap (z : Int)).tmod (len0 : Int)) wr.heap.size) (by simp [Act.eval]) (by simp [Act.eval]) (unhide OW) rfl (unhide HC7) (callL_one _ _) (by omega) (unhide BS) (wS.heap.size + 1) (unhide HBX) ?_; intro b8 k8 w8 F8 g0 g1)
            all_goals (
              have HN := hide ((unhide HI).more (by omega) rfl (unhide HOW) (unhide HRN) (unhide HT64) (unhide KA) (Nat.le_refl _) (unhide XA) rfl (unhide F8).1 (unhide F8).2)
              clear g0 g1 F8 cl cl1 cz cz1 cb cb1 cb2 OW HC7 HBX BS XA KA
              generalize World.setCell w8 _ _ = w9 at *
              go_wp2
              go_roundw
              case rel => exact ⟨q + 1, by omega, by go_num, _, _, by rw [List.length_append, unhide hnl]; rfl, unhide HN⟩
              case measure => simp [intOf]; omega)
          · obtain rfl : q = l' := by omega
            obtain ⟨ys, hy, hG⟩ := ((unhide HL).grow (unhide HI).kp).row
            have HY := hide hy
            have HG := hide hG
            have HYA := hide (owns_kpL hy (Kp.alloc wr (.cells #[.slice (some ⟨g, 0, none⟩) ns.length c] 34)))
            have HC7 : Hid (∀ j u, ([.slice (some ⟨g, 0, none⟩) ns.length c] : List Value)[j]? = some u → (wr.alloc (.cells #[.slice (some ⟨g, 0, none⟩) ns.length c] 34)).cell? ((⟨wr.heap.size, 0, none⟩ : Addr).add j) = some u) := fun j u hj => cells_newL wr [.slice (some ⟨g, 0, none⟩) ns.length c] 34 wr.heap.size j u rfl hj
            have HBS : Hid (w1.heap.size ≤ (wr.alloc (.cells #[.slice (some ⟨g, 0, none⟩) ns.length c] 34)).heap.size) := ((((unhide HL).kp).trans (unhide HI).kp).trans (Kp.alloc _ _)).size
            obtain ⟨i1, hj0, hj1, hj2, hj3⟩ := info_parts infoGr
            have hglb : gs.length ≤ 16 := by omega
            have HGL := hide hgl
            clear hy hG hgl
            go_wp2_with (at_builtin; go_must (refine wpList_append_own _ rfl _ _ 22 rfl w1.heap.size 34 i1 (.agg #[.slice none 0 0]) 1 24 Try.underlying22 hj0 hj1 hj2 hj3 rfl (by decide) vl gs.length ys rfl (unhide HYA) ⟨wr.heap.size, 0, none⟩ 1 1 [.slice (some ⟨g, 0, none⟩) ns.length c] rfl rfl (unhide HC7) (fun u hu => by rw [List.mem_singleton.1 hu]; rfl) (by simp [maxLen]; omega) (by omega) (unhide HBS) ?_); intro v8 w8 ho8 hg8 hn8; have HN8 := hide ((unhide HL).more (unhide HI) (unhide HY) (unhide HG) rfl ho8 hg8); clear ho8 hg8 hn8)
            go_roundw
            case rel => exact ⟨i0 + 1, by omega, by go_num, v8, gs ++ [ns], rfl, by rw [List.length_append, unhide HGL]; rfl, unhide HN8⟩
            case measure => simp [intOf]; omega
    · obtain rfl : i0 = len0 := by omega
      obtain ⟨aL, cL, rfl, hgr⟩ := (unhide HL).graphs (by omega)
      have HGR := hide hgr
      have KE := hide ((unhide K1).trans (unhide HL).kp)
      clear hgr HL
      obtain ⟨wE, hwE⟩ : ∃ x, x = wr := ⟨_, rfl⟩
      subst hwE
      have HGL := hide hgl
      rw [hgl]
      rw [hgl] at HGR
      go_wp2
      go_loopw [7] (fun j wr => ∃ k : Nat, k ≤ i0 ∧ j = .int .i64 k ∧ Hid (Kp wE wr)) (fun j _ => i0 - (intOf j).toNat)
      case atStart => exact ⟨0, Nat.zero_le _, rfl, Kp.refl wE⟩
      case round =>
        obtain ⟨k, hk, rfl, HK⟩ := hrel
        by_cases hkl : k < i0
        · have hkI : (k : Int) < (i0 : Int) := by omega
          have C1 := work_any aL cL gs (k : Int) wr (by rw [hgl]; exact (unhide HGR).keep (unhide HK)) ⟨by omega, by omega⟩
          rw [hgl] at C1
          have HC1 := hide C1
          clear C1
          go_wp2_with fail
          refine (unhide HC1).mono ?_
          rintro e w2 ⟨v, r, rfl, hw1, k2⟩
          have HW1 := hide hw1
          have HK2 := hide ((unhide HK).trans k2)
          clear hw1 k2 HC1
          have C2 := rwork_any aL cL gs (k : Int) w2 (by rw [hgl]; exact (unhide HGR).keep (unhide HK2)) ⟨by omega, by omega⟩ (by omega)
          rw [hgl] at C2
          have HC2 := hide C2
          clear C2
          go_wp2_with fail
          refine (unhide HC2).mono ?_
          rintro e w3 ⟨v', r', rfl, hw2, k3⟩
          obtain ⟨rfl, rfl⟩ := WorkR.one (unhide HW1) hw2
          have HK3 := hide ((unhide HK2).trans k3)
          clear hw2 k3 HC2 HW1
          go_wp2
          go_roundw
          case rel => exact ⟨k + 1, by omega, by go_num, unhide HK3⟩
          case measure => simp [intOf]; omega
        · obtain rfl : k = i0 := by omega
          have C1 := work_any aL cL gs (k : Int) wr (by rw [hgl]; exact (unhide HGR).keep (unhide HK)) ⟨by omega, by omega⟩
          rw [hgl] at C1
          have HC1 := hide C1
          have HNW : Hid (¬ WholeP gs (k : Int)) := not_whole (fun h => by have := h.2; omega)
          clear C1
          go_wp2_with fail
          refine (unhide HC1).mono ?_
          rintro e w2 ⟨v, r, rfl, hw1, k2⟩
          have hr : r = 6 := by
            rcases hw1 with ⟨_, _, h⟩ | ⟨h, _⟩ | ⟨h, _⟩ | ⟨h, _⟩
            · exact h
            · exact absurd h (unhide HNW)
            · exact absurd h (unhide HNW)
            · exact absurd h (unhide HNW)
          subst hr
          have HK2 := hide (((unhide KE).trans (unhide HK)).trans k2)
          clear hw1 k2 HC1
          go_wp2
          go_ret
          exact ⟨rfl, unhide HK2⟩

end Go.Proofs.Ytliddjpcbhdplaa
