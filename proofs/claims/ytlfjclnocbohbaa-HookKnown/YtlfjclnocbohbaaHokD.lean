
/- Contracts of the four steps of hooks. -/
import Derived.Test.YtlfjclnocbohbaaHokC
namespace Go.Proofs.Ytlfjclnocbohbaa
open Go.RowKit

theorem map_hk {h : Hk} {d ds : List Nat} {Q : Nat → Nat → Prop} (hl : ds.length = d.length) (hq : ∀ j, j < d.length → Q (d.getD j 0) (ds.getD j 0)) (hQ : ∀ x r, Q x r → cn r = hkC h x) : ds.map cn = d.map (hkC h) := by
  apply List.ext_getElem
  · simp [hl]
  · intro i h1 h2
    have hi : i < d.length := by simpa using h2
    have := hQ _ _ (hq i hi)
    simpa [hi, hl] using this
/-- a pair laid into the box of the result, and an error -/
theorem lay_pair {w w1 w2 : World} {R : Nat} {x y : Value} (k1 : Kp w w1) (k2 : Kp w1 w2) (hb : Bx w1 R x y) (hR : w.heap.size ≤ R) {s : List Int} {ds : List Nat} {a1 : Option Addr} {n1 c1 G c : Nat}
    (o : Own w2 3 w1.heap.size (.slice a1 n1 c1) s) (hG : w1.heap.size ≤ G) (og : OwnG w2 23 G ds.length c ds) (hm : mayT s ds = true) (hs : ∀ x ∈ s, I64 x) (hw : ∀ x ∈ ds, W64 x) :
    HandR (.returned (.tuple #[.agg #[.slice a1 n1 c1, .slice (some ⟨G, 0, none⟩) ds.length c], .int .i64 0])) ((w2.setCell ⟨R, 0, none⟩ (.slice a1 n1 c1)).setCell ⟨R, 1, none⟩ (.slice (some ⟨G, 0, none⟩) ds.length c)) s ds 0 ∧
      Kp w ((w2.setCell ⟨R, 0, none⟩ (.slice a1 n1 c1)).setCell ⟨R, 1, none⟩ (.slice (some ⟨G, 0, none⟩) ds.length c)) := by
  have f := Fin.mk' o hG og k1 k2 hb hR
  exact ⟨HandR.fin f hm hs hw, f.kp⟩
theorem mayT_same {s : List Int} {d ds : List Nat} (h : mayT s d = true) (hl : ds.length = d.length) : mayT s ds = true := by
  have hm := mayT_may h
  rw [mayT_yes hm] at h ⊢
  rw [hl]
  exact h

set_option maxHeartbeats 2000000 in
theorem hscale_steps (h : Hk) (hk : h.k = 1) (hX : W64 h.x) : Steps 48 h := by
  intro sv dv s d w hs hd hro hm
  have E := hide (st_ok (h := h) (s := s) (d := d) (.inl (by omega)))
  have HK := hide hk
  have HS := hide hs
  have HD := hide hd
  have HM := hide hm
  have WS := hide hs.wf
  have HX := hide hX
  clear hs hd hm hk hX hro
  have HQ : Hid (∀ x r, cn r = muC x h.x → cn r = hkC h x) := fun x r e => by rw [hkC_1 (unhide HK)]; exact e
  generalize h.k = k at *
  generalize h.x = X at *
  obtain ⟨W, hW, x0, x1, x2, k0⟩ := two_pairs 71 w (.int .i64 k) (.float .f64 X) sv dv (.slice none 0 0) (.slice none 0 0)
  have p0 := x0.c0
  have p1 := x0.c1
  obtain ⟨c0, c1, -, -, -⟩ := x1.o
  rw [hW] at p0 p1 c0 c1
  go_enter Try.func48, Try.ntmps48
  go_upto_region 1 with fail
  rw [← hW] at p0 p1 c0 c1 ⊢
  clear hW x0
  have X2 := hide x2
  have K0 := hide k0
  have hRS : w.heap.size ≤ w.heap.size + 1 + 1 := by omega
  clear x1 x2 k0
  have X2 : Hid (Bx W (w.heap.size + 1 + 1) (.slice none 0 0) (.slice none 0 0)) := X2
  generalize w.heap.size + 1 + 1 = R at X2 hRS ⊢
  generalize w.heap.size + 1 = B at c0 c1 ⊢
  generalize w.heap.size = A at p0 p1 ⊢
  go_wp2_with fail
  refine (map_yes 63 #[.agg #[.int .i64 k, .float .f64 X]] (fun x r => cn r = muC x X) _ _ s d W ((unhide HS).keep (unhide K0)) ((unhide HD).keep (unhide K0)) (unhide HM) Try.call63 (fun x w1 hx => htimes_any k X x w1)).mono ?_
  rintro e w1 ⟨a1, n1, c1', G, c, ds, rfl, o, hG, og, hw, hq, k1⟩
  have hlen : ds.length = d.length := og.len
  have DC := hide (map_hk (h := h) hlen hq (unhide HQ))
  rw [← hlen] at og ⊢
  have LP := hide (lay_pair (unhide K0) k1 (unhide X2) hRS o hG og (mayT_same (unhide HM) hlen) (unhide WS) hw)
  have z := (unhide X2).keep k1
  obtain ⟨d0, d1, d2, d3, -⟩ := z.o
  have z2 := z.set (.slice a1 n1 c1') (.slice (some ⟨G, 0, none⟩) ds.length c)
  obtain ⟨z0, z1, -, -, -⟩ := z2.o
  clear z z2 o hG og hw hq k1 p0 p1 c0 c1 hlen
  go_wp2
  generalize ((w1.setCell ⟨R, 0, none⟩ (.slice a1 n1 c1')).setCell ⟨R, 1, none⟩ (.slice (some ⟨G, 0, none⟩) ds.length c)) = w9 at *
  refine bodyPost_ret (v := .tuple #[.agg #[.slice a1 n1 c1', .slice (some ⟨G, 0, none⟩) ds.length c], .int .i64 0]) (by simp [results, Try.results48, go_sem, z0, z1]) rfl ⟨ds, by rw [(unhide E).1, (unhide E).2.1]; exact (unhide LP).1, by rw [(unhide E).2.2]; exact unhide DC, (unhide LP).2⟩

set_option maxHeartbeats 2000000 in
theorem hclip_steps (h : Hk) (hk : h.k = 2) (hX : W64 h.x) : Steps 49 h := by
  intro sv dv s d w hs hd hro hm
  have E := hide (st_ok (h := h) (s := s) (d := d) (.inl (by omega)))
  have HK := hide hk
  have HS := hide hs
  have HD := hide hd
  have HM := hide hm
  have WS := hide hs.wf
  have HX := hide hX
  clear hs hd hm hk hX hro
  have HQ : Hid (∀ x r, cn r = cn (clN h.x x) → cn r = hkC h x) := fun x r e => by rw [hkC_2 (unhide HK)]; exact e
  generalize h.k = k at *
  generalize h.x = X at *
  obtain ⟨W, hW, x0, x1, x2, k0⟩ := two_pairs 71 w (.int .i64 k) (.float .f64 X) sv dv (.slice none 0 0) (.slice none 0 0)
  have p0 := x0.c0
  have p1 := x0.c1
  obtain ⟨c0, c1, -, -, -⟩ := x1.o
  rw [hW] at p0 p1 c0 c1
  go_enter Try.func49, Try.ntmps49
  go_upto_region 1 with fail
  rw [← hW] at p0 p1 c0 c1 ⊢
  clear hW x0
  have X2 := hide x2
  have K0 := hide k0
  have hRS : w.heap.size ≤ w.heap.size + 1 + 1 := by omega
  clear x1 x2 k0
  have X2 : Hid (Bx W (w.heap.size + 1 + 1) (.slice none 0 0) (.slice none 0 0)) := X2
  generalize w.heap.size + 1 + 1 = R at X2 hRS ⊢
  generalize w.heap.size + 1 = B at c0 c1 ⊢
  generalize w.heap.size = A at p0 p1 ⊢
  go_wp2_with fail
  refine (map_yes 64 #[.agg #[.int .i64 k, .float .f64 X]] (fun x r => cn r = cn (clN X x)) _ _ s d W ((unhide HS).keep (unhide K0)) ((unhide HD).keep (unhide K0)) (unhide HM) Try.call64 (fun x w1 hx => hwithin_any k X x w1 (unhide HX) hx)).mono ?_
  rintro e w1 ⟨a1, n1, c1', G, c, ds, rfl, o, hG, og, hw, hq, k1⟩
  have hlen : ds.length = d.length := og.len
  have DC := hide (map_hk (h := h) hlen hq (unhide HQ))
  rw [← hlen] at og ⊢
  have LP := hide (lay_pair (unhide K0) k1 (unhide X2) hRS o hG og (mayT_same (unhide HM) hlen) (unhide WS) hw)
  have z := (unhide X2).keep k1
  obtain ⟨d0, d1, d2, d3, -⟩ := z.o
  have z2 := z.set (.slice a1 n1 c1') (.slice (some ⟨G, 0, none⟩) ds.length c)
  obtain ⟨z0, z1, -, -, -⟩ := z2.o
  clear z z2 o hG og hw hq k1 p0 p1 c0 c1 hlen
  go_wp2
  generalize ((w1.setCell ⟨R, 0, none⟩ (.slice a1 n1 c1')).setCell ⟨R, 1, none⟩ (.slice (some ⟨G, 0, none⟩) ds.length c)) = w9 at *
  refine bodyPost_ret (v := .tuple #[.agg #[.slice a1 n1 c1', .slice (some ⟨G, 0, none⟩) ds.length c], .int .i64 0]) (by simp [results, Try.results49, go_sem, z0, z1]) rfl ⟨ds, by rw [(unhide E).1, (unhide E).2.1]; exact (unhide LP).1, by rw [(unhide E).2.2]; exact unhide DC, (unhide LP).2⟩

set_option maxHeartbeats 2000000 in
theorem hzero_steps (h : Hk) (hk : h.k = 3) : Steps 50 h := by
  intro sv dv s d w hs hd hro hm
  have E := hide (st_ok (h := h) (s := s) (d := d) (.inl (by omega)))
  have HK := hide hk
  have HS := hide hs
  have HM := hide hm
  have WS := hide hs.wf
  clear hs hd hm hk hro
  have HZ : Hid (d.map (hkC h) = List.replicate d.length 0) := by
    unfold Hid
    apply List.ext_getElem
    · simp
    · intro i h1 h2
      simp [hkC_3 (unhide HK)]
  generalize h.k = k at *
  generalize h.x = X at *
  obtain ⟨W, hW, x0, x1, x2, k0⟩ := two_pairs 71 w (.int .i64 k) (.float .f64 X) sv dv (.slice none 0 0) (.slice none 0 0)
  obtain ⟨c0, c1, -, -, -⟩ := x1.o
  rw [hW] at c0 c1
  go_enter Try.func50, Try.ntmps50
  go_upto_region 1 with fail
  rw [← hW] at c0 c1 ⊢
  clear hW x0
  have X2 := hide x2
  have K0 := hide k0
  have hRS : w.heap.size ≤ w.heap.size + 1 + 1 := by omega
  clear x1 x2 k0
  have X2 : Hid (Bx W (w.heap.size + 1 + 1) (.slice none 0 0) (.slice none 0 0)) := X2
  generalize w.heap.size + 1 + 1 = R at X2 hRS ⊢
  generalize w.heap.size + 1 = B at c0 c1 ⊢
  generalize w.heap.size = A at ⊢
  go_wp2_with fail
  refine (new_yes _ s 0 W ((unhide HS).keep (unhide K0)) (by unfold W64; decide) (mayT_may (unhide HM))).mono ?_
  rintro e w1 ⟨a1, n1, c1', G, n, rfl, hn, o, hG, og, k1⟩
  have hnd : n = d.length := by have := mayT_len (unhide HM); omega
  subst hnd
  have hlen : (List.replicate d.length 0).length = d.length := by simp
  have og : OwnG w1 23 G (List.replicate d.length 0).length d.length (List.replicate d.length 0) := by rw [hlen]; exact og
  have DC : Hid ((List.replicate d.length 0).map cn = d.map (hkC h)) := by
    unfold Hid
    rw [unhide HZ, List.map_replicate]
    rfl
  have LP := hide (lay_pair (unhide K0) k1 (unhide X2) hRS o hG og (mayT_same (unhide HM) hlen) (unhide WS) (by intro x hx; rw [(List.mem_replicate.1 hx).2]; unfold W64; decide))
  rw [hlen] at LP
  have z := (unhide X2).keep k1
  obtain ⟨d0, d1, d2, d3, -⟩ := z.o
  have z2 := z.set (.slice a1 n1 c1') (.slice (some ⟨G, 0, none⟩) d.length d.length)
  obtain ⟨z0, z1, -, -, -⟩ := z2.o
  clear z z2 o hG og k1 c0 c1 hlen hn
  go_wp2
  generalize ((w1.setCell ⟨R, 0, none⟩ (.slice a1 n1 c1')).setCell ⟨R, 1, none⟩ (.slice (some ⟨G, 0, none⟩) d.length d.length)) = w9 at *
  refine bodyPost_ret (v := .tuple #[.agg #[.slice a1 n1 c1', .slice (some ⟨G, 0, none⟩) d.length d.length], .int .i64 0]) (by simp [results, Try.results50, go_sem, z0, z1]) rfl ⟨List.replicate d.length 0, by rw [(unhide E).1, (unhide E).2.1]; exact (unhide LP).1, by rw [(unhide E).2.2]; exact unhide DC, (unhide LP).2⟩

set_option maxHeartbeats 2000000 in
theorem hfinite_steps (h : Hk) (hk : h.k = 4) : Steps 51 h := by
  intro sv dv s d w hs hd hro hm
  have HK := hide hk
  have HS := hide hs
  have HD := hide hd
  have HR := hide hro
  have HM := hide hm
  obtain ⟨ad, cd, rfl, -⟩ := hd.val
  obtain ⟨ea, cas, rfl, -⟩ := hs.val
  clear hs hd hm hk hro
  have EF := hide (finT_yes (unhide HM))
  cases hb : anyB endB d
  · have E := hide (st_ok (h := h) (s := s) (d := d) (.inr hb))
    have HZ : Hid (d.map cn = d.map (hkC h)) := by
      unfold Hid
      apply List.map_congr_left
      intro x _
      exact (hkC_4 (unhide HK) x).symm
    rw [hb] at EF
    clear hb
    generalize h.k = k at *
    generalize h.x = X at *
    obtain ⟨W, hW, x0, x1, x2, k0⟩ := two_pairs 71 w (.int .i64 k) (.float .f64 X) (.slice ea s.length cas) (.slice ad d.length cd) (.slice none 0 0) (.slice none 0 0)
    obtain ⟨c0, c1, -, -, -⟩ := x1.o
    rw [hW] at c0 c1
    generalize hls : s.length = ls at *
    generalize hld : d.length = ld at *
    have HLS := hide hls
    have HLD := hide hld
    clear hls hld
    go_enter Try.func51, Try.ntmps51
    go_upto_region 1 with fail
    rw [← hW] at c0 c1 ⊢
    clear hW x0
    have X1 : Hid (Bx W (w.heap.size + 1) (.slice ea ls cas) (.slice ad ld cd)) := x1
    have X2 : Hid (Bx W (w.heap.size + 1 + 1) (.slice none 0 0) (.slice none 0 0)) := x2
    have K0 := hide k0
    have hRS : w.heap.size ≤ w.heap.size + 1 + 1 := by omega
    clear x1 x2 k0
    generalize w.heap.size + 1 + 1 = R at X2 hRS ⊢
    generalize w.heap.size + 1 = B at X1 c0 c1 ⊢
    generalize w.heap.size = A at ⊢
    go_wp2_with fail
    refine (finT_any _ _ s d W ((unhide HS).keep (unhide K0)) ((unhide HD).keep (unhide K0))).mono ?_
    rw [unhide EF]
    rintro e w1 ⟨rfl, k1⟩
    clear c0 c1
    obtain ⟨c0, c1, -, -, -⟩ := ((unhide X1).keep k1).o
    have z := (unhide X2).keep k1
    obtain ⟨d0, d1, d2, d3, -⟩ := z.o
    have z2 := z.set (.slice ea ls cas) (.slice ad ld cd)
    obtain ⟨z0, z1, -, -, -⟩ := z2.o
    have KF := hide ((((unhide K0).trans k1).set hRS (i := 0) (.slice ea ls cas)).set hRS (i := 1) (.slice ad ld cd))
    clear z z2 k1
    go_wp2
    generalize ((w1.setCell ⟨R, 0, none⟩ (.slice ea ls cas)).setCell ⟨R, 1, none⟩ (.slice ad ld cd)) = w9 at *
    refine bodyPost_ret (v := .tuple #[.agg #[.slice ea ls cas, .slice ad ld cd], .int .i64 0]) (by simp [results, Try.results51, go_sem, z0, z1]) rfl ⟨d, by rw [(unhide E).1, (unhide E).2.1]; exact ⟨ea, cas, ad, cd, by rw [unhide HLS, unhide HLD], by rw [unhide HLS]; exact (unhide HS).keep (unhide KF), by rw [unhide HLD]; exact (unhide HD).keep (unhide KF), by rw [unhide HLD]; exact (unhide HR _ _ _ rfl).1, (unhide HR _ _ _ rfl).2⟩, by rw [(unhide E).2.2]; exact unhide HZ, unhide KF⟩
  · have E := hide (st_bad (h := h) (s := s) (d := d) (unhide HK) hb)
    rw [hb] at EF
    clear hb
    generalize h.k = k at *
    generalize h.x = X at *
    obtain ⟨W, hW, x0, x1, x2, k0⟩ := two_pairs 71 w (.int .i64 k) (.float .f64 X) (.slice ea s.length cas) (.slice ad d.length cd) (.slice none 0 0) (.slice none 0 0)
    obtain ⟨c0, c1, -, -, -⟩ := x1.o
    rw [hW] at c0 c1
    generalize s.length = ls at *
    generalize d.length = ld at *
    go_enter Try.func51, Try.ntmps51
    go_upto_region 1 with fail
    rw [← hW] at c0 c1 ⊢
    clear hW x0
    have X2 : Hid (Bx W (w.heap.size + 1 + 1) (.slice none 0 0) (.slice none 0 0)) := x2
    have K0 := hide k0
    have hRS : w.heap.size ≤ w.heap.size + 1 + 1 := by omega
    clear x1 x2 k0
    generalize w.heap.size + 1 + 1 = R at X2 hRS ⊢
    generalize w.heap.size + 1 = B at c0 c1 ⊢
    generalize w.heap.size = A at ⊢
    go_wp2_with fail
    refine (finT_any _ _ s d W ((unhide HS).keep (unhide K0)) ((unhide HD).keep (unhide K0))).mono ?_
    rw [unhide EF]
    rintro e w1 ⟨rfl, k1⟩
    clear c0 c1
    have z := (unhide X2).keep k1
    obtain ⟨d0, d1, d2, d3, -⟩ := z.o
    have z2 := z.set (.slice none 0 0) (.slice none 0 0)
    obtain ⟨z0, z1, -, -, -⟩ := z2.o
    have KF := hide ((((unhide K0).trans k1).set hRS (i := 0) (.slice none 0 0)).set hRS (i := 1) (.slice none 0 0))
    clear z z2 k1
    go_wp2
    generalize ((w1.setCell ⟨R, 0, none⟩ (.slice none 0 0)).setCell ⟨R, 1, none⟩ (.slice none 0 0)) = w9 at *
    refine bodyPost_ret (v := .tuple #[.agg #[.slice none 0 0, .slice none 0 0], .int .i64 8]) (by simp [results, Try.results51, go_sem, z0, z1]) rfl ⟨[], by rw [(unhide E).1, (unhide E).2.1]; exact HandR.nil _ _, by rw [(unhide E).2.2]; rfl, unhide KF⟩

end Go.Proofs.Ytlfjclnocbohbaa
