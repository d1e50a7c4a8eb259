
/- The contract of what gathers numbers. -/
import Derived.Test.YtcegkaemcjlfgaaKerG
import Derived.Test.YtcegkaemcjlfgaaKPureB
import Derived.Test.YtcegkaemcjlfgaaRealC
import Derived.Deep.DeepCutAuto
namespace Go.Proofs.Ytcegkaemcjlfgaa
open Go.RowKit

/-- of what was there only blocks G and H may have turned -/
structure Kx2 (G H : Nat) (w w' : World) : Prop where
  os : w'.os = w.os
  tape : w'.tape = w.tape
  output : w'.output = w.output
  size : w.heap.size ≤ w'.heap.size
  block : ∀ k, k < w.heap.size → k ≠ G → k ≠ H → w'.heap[k]? = w.heap[k]?
theorem Kx2.refl (G H : Nat) (w : World) : Kx2 G H w w := ⟨rfl, rfl, rfl, Nat.le_refl _, fun _ _ _ _ => rfl⟩
theorem Kx2.setG {G H : Nat} {a b : World} (h : Kx2 G H a b) (i : Nat) (v : Value) : Kx2 G H a (b.setCell ⟨G, i, none⟩ v) :=
  ⟨h.os, h.tape, h.output, by simpa using h.size, fun k hk h1 h2 => (Below.heap_setCell b ⟨G, i, none⟩ v k h1).trans (h.block k hk h1 h2)⟩
theorem Kx2.setH {G H : Nat} {a b : World} (h : Kx2 G H a b) (i : Nat) (v : Value) : Kx2 G H a (b.setCell ⟨H, i, none⟩ v) :=
  ⟨h.os, h.tape, h.output, by simpa using h.size, fun k hk h1 h2 => (Below.heap_setCell b ⟨H, i, none⟩ v k h2).trans (h.block k hk h1 h2)⟩
theorem Kx2.kp {G H : Nat} {a b c : World} (h : Kx2 G H a b) (k : Kp b c) : Kx2 G H a c :=
  ⟨k.os.trans h.os, k.tape.trans h.tape, k.output.trans h.output, Nat.le_trans h.size k.size, fun i hi h1 h2 => (k.block i (Nat.lt_of_lt_of_le hi h.size)).trans (h.block i hi h1 h2)⟩
theorem Kx2.after {G H : Nat} {a b c : World} (h : Kp a b) (k : Kx2 G H b c) (hG : a.heap.size ≤ G) (hH : a.heap.size ≤ H) : Kp a c :=
  ⟨k.os.trans h.os, k.tape.trans h.tape, k.output.trans h.output, Nat.le_trans h.size k.size, fun i hi => (k.block i (Nat.lt_of_lt_of_le hi h.size) (by omega) (by omega)).trans (h.block i hi)⟩
theorem Kx2.cell {G H : Nat} {a b : World} (h : Kx2 G H a b) {p : Addr} (hp : p.block < a.heap.size) (h1 : p.block ≠ G) (h2 : p.block ≠ H) : b.cell? p = a.cell? p :=
  World.cell?_of_block (w := a) (h.block p.block hp h1 h2)
theorem Bx.keepx2 {w w' : World} {B G H : Nat} {x y : Value} (h : Bx w B x y) (k : Kx2 G H w w') (h1 : B ≠ G) (h2 : B ≠ H) : Bx w' B x y := by
  unfold Bx
  rw [k.block B h.lt h1 h2]
  exact h

/-- two new rows -/
structure Rows2 (w0 wx : World) (G H N n : Nat) : Prop where
  g : BlkF wx 38 G (List.replicate N 0)
  h : Blk wx 3 H (List.replicate n 0)
  kp : Kp w0 wx
  gG : w0.heap.size ≤ G
  gH : w0.heap.size ≤ H
theorem rows2a (w : World) (N n : Nat) : Rows2 w ((w.alloc (.cells (madeCells #[.float .f64 0] N) 38)).alloc (.cells (madeCells #[.int .i64 0] n) 3)).drew w.heap.size (w.heap.size + 1) N n := by
  refine ⟨((BlkF.made w _ N).keep (Kp.alloc _ _)).keep (Kp.drew _), ?_, ((Kp.alloc w _).trans (Kp.alloc _ _)).trans (Kp.drew _), Nat.le_refl _, Nat.le_succ _⟩
  have := Blk.made (w.alloc (.cells (madeCells #[.float .f64 0] N) 38)) 3 n
  rw [World.size_alloc] at this
  exact this.keep (Kp.drew _)
theorem rows2b (w : World) (N n : Nat) : Rows2 w ((w.alloc (.cells (madeCells #[.int .i64 0] n) 3)).alloc (.cells (madeCells #[.float .f64 0] N) 38)).drew (w.heap.size + 1) w.heap.size N n := by
  refine ⟨?_, ((Blk.made w _ n).keep (Kp.alloc _ _)).keep (Kp.drew _), ((Kp.alloc w _).trans (Kp.alloc _ _)).trans (Kp.drew _), Nat.le_succ _, Nat.le_refl _⟩
  have := BlkF.made (w.alloc (.cells (madeCells #[.int .i64 0] n) 3)) 38 N
  rw [World.size_alloc] at this
  exact this.keep (Kp.drew _)
theorem BlkF.setOther {w : World} {e : TypeId} {B B' : Nat} {xs : List Nat} (h : BlkF w e B xs) (hne : ¬ B = B') (i : Nat) (u : Value) : BlkF (w.setCell ⟨B', i, none⟩ u) e B xs :=
  (Below.heap_setCell w ⟨B', i, none⟩ u B hne).trans h
theorem Blk.setOther {w : World} {e : TypeId} {B B' : Nat} {xs : List Int} (h : Blk w e B xs) (hne : ¬ B = B') (i : Nat) (u : Value) : Blk (w.setCell ⟨B', i, none⟩ u) e B xs :=
  (Below.heap_setCell w ⟨B', i, none⟩ u B hne).trans h
theorem Blk.neF {w : World} {e e' : TypeId} {B B' : Nat} {xs : List Int} {ys : List Nat} (h : Blk w e B xs) (h' : BlkF w e' B' ys) (hne : e ≠ e') : ¬ B = B' := by
  intro e1
  subst e1
  unfold Blk at h
  unfold BlkF at h'
  rw [h] at h'
  injection h' with e2
  injection e2 with _ e3
  exact hne e3

theorem BlkF.keepx {w w' : World} {e : TypeId} {G Q : Nat} {ys : List Nat} (h : BlkF w e G ys) (k : Kx Q w w') (hne : ¬ G = Q) : BlkF w' e G ys := by
  unfold BlkF
  rw [k.block G h.lt (fun e => hne (by cases e; rfl))]
  exact h
theorem BlkF.sub {w : World} {e : TypeId} {G a m cap : Nat} {rows ys : List Nat} (h : BlkF w e G rows) (hm : a + m ≤ rows.length) (hy : (rows.drop a).take m = ys) (hw : ∀ x ∈ ys, W64 x) (hr : m ≤ 1000000) : Flts w (.slice (some ⟨G, a, none⟩) m cap) ys := by
  subst hy
  have hl : ((rows.drop a).take m).length = m := by rw [List.length_take, List.length_drop]; omega
  refine ⟨hw, by omega, (by intro n c h; cases h), some ⟨G, a, none⟩, cap, by rw [hl], fun _ => ⟨G, a, rfl, h.lt, fun i hi => ?_⟩⟩
  have hi' : i < m := by omega
  rw [h.cell (by omega)]
  simp [List.getD_eq_getElem?_getD, hi']

set_option maxHeartbeats 4000000 in
theorem gathered_any (sv dv u : Value) (t f : List Int) (d : List Nat) (w : World) (h : Ints w sv t) (hd : Flts w dv d) (h' : Ints w u f) (hi : intoB f t = true) (hl : (d.length : Int) = prodL t) :
    Calls Try.prog 27 #[.agg #[sv, dv], u] w fun e w' => ∃ Q ds, e = .returned (.slice (some ⟨Q, 0, none⟩) ds.length ds.length) ∧ w.heap.size ≤ Q ∧ BlkF w' 38 Q ds ∧ (ds.length : Int) = prodL f ∧
      (∀ x ∈ ds, W64 x) ∧ (∀ j, j < ds.length → cn (ds.getD j 0) = foldC (pick (srcL f t) d (j : Int))) ∧ Kp w w' := by
  have H := hide h
  have H' := hide h'
  have HI := hide hi
  have WD := hide hd.wf
  have SB := hide (srcL_bounds hi)
  obtain ⟨n, M, hn, n1, hM, M1⟩ := many_of hi
  have CM := hide (count_many hi hn hM)
  have HN := hide hn
  have hNd : d.length = n * M := by omega
  have hNm : n * M ≤ 4096 := by have := may_prod (into_spec hi).2.1; omega
  have hnm : n ≤ 4096 := by have := may_prod (into_spec hi).1; omega
  have hMm : M ≤ 4096 := Nat.le_trans (Nat.le_mul_of_pos_left M (by omega)) hNm
  have LS : Hid ((srcL f t).length = d.length) := by unfold Hid; rw [srcL_length, hNd, hM]
  have hz := szE_yes (into_spec hi).1
  have hz' := (szN_yes (into_spec hi).1).trans hn
  have hq : (d.length : Int) / (n : Int) = (M : Int) := by
    rw [hNd, ← Int.natCast_ediv, Nat.mul_div_cancel_left M (by omega)]
  obtain ⟨p, cp, rfl, hv⟩ := hd.val
  have HV := hide hv
  have HND := hide hNd
  obtain ⟨p2, cp2, rfl, -⟩ := h.val
  obtain ⟨p3, cp3, rfl, -⟩ := h'.val
  have hmk := mk_flts d.length (by omega)
  have hmk2 := mk_ints n (by omega)
  have hd1 : 1 ≤ d.length := by have := Nat.mul_le_mul n1 M1; omega
  have hd2 : d.length ≤ 4096 := by omega
  clear h hd h' hi hl hv hn hM hNd
  go_enter Try.func27, Try.ntmps27
  go_wp2_with fail
  obtain ⟨W, hW, x1, k0⟩ := box_in w (.slice p2 t.length cp2) (.slice p d.length cp)
  rw [← hW]
  clear hW
  have X1 := hide x1
  have K0 := hide k0
  clear x1 k0
  generalize w.heap.size = B at X1 ⊢
  refine (size_any _ f W ((unhide H').keep (unhide K0))).mono ?_
  rw [hz, hz']
  clear hz hz'
  rintro e w1 ⟨rfl, k1⟩
  have X2 := hide ((unhide X1).keep k1)
  have K1 := hide ((unhide K0).trans k1)
  obtain ⟨c0, c1, -, -, c4⟩ := (unhide X2).o
  clear k1 X1 K0
  go_upto_region 3 with fail
  try simp only [hq]
  clear hq
  generalize hN : d.length = N at *
  go_cut [8, 9] (fun r q wx => ∃ G R, r = .slice (some ⟨G, 0, none⟩) N N ∧ q = .slice (some ⟨R, 0, none⟩) n n ∧ Hid (Rows2 w1 wx G R N n))
  case first =>
    go_region
    all_goals (go_wp2_with fail; go_meet)
    all_goals exact ⟨_, _, rfl, rfl, by first | exact rows2a w1 N n | exact rows2b w1 N n⟩
  case rest =>
    obtain ⟨G, R, rfl, rfl, RW⟩ := hcut
    clear hmk hmk2 c0 c1 c4
    have X3 := hide ((unhide X2).keep (unhide RW).kp)
    have hBG : B ≠ G := by have := (unhide X2).lt; have := (unhide RW).gG; omega
    have hBR : B ≠ R := by have := (unhide X2).lt; have := (unhide RW).gH; omega
    have hRG : ¬ R = G := (unhide RW).h.neF (unhide RW).g (by decide)
    have hGR : ¬ G = R := fun e => hRG e.symm
    have LG : Hid (G < wc.heap.size) := (unhide RW).g.lt
    have LR : Hid (R < wc.heap.size) := (unhide RW).h.lt
    obtain ⟨c0, c1, -, -, -⟩ := (unhide X3).o
    have K2 := hide ((unhide K1).trans (unhide RW).kp)
    have GS : Hid (w.heap.size ≤ G) := Nat.le_trans (unhide K1).size (unhide RW).gG
    have RS : Hid (w.heap.size ≤ R) := Nat.le_trans (unhide K1).size (unhide RW).gH
    go_wp2_with fail
    refine (sources_any _ _ f t wc ((unhide H').keep (unhide K2)) ((unhide H).keep (unhide K2)) (unhide HI)).mono ?_
    rintro e w3 ⟨a1, c1', rfl, hs1, fr, k3⟩
    clear c0 c1
    have X4 := hide ((unhide X3).keep k3)
    have K3 := hide ((unhide K2).trans k3)
    have BG0 := hide ((unhide RW).g.keep k3)
    have BR0 := hide ((unhide RW).h.keep k3)
    obtain ⟨y, cy, ey, hq⟩ := hs1.val
    injection ey with e1 e2 e3
    subst e1 e3
    have HQ : Hid (0 < (srcL f t).length → ∃ b off, a1 = some ⟨b, off, none⟩ ∧ b ≠ G ∧ b ≠ R ∧ b < w3.heap.size ∧ ∀ i, i < (srcL f t).length → w3.cell? ⟨b, off + i, none⟩ = some (.int .i64 ((srcL f t).getD i 0))) := by
      intro h0
      obtain ⟨b, off, rfl, hb, hc⟩ := hq h0
      have h1 := fr _ _ _ rfl
      have h2 := unhide LG
      have h3 := unhide LR
      simp at h1
      exact ⟨b, off, rfl, by omega, by omega, hb, hc⟩
    clear hs1 fr k3 hq e2 X3 K2 RW X2 LG LR
    rw [unhide LS] at HQ ⊢
    go_wp2
    go_loopw [35] (fun i wr => ∃ (k : Nat) (rows : List Nat) (fl : List Int), k ≤ N ∧ i = .int .i64 k ∧ Hid (BlkF wr 38 G rows) ∧ Hid (Blk wr 3 R fl) ∧ Hid (Gi (srcL f t) d n M k rows fl) ∧ Hid (Kx2 G R w3 wr)) (fun i _ => N - (intOf i).toNat)
    case atStart => exact ⟨0, _, _, Nat.zero_le _, rfl, unhide BG0, unhide BR0, by unfold Hid; rw [unhide HND]; exact Gi.start _ _ _ _, Kx2.refl _ _ _⟩
    case round =>
      obtain ⟨k, rows, fl, hk, rfl, BG, BR, GI, KX⟩ := hrel
      have xb := (unhide X4).keepx2 (unhide KX) hBG hBR
      obtain ⟨x0, x1, -, -, -⟩ := xb.o
      clear xb
      by_cases hlt : k < N
      · obtain ⟨bq, offq, rfl, hq1, hq2, hbq, hcq⟩ := unhide HQ (by omega)
        have hcq' : wr.cell? ⟨bq, offq + k, none⟩ = some (.int .i64 ((srcL f t).getD k 0)) := ((unhide KX).cell (p := ⟨bq, offq + k, none⟩) hbq hq1 hq2).trans (hcq k hlt)
        have hb2 := unhide SB ((srcL f t).getD k 0) (by rw [getD_at (by have := unhide LS; omega)]; exact List.getElem_mem _)
        obtain ⟨j, hj⟩ := Int.eq_ofNat_of_zero_le hb2.1
        rw [hj] at hcq' hb2
        have hjn : j < n := by have := unhide HN; omega
        obtain ⟨c, hc, hcM, gi⟩ := (unhide GI).step (by have := unhide LS; omega) (by omega) hj hjn (unhide CM) ((unhide LS).trans hN.symm)
        have GI' := hide gi
        obtain ⟨b, off, rfl, hb, hcd⟩ := unhide HV (by omega)
        have hck : wr.cell? ⟨b, off + k, none⟩ = some (.float .f64 (d.getD k 0)) := ((unhide KX).cell (p := ⟨b, off + k, none⟩) (Nat.lt_of_lt_of_le hb (unhide K3).size) (by have := unhide GS; show b ≠ G; omega) (by have := unhide RS; show b ≠ R; omega)).trans ((Below.cell (unhide K3) (p := ⟨b, off + k, none⟩) hb).trans (hcd k hlt))
        have hjM : j * M + c < N := by
          have h1 : (j + 1) * M ≤ n * M := Nat.mul_le_mul_right M hjn
          rw [Nat.add_mul] at h1
          have := unhide HND
          omega
        have hfl := (unhide BR).cell (i := j) (by rw [(unhide GI).flen]; exact hjn)
        rw [hc] at hfl
        have hrw := (unhide BG).cell (i := j * M + c) (by rw [(unhide GI).rlen, ← unhide HND]; exact hjM)
        have hz1 := (unhide BG).frozen (j * M + c)
        have hz2 := (unhide BR).frozen j
        have BG1 : Hid (BlkF (wr.setCell ⟨G, j * M + c, none⟩ (.float .f64 (d.getD k 0))).drew 38 G (rows.set (j * M + c) (d.getD k 0))) := ((unhide BG).set (j * M + c) (d.getD k 0)).keep (Kp.drew _)
        have BR1 : Hid (Blk (wr.setCell ⟨G, j * M + c, none⟩ (.float .f64 (d.getD k 0))).drew 3 R fl) := ((unhide BR).setOther hRG (j * M + c) (.float .f64 (d.getD k 0))).keep (Kp.drew _)
        have KX1 : Hid (Kx2 G R w3 (wr.setCell ⟨G, j * M + c, none⟩ (.float .f64 (d.getD k 0))).drew) := ((unhide KX).setG (j * M + c) (.float .f64 (d.getD k 0))).kp (Kp.drew _)
        have HC := hide hc
        have FLN : Hid (fl.length = n) := (unhide GI).flen
        have i0 : (j : Int) * (M : Int) = ((j * M : Nat) : Int) := by simp
        have i1 : 0 ≤ (j : Int) * (M : Int) := by rw [i0]; omega
        have i2 : (j : Int) * (M : Int) ≤ 4096 := by rw [i0]; omega
        have hix : ((j : Int) * (M : Int) + (c : Int)).toNat = j * M + c := by rw [i0]; omega
        have hix1 : 0 ≤ (j : Int) * (M : Int) + (c : Int) := by omega
        have hix2 : (j : Int) * (M : Int) + (c : Int) < (N : Int) := by rw [i0]; omega
        have hst : ∀ (a : Addr) (x : Nat) (w : World), (store a (.float .f64 x)).run Try.prog w = stored Try.prog w a (.float .f64 x) .plain := fun a x w => run_store _ w a _ _ rfl
        have hcm : c ≤ 4096 := by omega
        clear hcq hcd gi hj hc BG BR GI KX i0
        generalize rows.getD (j * M + c) 0 = old at *
        generalize d.getD k 0 = x at *
        go_wp2_with fail
        go_region
        generalize (wr.setCell { block := G, off := j * M + c } (Value.float FloatKind.f64 x)).drew = w4 at *
        clear hfl hrw hz1 hz2 hcq' hck
        have hfl := (unhide BR1).cell (i := j) (by rw [unhide FLN]; exact hjn)
        rw [unhide HC] at hfl
        have hz2 := (unhide BR1).frozen j
        have BG' := hide ((unhide BG1).setOther hGR j (.int .i64 ((c : Int) + 1)))
        have BR' := hide ((unhide BR1).set j ((c : Int) + 1))
        have KX' := hide ((unhide KX1).setH j (.int .i64 ((c : Int) + 1)))
        clear BG1 BR1 KX1
        go_wp2
        go_roundw
        case rel => exact ⟨k + 1, _, _, by omega, by go_num, unhide BG', unhide BR', unhide GI', unhide KX'⟩
        case measure => simp [intOf]; omega
      · obtain rfl : k = N := by omega
        have DN : Hid (∀ j, j < n → (rows.drop (j * M)).take M = pick (srcL f t) d (j : Int)) := by
          have g := unhide GI
          rw [← unhide LS] at g
          exact fun j hj => g.done (unhide CM) ((unhide LS).trans hN.symm) hj
        have RL : Hid (rows.length = n * M) := (unhide GI).rlen
        have K4 := hide (Kx2.after (unhide K3) (unhide KX) (unhide GS) (unhide RS))
        clear GI BR KX HQ HV X4 BG0 BR0 K3 x0 x1
        generalize wr = w4 at *
        have hmk3 := mk_flts n (by omega)
        go_wp2
        clear hmk3
        have BQ0 := hide (BlkF.made w4 38 n)
        have KA := hide (Kp.alloc w4 (.cells (madeCells #[.float .f64 0] n) 38))
        have BG5 := hide ((unhide BG).keep (unhide KA))
        have hQG : ¬ G = w4.heap.size := by have := (unhide BG).lt; omega
        have QS : Hid (w.heap.size ≤ w4.heap.size) := (unhide K4).size
        have K5 := hide ((unhide K4).trans (unhide KA))
        clear BG KA K4
        generalize w4.alloc (.cells (madeCells #[.float .f64 0] n) 38) = w5 at *
        generalize w4.heap.size = Q at *
        have hst : ∀ (a : Addr) (x : Nat) (w : World), (store a (.float .f64 x)).run Try.prog w = stored Try.prog w a (.float .f64 x) .plain := fun a x w => run_store _ w a _ _ rfl
        go_loopw [66] (fun i wr => ∃ (k : Nat) (ms : List Nat), k ≤ n ∧ i = .int .i64 k ∧ ms.length = k ∧ Hid (BlkF wr 38 Q (ms ++ List.replicate (n - k) 0)) ∧ Hid (∀ x ∈ ms, W64 x) ∧ Hid (∀ j, j < k → cn (ms.getD j 0) = foldC (pick (srcL f t) d (j : Int))) ∧ Hid (Kx Q w5 wr)) (fun i _ => n - (intOf i).toNat)
        case atStart => exact ⟨0, [], Nat.zero_le _, rfl, rfl, by simpa using BQ0, by simp [Hid], by unfold Hid; omega, Kx.refl _ _⟩
        case round =>
          obtain ⟨j, ms, hj, rfl, hm, BL, HM, HR, KX⟩ := hrel
          by_cases hlt : j < n
          · have hlen : (ms ++ List.replicate (n - j) 0).length = n := by rw [List.length_append, List.length_replicate]; omega
            have i0 : (j : Int) * (M : Int) = ((j * M : Nat) : Int) := by simp
            have j0 : ((j : Int) + 1) * (M : Int) = ((j * M + M : Nat) : Int) := by rw [Int.add_mul, i0]; omega
            have hb1 : (j + 1) * M ≤ n * M := Nat.mul_le_mul_right M hlt
            rw [Nat.add_mul, Nat.one_mul] at hb1
            have hb2 : j * M + M ≤ k := by have := unhide HND; omega
            have i1 : 0 ≤ (j : Int) * (M : Int) := by rw [i0]; omega
            have i2 : (j : Int) * (M : Int) ≤ 4096 := by rw [i0]; omega
            have j1 : 0 ≤ ((j : Int) + 1) * (M : Int) := by rw [j0]; omega
            have j2 : ((j : Int) + 1) * (M : Int) ≤ 4096 := by rw [j0]; omega
            have ij : (j : Int) * (M : Int) ≤ ((j : Int) + 1) * (M : Int) := by rw [i0, j0]; omega
            have jN : ((j : Int) + 1) * (M : Int) ≤ (k : Int) := by rw [j0]; omega
            clear hlen
            have I0 := hide i0
            have J0 := hide j0
            clear i0 j0
            go_wp2_with fail
            have EM : (j + 1) * M - j * M = M := by rw [Nat.add_mul]; omega
            rw [EM]
            clear EM
            have WP : Hid (∀ x ∈ pick (srcL f t) d (j : Int), W64 x) := fun x hx => unhide WD x (pick_mem hx)
            have FL : Hid (Flts wr (.slice (some ⟨G, j * M, none⟩) M (k - j * M)) (pick (srcL f t) d (j : Int))) := ((unhide BG5).keepx (unhide KX) hQG).sub (by rw [unhide RL]; omega) (unhide DN j hlt) (unhide WP) (by omega)
            refine (fold_any _ (pick (srcL f t) d (j : Int)) wr (unhide FL) (roomy _ _ _ (by omega) (by omega))).mono ?_
            rintro e w6 ⟨r, rfl, hr, -, k6⟩
            have RR := hide hr
            have BL' := hide (((unhide BL).keep k6).set j r)
            have hcell := ((unhide BL).keep k6).cell (i := j) (by rw [List.length_append, List.length_replicate]; omega)
            have hfro := ((unhide BL).keep k6).frozen j
            have HD : (ms ++ List.replicate (n - j) 0).set j r = (ms ++ [r]) ++ List.replicate (n - (j + 1)) 0 := by
              rw [List.set_append_right _ _ (by omega), hm, Nat.sub_self, show n - j = (n - (j + 1)) + 1 by omega, List.replicate_succ (n := n - (j + 1)), List.set_cons_zero]
              simp
            rw [HD] at BL'
            clear HD
            have HM' : Hid (∀ x ∈ ms ++ [r], W64 x) := by
              intro y hy
              rcases List.mem_append.1 hy with h | h
              · exact unhide HM y h
              · rw [List.mem_singleton.1 h]
                exact (unhide RR).2
            have HR' : Hid (∀ i, i < j + 1 → cn ((ms ++ [r]).getD i 0) = foldC (pick (srcL f t) d (i : Int))) := by
              intro i hi
              by_cases e : i = j
              · subst e
                have : (ms ++ [r]).getD i 0 = r := by rw [← hm]; exact getDN_last
                rw [this]
                exact (unhide RR).1
              · rw [getDN_app_l (by omega)]
                exact unhide HR i (by omega)
            have HL2 : Hid ((ms ++ [r]).length = j + 1) := by unfold Hid; simp [hm]
            have KX' := hide (((unhide KX).kp k6).set j (.float .f64 r))
            clear k6 hr BL KX HM HR WP FL RR i1 i2 j1 j2 ij jN I0 J0
            generalize (ms ++ List.replicate (n - j) 0).getD j 0 = old at *
            go_wp2
            go_roundw
            case rel => exact ⟨j + 1, ms ++ [r], by omega, by go_num, unhide HL2, unhide BL', unhide HM', unhide HR', unhide KX'⟩
            case measure => simp [intOf]; omega
          · obtain rfl : j = n := by omega
            rw [Nat.sub_self, List.replicate_zero, List.append_nil] at BL
            have KF := hide (Kx.after (unhide K5) (unhide KX) (unhide QS))
            go_wp2
            go_ret
            subst hm
            exact ⟨Q, ms, rfl, unhide QS, unhide BL, (unhide HN).symm, unhide HM, unhide HR, unhide KF⟩

end Go.Proofs.Ytcegkaemcjlfgaa
