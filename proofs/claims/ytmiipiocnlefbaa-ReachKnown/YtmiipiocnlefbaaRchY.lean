
/- The law ReachKnown: a graph by hand. -/
import Derived.Test.YtmiipiocnlefbaaRchX
namespace Go.Proofs.Ytmiipiocnlefbaa
open Go.RowKit Go.Shelf

def gK : List Nd := [ndI 1 [], ndI 1 [], ndI 6 [0, 0], ndI 4 [2, 0], ndI 8 [1], ndI 5 [3, 2]]
def gX : List Nd := [ndI 8 [0]]
theorem gK_sound : SoundN gK := by unfold SoundN SoundF; decide +kernel
theorem gK_5 : FromP gK 5 := ⟨gK_sound, by decide, by decide⟩
theorem gK_3 : FromP gK 3 := ⟨gK_sound, by decide, by decide⟩
theorem gK_6 : ¬ FromP gK 6 := fun h => absurd h.2.2 (by decide)
theorem gK_n : ¬ FromP gK (-1) := fun h => absurd h.2.1 (by decide)
theorem gX_0 : ¬ FromP gX 0 := fun h => absurd (h.1 0 (by decide) 0 (by decide +kernel)).2 (by decide)
theorem gK_tot : totM (innF gK) gK.length 0 ≤ 1000000 := by decide +kernel
theorem gK_from : fromL (innF gK) gK.length (5 : Int).toNat = [true, false, true, true, false, true] := by decide +kernel
theorem gK_u0 : usersL (innF gK) gK.length (5 : Int).toNat 0 = [(3, 1), (2, 0), (2, 1)] := by decide +kernel
theorem gK_u2 : usersL (innF gK) gK.length (5 : Int).toNat 2 = [(5, 1), (3, 0)] := by decide +kernel
theorem gK_c0 : ((usersL (innF gK) gK.length (3 : Int).toNat 0).length : Int) = 3 := by decide +kernel
theorem gK_c2 : ((usersL (innF gK) gK.length (3 : Int).toNat 2).length : Int) = 1 := by decide +kernel
theorem gK_c3 : ((usersL (innF gK) gK.length (3 : Int).toNat 3).length : Int) = 0 := by decide +kernel
theorem gK_c5 : ((usersL (innF gK) gK.length (3 : Int).toNat 5).length : Int) = 0 := by decide +kernel
theorem small_int {xs : List Int} (h : xs.all (fun x => decide (-9223372036854775808 ≤ x) && decide (x ≤ 9223372036854775807)) = true) : ∀ x ∈ xs, I64 x := fun x hx => by
  have := List.all_eq_true.1 h x hx
  simp only [Bool.and_eq_true, decide_eq_true_eq] at this
  exact this

theorem gK_at {W : World} {b1 b2 b3 b4 b5 : Nat} {e1 e2 e3 e4 e5 : TypeId} (h1 : W.heap[b1]? = some (.cells #[.int .i64 0, .int .i64 0] e1)) (h2 : W.heap[b2]? = some (.cells #[.int .i64 2, .int .i64 0] e2)) (h3 : W.heap[b3]? = some (.cells #[.int .i64 1] e3)) (h4 : W.heap[b4]? = some (.cells #[.int .i64 3, .int .i64 2] e4))
    (h5 : W.heap[b5]? = some (.cells (Value.int .i64 1 :: .slice none 0 0 :: .slice none 0 0 :: .int .i64 0 :: .slice none 0 0 :: .slice none 0 0 :: .slice none 0 0 :: .int .i64 1 :: .slice none 0 0 :: .slice none 0 0 :: .int .i64 0 :: .slice none 0 0 :: .slice none 0 0 :: .slice none 0 0 :: .int .i64 6 :: .slice (some ⟨b1, 0, none⟩) 2 2 :: .slice none 0 0 :: .int .i64 0 :: .slice none 0 0 :: .slice none 0 0 :: .slice none 0 0 :: .int .i64 4 :: .slice (some ⟨b2, 0, none⟩) 2 2 :: .slice none 0 0 :: .int .i64 0 :: .slice none 0 0 :: .slice none 0 0 :: .slice none 0 0 :: .int .i64 8 :: .slice (some ⟨b3, 0, none⟩) 1 1 :: .slice none 0 0 :: .int .i64 0 :: .slice none 0 0 :: .slice none 0 0 :: .slice none 0 0 :: .int .i64 5 :: .slice (some ⟨b4, 0, none⟩) 2 2 :: .slice none 0 0 :: .int .i64 0 :: .slice none 0 0 :: .slice none 0 0 :: .slice none 0 0 :: []).toArray e5)) : Nodes W (.slice (some ⟨b5, 0, none⟩) 6 6) gK := by
  refine ⟨by decide, _, 6, rfl, fun _ => ⟨b5, 0, rfl, (Array.getElem?_eq_some_iff.1 h5).1, fun i hi => ?_⟩⟩
  have hi2 : i = 0 ∨ i = 1 ∨ i = 2 ∨ i = 3 ∨ i = 4 ∨ i = 5 := by have : i < 6 := hi; omega
  rcases hi2 with rfl | rfl | rfl | rfl | rfl | rfl
  · refine ndI_at (xs := []) ⟨by decide, by decide⟩ (Ints.nil W) fun j hj => ?_
    rw [cells_blk h5]
    match j, hj with
    | 0, _ => rfl
    | 1, _ => rfl
    | 2, _ => rfl
    | 3, _ => rfl
    | 4, _ => rfl
    | 5, _ => rfl
    | 6, _ => rfl
  · refine ndI_at (xs := []) ⟨by decide, by decide⟩ (Ints.nil W) fun j hj => ?_
    rw [cells_blk h5]
    match j, hj with
    | 0, _ => rfl
    | 1, _ => rfl
    | 2, _ => rfl
    | 3, _ => rfl
    | 4, _ => rfl
    | 5, _ => rfl
    | 6, _ => rfl
  · refine ndI_at (xs := [0, 0]) (a := some ⟨b1, 0, none⟩) (c := 2) ⟨by decide, by decide⟩ (ints_blkU h1 rfl (small_int (by decide)) (by decide)) fun j hj => ?_
    rw [cells_blk h5]
    match j, hj with
    | 0, _ => rfl
    | 1, _ => rfl
    | 2, _ => rfl
    | 3, _ => rfl
    | 4, _ => rfl
    | 5, _ => rfl
    | 6, _ => rfl
  · refine ndI_at (xs := [2, 0]) (a := some ⟨b2, 0, none⟩) (c := 2) ⟨by decide, by decide⟩ (ints_blkU h2 rfl (small_int (by decide)) (by decide)) fun j hj => ?_
    rw [cells_blk h5]
    match j, hj with
    | 0, _ => rfl
    | 1, _ => rfl
    | 2, _ => rfl
    | 3, _ => rfl
    | 4, _ => rfl
    | 5, _ => rfl
    | 6, _ => rfl
  · refine ndI_at (xs := [1]) (a := some ⟨b3, 0, none⟩) (c := 1) ⟨by decide, by decide⟩ (ints_blkU h3 rfl (small_int (by decide)) (by decide)) fun j hj => ?_
    rw [cells_blk h5]
    match j, hj with
    | 0, _ => rfl
    | 1, _ => rfl
    | 2, _ => rfl
    | 3, _ => rfl
    | 4, _ => rfl
    | 5, _ => rfl
    | 6, _ => rfl
  · refine ndI_at (xs := [3, 2]) (a := some ⟨b4, 0, none⟩) (c := 2) ⟨by decide, by decide⟩ (ints_blkU h4 rfl (small_int (by decide)) (by decide)) fun j hj => ?_
    rw [cells_blk h5]
    match j, hj with
    | 0, _ => rfl
    | 1, _ => rfl
    | 2, _ => rfl
    | 3, _ => rfl
    | 4, _ => rfl
    | 5, _ => rfl
    | 6, _ => rfl
theorem gX_at {W : World} {b1 b2 : Nat} {e1 e2 : TypeId} (h1 : W.heap[b1]? = some (.cells #[.int .i64 0] e1)) (h2 : W.heap[b2]? = some (.cells #[.int .i64 8, .slice (some ⟨b1, 0, none⟩) 1 1, .slice none 0 0, .int .i64 0, .slice none 0 0, .slice none 0 0, .slice none 0 0] e2)) : Nodes W (.slice (some ⟨b2, 0, none⟩) 1 1) gX := by
  refine ⟨by decide, _, 1, rfl, fun _ => ⟨b2, 0, rfl, (Array.getElem?_eq_some_iff.1 h2).1, fun i hi => ?_⟩⟩
  obtain rfl : i = 0 := by have : i < 1 := hi; omega
  refine ndI_at (xs := [0]) (a := some ⟨b1, 0, none⟩) (c := 1) ⟨by decide, by decide⟩ (ints_blkU h1 rfl (small_int (by decide)) (by decide)) fun j hj => ?_
  rw [cells_blk h2]
  match j, hj with
  | 0, _ => rfl
  | 1, _ => rfl
  | 2, _ => rfl
  | 3, _ => rfl
  | 4, _ => rfl
  | 5, _ => rfl
  | 6, _ => rfl

theorem heap_newE (w : World) (o : Obj) {B : Nat} (h : B = w.heap.size) : (w.alloc o).heap[B]? = some o := by subst h; exact heap_newU w o
/-- what the law reads -/
structure KnW (W : World) (G B C D u0 u2 : Nat) (k0 k2 : Nat) : Prop where
  g : W.cell? ⟨G + 1, 0, none⟩ = some (.slice (some ⟨G, 0, none⟩) 6 6)
  r0 : W.cell? ⟨B, 0, none⟩ = some (.bool true)
  r1 : W.cell? ⟨B, 1, none⟩ = some (.bool false)
  r2 : W.cell? ⟨B, 2, none⟩ = some (.bool true)
  r3 : W.cell? ⟨B, 3, none⟩ = some (.bool true)
  r4 : W.cell? ⟨B, 4, none⟩ = some (.bool false)
  r5 : W.cell? ⟨B, 5, none⟩ = some (.bool true)
  v0 : W.cell? ⟨C, 0, none⟩ = some (.slice (some ⟨u0, 0, none⟩) 3 k0)
  v2 : W.cell? ⟨C, 2, none⟩ = some (.slice (some ⟨u2, 0, none⟩) 2 k2)
  a0 : W.cell? ⟨u0, 0, none⟩ = some (.int .i64 3)
  b0 : W.cell? ⟨u0, 1, none⟩ = some (.int .i64 1)
  a1 : W.cell? ⟨u0, 2, none⟩ = some (.int .i64 2)
  b1 : W.cell? ⟨u0, 3, none⟩ = some (.int .i64 0)
  a2 : W.cell? ⟨u0, 4, none⟩ = some (.int .i64 2)
  b2 : W.cell? ⟨u0, 5, none⟩ = some (.int .i64 1)
  e0 : W.cell? ⟨u2, 0, none⟩ = some (.int .i64 5)
  e1 : W.cell? ⟨u2, 1, none⟩ = some (.int .i64 1)
  c0 : W.cell? ⟨D, 0, none⟩ = some (.int .i64 3)
  c2 : W.cell? ⟨D, 2, none⟩ = some (.int .i64 1)
  c3 : W.cell? ⟨D, 3, none⟩ = some (.int .i64 0)
  c5 : W.cell? ⟨D, 5, none⟩ = some (.int .i64 0)
theorem KnW.keep {W W' : World} {G B C D u0 u2 k0 k2 : Nat} (h : KnW W G B C D u0 u2 k0 k2) (k : Kp W W') : KnW W' G B C D u0 u2 k0 k2 :=
  ⟨k.cellT h.g, k.cellT h.r0, k.cellT h.r1, k.cellT h.r2, k.cellT h.r3, k.cellT h.r4, k.cellT h.r5, k.cellT h.v0, k.cellT h.v2, k.cellT h.a0, k.cellT h.b0, k.cellT h.a1, k.cellT h.b1, k.cellT h.a2, k.cellT h.b2, k.cellT h.e0, k.cellT h.e1, k.cellT h.c0, k.cellT h.c2, k.cellT h.c3, k.cellT h.c5⟩

set_option maxRecDepth 20000 in
set_option maxHeartbeats 8000000 in
theorem known11_any (w : World) : Calls Try.prog 4 #[] w fun e w' => e = .returned (.bool true) ∧ Kp w w' := by
  go_enter Try.func4, Try.ntmps4
  go_wp2_with fail
  refine Calls.mono (awake11_any w) ?_
  rintro e w1 ⟨rfl, k1⟩
  have K1 := hide k1
  clear k1
  go_wp2_with fail
  generalize hW : World.alloc _ _ = W
  have hG : Nodes W (.slice (some ⟨w1.heap.size + 1 + 1 + 1 + 1, 0, none⟩) 6 6) gK ∧ W.cell? ⟨w1.heap.size + 1 + 1 + 1 + 1 + 1, 0, none⟩ = some (.slice (some ⟨w1.heap.size + 1 + 1 + 1 + 1, 0, none⟩) 6 6) ∧ Kp w1 W := by
    subst hW
    refine ⟨gK_at (heap_oldU (heap_oldU (heap_oldU (heap_oldU (heap_oldU (heap_newU w1 _)))))) (heap_oldU (heap_oldU (heap_oldU (heap_oldU (heap_newE _ _ (by simp only [sz_allocU])))))) (heap_oldU (heap_oldU (heap_oldU (heap_newE _ _ (by simp only [sz_allocU]))))) (heap_oldU (heap_oldU (heap_newE _ _ (by simp only [sz_allocU])))) (heap_oldU (heap_newE _ _ (by simp only [sz_allocU]))), ?_,
      (((((Kp.alloc w1 _).trans (Kp.alloc _ _)).trans (Kp.alloc _ _)).trans (Kp.alloc _ _)).trans (Kp.alloc _ _)).trans (Kp.alloc _ _)⟩
    rw [cells_blk (heap_newE _ _ (by simp only [sz_allocU]))]
    rfl
  obtain ⟨hG, cb, hK⟩ := hG
  have HG := hide hG
  have HK := hide ((unhide K1).trans hK)
  clear hG hK hW K1
  generalize w1.heap.size + 1 + 1 + 1 + 1 = G at *
  refine Calls.mono (from_any _ 6 gK 5 W (unhide HG) ⟨by decide, by decide⟩) ?_
  rintro e w2 ⟨hf, k2⟩
  obtain ⟨B, rfl, hB⟩ := retF_known hf gK_5
  rw [gK_from] at hB
  have HB := hide hB
  have cb2 := k2.cellT cb
  have HG2 := hide ((unhide HG).keep k2)
  have HK2 := hide ((unhide HK).trans k2)
  clear hf k2 cb HG HK hB
  go_wp2_with fail
  refine Calls.mono (users_any _ 6 gK 5 w2 (unhide HG2) ⟨by decide, by decide⟩ gK_tot) ?_
  rintro e w3 ⟨hu, k3⟩
  obtain ⟨C, base, vs, rfl, hR⟩ := retU_known hu gK_5
  obtain ⟨q0, k0, hc0, hr0⟩ := hR.row (k := 0) (by decide) gK_u0
  obtain ⟨u0, rfl, hg0⟩ := hr0 (by decide)
  obtain ⟨q2, k2', hc2, hr2⟩ := hR.row (k := 2) (by decide) gK_u2
  obtain ⟨u2, rfl, hg2⟩ := hr2 (by decide)
  have HU := hide (And.intro hc0 (And.intro (hg0 0 (by decide)) (And.intro (hg0 1 (by decide)) (And.intro (hg0 2 (by decide)) (And.intro hc2 (hg2 0 (by decide)))))))
  have cb3 := k3.cellT cb2
  have HB3 := hide ((unhide HB).keep k3)
  have HG3 := hide ((unhide HG2).keep k3)
  have HK3 := hide ((unhide HK2).trans k3)
  clear hu hR hr0 hg0 hr2 hg2 hc0 hc2 k3 cb2 HB HG2 HK2
  go_wp2_with fail
  refine Calls.mono (counts_any _ 6 gK 3 w3 (unhide HG3) ⟨by decide, by decide⟩ gK_tot) ?_
  rintro e w4 ⟨hu, k4⟩
  obtain ⟨D, xs, rfl, hD, hl, hx⟩ := retC_known hu gK_3
  have hn : gK.length = 6 := rfl
  have hKN : KnW w4 G B C D u0 u2 k0 k2' := by
    obtain ⟨f1, f2, f3, f4, f5, f6⟩ := unhide HU
    have hb := (unhide HB3).keep k4
    have hd := fun (j : Nat) (hj : j < 6) (z : Int) (hz : ((usersL (innF gK) gK.length (3 : Int).toNat j).length : Int) = z) => (hD.cell (i := j) (by rw [hl]; exact hj)).trans (by rw [hx j hj, hz])
    exact ⟨k4.cellT cb3, hb.cell (i := 0) (by decide), hb.cell (i := 1) (by decide), hb.cell (i := 2) (by decide), hb.cell (i := 3) (by decide), hb.cell (i := 4) (by decide), hb.cell (i := 5) (by decide), k4.cellT f1, k4.cellT f5, k4.cellT f2.1, k4.cellT f2.2, k4.cellT f3.1, k4.cellT f3.2, k4.cellT f4.1, k4.cellT f4.2, k4.cellT f6.1, k4.cellT f6.2,
      hd 0 (by decide) 3 gK_c0, hd 2 (by decide) 1 gK_c2, hd 3 (by decide) 0 gK_c3, hd 5 (by decide) 0 gK_c5⟩
  have HKN := hide hKN
  have HG4 := hide ((unhide HG3).keep k4)
  have HK4 := hide ((unhide HK3).trans k4)
  clear hu hD hl hx hKN k4 HU cb3 HB3 HG3 HK3
  rw [hn]
  clear hn
  go_wp2_with fail
  have hw := heap_newU w4 (.cells #[.int .i64 3, .int .i64 1, .int .i64 2, .int .i64 0, .int .i64 2, .int .i64 1] 39)
  have ka := Kp.alloc w4 (.cells #[.int .i64 3, .int .i64 1, .int .i64 2, .int .i64 0, .int .i64 2, .int .i64 1] 39)
  have HKN5 := hide ((unhide HKN).keep ka)
  have HG5 := hide ((unhide HG4).keep ka)
  have HK5 := hide ((unhide HK4).trans ka)
  have HW := hide (cells_blk hw)
  clear hw ka HKN HG4 HK4
  generalize w4.alloc (.cells #[.int .i64 3, .int .i64 1, .int .i64 2, .int .i64 0, .int .i64 2, .int .i64 1] 39) = w5 at *
  generalize w4.heap.size = E at *
  go_loopw [6] (fun i wr => ∃ k : Nat, k ≤ 3 ∧ i = .int .i64 k ∧ Hid (Kp w5 wr)) (fun i _ => 3 - (intOf i).toNat)
  case atStart => exact ⟨0, Nat.zero_le _, rfl, Kp.refl _⟩
  case round =>
    obtain ⟨k, hk, rfl, HKR⟩ := hrel
    have hkn := (unhide HKN5).keep (unhide HKR)
    have wc := fun i v (h : (#[.int .i64 3, .int .i64 1, .int .i64 2, .int .i64 0, .int .i64 2, .int .i64 1] : Array Value)[i]? = some v) => (unhide HKR).cellT ((unhide HW i).trans h)
    have q0 := hkn.v0
    by_cases hlt : k < 3
    · have hc : k = 0 ∨ k = 1 ∨ k = 2 := by omega
      rcases hc with rfl | rfl | rfl
      · have p0 := hkn.a0
        have p1 := hkn.b0
        have p2 := wc 0 _ rfl
        have p3 := wc 1 _ rfl
        clear wc hkn
        go_wp2
        go_quiet (fail)
        go_wp2
        go_roundw
        case rel => exact ⟨1, by omega, by go_num, (unhide HKR).trans (Kp.drewN _ _)⟩
        case measure => simp [intOf]
      · have p0 := hkn.a1
        have p1 := hkn.b1
        have p2 := wc 2 _ rfl
        have p3 := wc 3 _ rfl
        clear wc hkn
        go_wp2
        go_quiet (fail)
        go_wp2
        go_roundw
        case rel => exact ⟨2, by omega, by go_num, (unhide HKR).trans (Kp.drewN _ _)⟩
        case measure => simp [intOf]
      · have p0 := hkn.a2
        have p1 := hkn.b2
        have p2 := wc 4 _ rfl
        have p3 := wc 5 _ rfl
        clear wc hkn
        go_wp2
        go_quiet (fail)
        go_wp2
        go_roundw
        case rel => exact ⟨3, by omega, by go_num, (unhide HKR).trans (Kp.drewN _ _)⟩
        case measure => simp [intOf]
    · obtain rfl : k = 3 := by omega
      have ka := ((Kp.alloc wr (.cells #[.int .i64 0] 3)).trans (Kp.alloc _ (.cells #[.int .i64 8, .slice (some ⟨wr.heap.size, 0, none⟩) 1 1, .slice none 0 0, .int .i64 0, .slice none 0 0, .slice none 0 0, .slice none 0 0] 47))).trans (Kp.alloc _ (.cells #[.slice (some ⟨wr.heap.size + 1, 0, none⟩) 1 1] 24))
      have hx : Nodes (((wr.alloc (.cells #[.int .i64 0] 3)).alloc (.cells #[.int .i64 8, .slice (some ⟨wr.heap.size, 0, none⟩) 1 1, .slice none 0 0, .int .i64 0, .slice none 0 0, .slice none 0 0, .slice none 0 0] 47)).alloc (.cells #[.slice (some ⟨wr.heap.size + 1, 0, none⟩) 1 1] 24)) (.slice (some ⟨wr.heap.size + 1, 0, none⟩) 1 1) gX := gX_at (heap_oldU (heap_oldU (heap_newU wr _))) (heap_oldU (heap_newE _ _ (by simp only [sz_allocU])))
      have bx : (((wr.alloc (.cells #[.int .i64 0] 3)).alloc (.cells #[.int .i64 8, .slice (some ⟨wr.heap.size, 0, none⟩) 1 1, .slice none 0 0, .int .i64 0, .slice none 0 0, .slice none 0 0, .slice none 0 0] 47)).alloc (.cells #[.slice (some ⟨wr.heap.size + 1, 0, none⟩) 1 1] 24)).cell? ⟨wr.heap.size + 1 + 1, 0, none⟩ = some (.slice (some ⟨wr.heap.size + 1, 0, none⟩) 1 1) := by
        rw [cells_blk (heap_newE _ _ (by simp only [sz_allocU]))]
        rfl
      have HG6 := hide ((unhide HG5).keep ((unhide HKR).trans ka))
      have HK6 := hide ((unhide HK5).trans ((unhide HKR).trans ka))
      have h6 := hkn.keep ka
      obtain ⟨zg, zr0, zr1, zr2, zr3, zr4, zr5, zv0, zv2, za0, zb0, za1, zb1, za2, zb2, ze0, ze1, zc0, zc2, zc3, zc5⟩ := h6
      have HX := hide hx
      clear wc q0 hkn ka hx
      go_wp2_with fail
      generalize World.alloc (World.alloc (World.alloc wr _) _) _ = w6 at *
      refine Calls.mono (from_any _ 1 gX 0 w6 (unhide HX) ⟨by decide, by decide⟩) ?_
      rintro e w7 ⟨hf, k7⟩
      obtain rfl := retF_null hf gX_0
      have zg7 := k7.cellT zg
      have HG7 := hide ((unhide HG6).keep k7)
      have HK7 := hide ((unhide HK6).trans k7)
      clear zg zr0 zr1 zr2 zr3 zr4 zr5 zv0 zv2 za0 zb0 za1 zb1 za2 zb2 ze0 ze1 zc0 zc2 zc3 zc5 hf k7 HG6 HK6 bx
      go_wp2_with fail
      refine Calls.mono (users_any _ 6 gK 6 w7 (unhide HG7) ⟨by decide, by decide⟩ gK_tot) ?_
      rintro e w8 ⟨hu, k8⟩
      obtain ⟨a8, rfl⟩ := retU_null hu gK_6
      have zg8 := k8.cellT zg7
      have HG8 := hide ((unhide HG7).keep k8)
      have HK8 := hide ((unhide HK7).trans k8)
      clear hu k8 zg7 HG7 HK7
      go_wp2_with fail
      refine Calls.mono (counts_any _ 6 gK (-1) w8 (unhide HG8) ⟨by decide, by decide⟩ gK_tot) ?_
      rintro e w9 ⟨hu, k9⟩
      obtain ⟨a9, rfl⟩ := retC_null hu gK_n
      have HK9 := hide ((unhide HK8).trans k9)
      clear hu k9 zg8 HG8 HK8
      go_wp2
      go_ret
      exact ⟨by first | rfl | trivial, unhide HK9⟩

end Go.Proofs.Ytmiipiocnlefbaa
