
/- container/heap's Push, Pop, Init, over whatever holds the row. -/
import Derived.Test.YthcilobmoeihbaaHepC
namespace Go.Proofs.Ythcilobmoeihbaa
open Go.RowKit

structure Heapy2 {α : Type} (T : TypeId) (v : Value) (d : α) (lt : α → α → Bool) (Hd : World → List α → Prop) (R : World → World → Prop) (box : α → Value) : Prop extends Heapy T v d lt Hd R where
  len : ∀ {w xs}, Hd w xs → ∃ f rv, Found T v "Len" w f rv ∧ Calls Try.prog f #[rv] w fun e w' => e = .returned (.int .i64 (xs.length : Int)) ∧ Hd w' xs ∧ R w w'
  push : ∀ {w xs}, Hd w xs → xs.length + 1 ≤ 1000000000 → ∃ f rv, Found T v "Push" w f rv ∧ ∀ x, Calls Try.prog f #[rv, box x] w fun e w' => e = .returned (.tuple #[]) ∧ Hd w' (xs ++ [x]) ∧ R w w'
  pop : ∀ {w xs x}, Hd w (xs ++ [x]) → ∃ f rv, Found T v "Pop" w f rv ∧ Calls Try.prog f #[rv] w fun e w' => e = .returned (box x) ∧ Hd w' xs ∧ R w w'

/-- the row is a heap -/
def IsHeap {α : Type} (d : α) (lt : α → α → Bool) (xs : List α) : Prop := HeapFrom lt (atL d xs) 0 xs.length
theorem atL_app {α : Type} (d : α) {xs : List α} (x : α) {k : Nat} (h : k < xs.length) : atL d (xs ++ [x]) k = atL d xs k := by
  unfold atL
  simp [List.getD, List.getElem?_append_left h]
theorem heap_cong {α : Type} {lt : α → α → Bool} {f g : Nat → α} {lo n : Nat} (h : HeapFrom lt f lo n) (e : ∀ k, k < n → g k = f k) : HeapFrom lt g lo n := fun k k0 hk h1 => by
  rw [e k hk, e (par k) (by have := par_lt k0; omega)]
  exact h k k0 hk h1

set_option maxRecDepth 20000 in
set_option maxHeartbeats 4000000 in
theorem hpush_any {α : Type} {T : TypeId} {v : Value} {d : α} {lt : α → α → Bool} {Hd : World → List α → Prop} {R : World → World → Prop} {box : α → Value} (H : Heapy2 T v d lt Hd R box) (xs : List α) (x : α) (w : World) (h : Hd w xs) (hr : xs.length + 1 ≤ 1000000000) (hp : IsHeap d lt xs) :
    Calls Try.prog 18 #[.iface T v, box x] w fun e w' => e = .returned (.tuple #[]) ∧ ∃ ys, Hd w' ys ∧ ys.Perm (x :: xs) ∧ IsHeap d lt ys ∧ R w w' := by
  have HH := hide H
  have HD := hide h
  have HP := hide hp
  clear H h hp
  go_enter Try.func18, Try.ntmps18
  obtain ⟨f, rv, ⟨hm, hc⟩, hC⟩ := (unhide HH).push (unhide HD) hr
  have HC := hide (hC x)
  clear hC
  go_wp2_with fail
  refine (unhide HC).mono ?_
  rintro e w2 ⟨rfl, h2, r2⟩
  have H2 := hide h2
  have R2 := hide r2
  clear h2 r2 hm hc HC
  obtain ⟨f3, rv3, ⟨hm3, hc3⟩, hC3⟩ := (unhide HH).len (unhide H2)
  have HC3 := hide hC3
  clear hC3
  go_wp2_with fail
  refine (unhide HC3).mono ?_
  rintro e w3 ⟨rfl, h3, r3⟩
  have hl : (xs ++ [x]).length = xs.length + 1 := by simp
  rw [hl]
  have hu : UpAt lt (atL d (xs ++ [x])) (xs ++ [x]).length xs.length := by
    rw [hl]
    exact up_start (heap_cong (unhide HP) (fun k hk => atL_app d x hk))
  have HC4 := hide (up_any (unhide HH).toHeapy (xs ++ [x]) xs.length w3 h3 hu)
  have e1 : ((xs.length + 1 : Nat) : Int) = (xs.length : Int) + 1 := by omega
  have R3 := hide ((unhide HH).trans (unhide R2) r3)
  clear h3 r3 hm3 hc3 HC3 hu
  go_wp2_with fail
  refine (unhide HC4).mono ?_
  rintro e w4 ⟨rfl, ys, y1, y2, y3, y4⟩
  have HE : Hid (∃ ys, Hd w4 ys ∧ ys.Perm (x :: xs) ∧ IsHeap d lt ys ∧ R w w4) := ⟨ys, y1, y2.trans (List.perm_append_comm (l₁ := xs) (l₂ := [x])), y3, (unhide HH).trans (unhide R3) y4⟩
  clear y1 y2 y3 y4
  go_wp2
  first | go_end0 | refine bodyPost_ret (results_none rfl _ _ _) rfl ?_
  exact ⟨rfl, unhide HE⟩

theorem list_last {α : Type} {xs : List α} {n : Nat} (h : xs.length = n + 1) : ∃ ys y, xs = ys ++ [y] ∧ ys.length = n := by
  refine ⟨xs.take n, xs[n], ?_, by simp [h]⟩
  rw [List.take_append_getElem]
  exact (List.take_of_length_le (by omega)).symm
theorem down_swapped {α : Type} {lt : α → α → Bool} {f : Nat → α} {n : Nat} (h : HeapFrom lt f 0 (n + 1)) : DownAt lt (swp f 0 n) 0 n 0 :=
  ⟨Nat.le_refl _, fun k k0 hk _ h2 => by
    have hp := par_lt k0
    rw [swp_n f (by omega) (by omega), swp_n f h2 (by omega)]
    exact h k k0 (by omega) (Nat.zero_le _), fun h1 => absurd h1 (Nat.lt_irrefl _)⟩

set_option maxRecDepth 20000 in
set_option maxHeartbeats 4000000 in
theorem hpop_any {α : Type} {T : TypeId} {v : Value} {d : α} {lt : α → α → Bool} {Hd : World → List α → Prop} {R : World → World → Prop} {box : α → Value} (H : Heapy2 T v d lt Hd R box) (xs : List α) (n : Nat) (w : World) (h : Hd w xs) (hn : xs.length = n + 1) (hp : IsHeap d lt xs) :
    Calls Try.prog 19 #[.iface T v] w fun e w' => e = .returned (box (atL d xs 0)) ∧ ∃ ys, Hd w' ys ∧ (ys ++ [atL d xs 0]).Perm xs ∧ IsHeap d lt ys ∧ R w w' := by
  have HH := hide H
  have HD := hide h
  have HP := hide hp
  have hrm := H.toHeapy.room h
  clear H h hp
  go_enter Try.func19, Try.ntmps19
  obtain ⟨f, rv, ⟨hm, hc⟩, hC⟩ := (unhide HH).len (unhide HD)
  have HC := hide hC
  rw [hn] at HC
  clear hC
  go_wp2_with fail
  refine (unhide HC).mono ?_
  rintro e w2 ⟨rfl, h2, r2⟩
  have H2 := hide h2
  have R2 := hide r2
  clear h2 r2 hm hc HC
  obtain ⟨f3, rv3, ⟨hm3, hc3⟩, hC3⟩ := (unhide HH).swap (unhide H2)
  have HC3 := hide (hC3 0 n (by omega) (by omega))
  clear hC3
  go_wp2_with fail
  refine (unhide HC3).mono ?_
  rintro e w3 ⟨rfl, h3, r3⟩
  have R3 := hide ((unhide HH).trans (unhide R2) r3)
  have e1 : atL d (swpL d xs 0 n) = swp (atL d xs) 0 n := funext fun q => swpL_at d (by omega) (by omega) q
  have hu : DownAt lt (atL d (swpL d xs 0 n)) 0 n 0 := by
    rw [e1]
    have h := unhide HP
    unfold IsHeap at h
    rw [hn] at h
    exact down_swapped h
  have HC4 := hide (down_any (unhide HH).toHeapy (swpL d xs 0 n) 0 n w3 h3 (by rw [swpL_length]; omega) (Nat.zero_le _) hu)
  have HE1 := hide e1
  clear h3 r3 hm3 hc3 HC3 hu e1
  go_wp2_with fail
  refine (unhide HC4).mono ?_
  rintro e w4 ⟨b, ys, rfl, y1, y2⟩
  have hyl : ys.length = n + 1 := by rw [y1.perm.length_eq, swpL_length, hn]
  obtain ⟨zs, z, rfl, hzl⟩ := list_last hyl
  have hz : z = atL d xs 0 := by
    have h1 := y1.far n (Nat.le_refl _)
    rw [unhide HE1, swp_r] at h1
    rw [← h1]
    unfold atL
    simp [List.getD, hzl]
  have HZ : Hid ((zs ++ [atL d xs 0]).Perm xs ∧ IsHeap d lt zs) := by
    refine ⟨?_, ?_⟩
    · rw [← hz]
      exact y1.perm.trans (swpL_perm d (by omega) (by omega))
    · unfold IsHeap
      rw [hzl]
      exact heap_cong y2 (fun k hk => (atL_app d z (by omega)).symm)
  have H4 := hide y1.hd
  have R4 := hide ((unhide HH).trans (unhide R3) y1.rel)
  clear y1 y2 HC4 hyl
  obtain ⟨f5, rv5, ⟨hm5, hc5⟩, hC5⟩ := (unhide HH).pop (unhide H4)
  rw [hz] at hC5
  have HC5 := hide hC5
  clear hC5 hz
  go_wp2_with fail
  refine (unhide HC5).mono ?_
  rintro e w5 ⟨rfl, h5, r5⟩
  have HE : Hid (∃ ys, Hd w5 ys ∧ (ys ++ [atL d xs 0]).Perm xs ∧ IsHeap d lt ys ∧ R w w5) := ⟨zs, h5, (unhide HZ).1, (unhide HZ).2, (unhide HH).trans (unhide R4) r5⟩
  clear h5 r5 hm5 hc5 HC5
  go_wp2
  go_ret
  exact ⟨rfl, unhide HE⟩

set_option maxRecDepth 20000 in
set_option maxHeartbeats 4000000 in
theorem hinit_any {α : Type} {T : TypeId} {v : Value} {d : α} {lt : α → α → Bool} {Hd : World → List α → Prop} {R : World → World → Prop} {box : α → Value} (H : Heapy2 T v d lt Hd R box) (xs : List α) (w : World) (h : Hd w xs) :
    Calls Try.prog 22 #[.iface T v] w fun e w' => e = .returned (.tuple #[]) ∧ ∃ ys, Hd w' ys ∧ ys.Perm xs ∧ IsHeap d lt ys ∧ R w w' := by
  have HH := hide H
  have HD := hide h
  have hrm := H.toHeapy.room h
  clear H h
  go_enter Try.func22, Try.ntmps22
  obtain ⟨f, rv, ⟨hm, hc⟩, hC⟩ := (unhide HH).len (unhide HD)
  have HC := hide hC
  clear hC
  generalize hn : xs.length = n at *
  go_wp2_with fail
  refine (unhide HC).mono ?_
  rintro e w2 ⟨rfl, h2, r2⟩
  have H2 := hide h2
  have R2 := hide r2
  clear h2 r2 hm hc HC
  go_wp2
  go_loopw [3] (fun i wr => ∃ (k : Nat) (ys : List α), k ≤ n ∧ i = .int .i64 ((k : Int) - 1) ∧ Hid (Hd wr ys ∧ ys.Perm xs ∧ HeapFrom lt (atL d ys) k n ∧ R w wr)) (fun i _ => (intOf i + 1).toNat)
  case atStart =>
    refine ⟨n / 2, xs, by omega, ?_, unhide H2, List.Perm.refl _, fun k k0 hk h1 => ?_, unhide R2⟩
    · go_num
    · unfold par at h1
      omega
  case round =>
    obtain ⟨k, ys, hk, rfl, HR⟩ := hrel
    cases k with
    | zero =>
      have e0 : ((0 : Nat) : Int) - 1 = -1 := rfl
      rw [e0]
      have HE : Hid (∃ ys, Hd wr ys ∧ ys.Perm xs ∧ IsHeap d lt ys ∧ R w wr) := ⟨ys, (unhide HR).1, (unhide HR).2.1, by unfold IsHeap; rw [(unhide HR).2.1.length_eq, hn]; exact (unhide HR).2.2.1, (unhide HR).2.2.2⟩
      go_wp2
      first | go_end0 | refine bodyPost_ret (results_none rfl _ _ _) rfl ?_
      exact ⟨rfl, unhide HE⟩
    | succ j =>
      have e0 : ((j + 1 : Nat) : Int) - 1 = (j : Int) := by omega
      rw [e0]
      have hyl := (unhide HR).2.1.length_eq
      have HC4 := hide (down_any (unhide HH).toHeapy ys j n wr (unhide HR).1 (by omega) (by omega) (down_start (unhide HR).2.2.1))
      clear e0
      go_wp2_with fail
      refine (unhide HC4).mono ?_
      rintro e w4 ⟨b, zs, rfl, y1, y2⟩
      have HR4 : Hid (Hd w4 zs ∧ zs.Perm xs ∧ HeapFrom lt (atL d zs) j n ∧ R w w4) := ⟨y1.hd, y1.perm.trans (unhide HR).2.1, y2, (unhide HH).trans (unhide HR).2.2.2 y1.rel⟩
      clear y1 y2 HC4
      go_wp2
      go_roundw
      case rel => exact ⟨j, zs, by omega, by go_num, unhide HR4⟩
      case measure => simp [intOf] <;> omega

end Go.Proofs.Ythcilobmoeihbaa
