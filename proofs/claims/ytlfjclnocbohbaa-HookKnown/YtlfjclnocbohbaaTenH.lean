
/- Contracts of repeats: a number as often as asked. -/
import Derived.Test.YtlfjclnocbohbaaTenF
import Derived.Laws.BitsAllLaws
import Derived.Laws.CopyOwn
import Derived.Deep.RegionLaw
namespace Go.Proofs.Ytlfjclnocbohbaa
open Go.RowKit

set_option maxHeartbeats 400000 in
theorem mul64_one (n : Nat) (hn : n ≤ 4096) (w : World) :
    Calls Try.prog 73 #[.int .u64 1, .int .u64 n] w fun e w' => e = .returned (.tuple #[.int .u64 0, .int .u64 n]) ∧ w' = w := by
  have h1 : bits .and .u64 (n : Int) 4294967295 = (n : Int) := by
    have := u64_and_nat n 4294967295 (by omega) (by decide)
    refine this.trans ?_
    have e : n &&& 4294967295 = n := by
      rw [show (4294967295 : Nat) = 2 ^ 32 - 1 by decide, Nat.and_two_pow_sub_one_eq_mod]
      exact Nat.mod_eq_of_lt (by omega)
    rw [e]
  have h2 : bits .and .u64 1 4294967295 = 1 := by decide +kernel
  have h3 : bits .and .u64 0 4294967295 = 0 := by decide +kernel
  have h4 : (n : Int) / 4294967296 = 0 := by omega
  go_enter Try.func73, Try.ntmps73
  go_wp2
  go_ret2
  exact ⟨rfl, rfl⟩

set_option maxHeartbeats 400000 in
theorem mul_one (n : Nat) (hn : n ≤ 4096) (w : World) :
    Calls Try.prog 67 #[.int .u64 1, .int .u64 n] w fun e w' => e = .returned (.tuple #[.int .u64 0, .int .u64 n]) ∧ w' = w := by
  go_enter Try.func67, Try.ntmps67
  go_wp2_with fail
  refine (mul64_one n hn w).mono ?_
  rintro e w1 ⟨rfl, rfl⟩
  go_wp2
  go_ret2
  exact ⟨rfl, rfl⟩

theorem Kx.trans' {B : Nat} {a b b' c : World} (h : Kx B a b) (k : Kx B b' c) (e : b' = b.drew := by rfl) : Kx B a c := by
  subst e
  exact ⟨k.os.trans h.os, k.tape.trans h.tape, k.output.trans h.output, Nat.le_trans h.size k.size, fun i hi hne => (k.block i (Nat.lt_of_lt_of_le hi h.size) hne).trans (h.block i hi hne)⟩

theorem Try.infoFlt : (Try.prog.info? 23).map (fun i => (i.zero, i.size, i.bytes)) = some (some (.float .f64 0), 1, 8) := by kernel_rfl
theorem Try.sizeFlt : (Try.prog.info? 23).map (·.size) = some 1 := by kernel_rfl

theorem mk_flts (n : Nat) (hn : n * 8 ≤ 140737488351232) (w : World) :
    (Instr.makeSlice 29 (.int .i64 n) (.int .i64 n)).run Try.prog w = .ok (.slice (some ⟨w.heap.size, 0, none⟩) n n) (w.alloc (.cells (madeCells #[.float .f64 0] n) 23)) := by
  obtain ⟨i0, hi, hz0, hz1, hz2⟩ := info_parts Try.infoFlt
  have h := run_make (P := Try.prog) w 29 23 i0 (.float .f64 0) Try.underlying29 hi hz0 .i64 .i64 n n (by omega) (by omega) (by rw [hz2]; omega) (by omega)
  rw [hz1] at h
  simpa [Value.cells] using h

/-- k of n numbers are x, the others still nought -/
def fillN (n k x : Nat) : List Nat := List.replicate k x ++ List.replicate (n - k) 0
theorem fillN_zero (n x : Nat) : fillN n 0 x = List.replicate n 0 := by simp [fillN]
theorem fillN_all (n x : Nat) : fillN n n x = List.replicate n x := by simp [fillN]
theorem fillN_length {n k : Nat} (x : Nat) (h : k ≤ n) : (fillN n k x).length = n := by simp [fillN]; omega
theorem fillN_getD {n k x j : Nat} (h : j < k) : (fillN n k x).getD j 0 = x := by
  unfold fillN
  rw [List.getD_eq_getElem?_getD, List.getElem?_append_left (by simpa using h), List.getElem?_replicate, if_pos h]
  rfl
theorem fillN_splice {n k m : Nat} (x : Nat) (h : k + m ≤ n) : splice ((fillN n k x).map (Value.float .f64)) k ((List.replicate m x).map (Value.float .f64)) = (fillN n (k + m) x).map (Value.float .f64) := by
  have e : splice ((fillN n k x).map (Value.float .f64)) k ((List.replicate m x).map (Value.float .f64)) = ((fillN n k x).take k ++ (List.replicate m x ++ (fillN n k x).drop (k + m))).map (Value.float .f64) := by
    simp [splice]
  rw [e]
  congr 1
  unfold fillN
  rw [List.take_append_of_le_length (by simp), List.take_of_length_le (by simp), List.drop_append, List.drop_of_length_le (by simp), List.nil_append, List.length_replicate, List.drop_replicate, ← List.append_assoc, List.replicate_append_replicate]
  congr 2
  omega

/-- 'copy' of m numbers x to the place k of the row that is being filled -/
theorem copy_fill (w : World) (G n k m x dl dc sl sc : Nat) (ad : Addr) (h : BlkF w 23 G (fillN n k x)) (hm : m = Nat.min sl dl) (hle : k + m ≤ n) (hkn : k ≤ n)
    (hsrc : ∀ j, j < m → w.cell? (ad.add j) = some (.float .f64 x)) :
    ∃ W, Sem.run Try.prog (Builtin.copy_ #[29, 29] 3 #[.slice (some ⟨G, k, none⟩) dl dc, .slice (some ad) sl sc]) w = .ok (.int .i64 m) W ∧ BlkF W 23 G (fillN n (k + m) x) ∧ Kx G w W := by
  have hrun := run_copy_row (P := Try.prog) w 29 29 3 23 G k dl dc ad sl sc ((fillN n k x).map (Value.float .f64)).toArray 23 ((List.replicate m x).map (Value.float .f64)) Try.underlying29 Try.sizeFlt h (by simpa using hm)
    (by
      intro j v hj
      have hj' : j < m := by have := (List.getElem?_eq_some_iff.1 hj).1; simpa using this
      have : v = .float .f64 x := by simp [hj'] at hj; exact hj.symm
      rw [this]
      exact hsrc j hj') (by simp [fillN]; omega) (flts_oneCell _)
  refine ⟨_, by simpa [goInt] using hrun, ?_, ?_⟩
  · have := setRow_heap w G _ ((List.take k ((fillN n k x).map (Value.float .f64)).toArray.toList ++ (List.replicate m x).map (Value.float .f64) ++ List.drop (k + ((List.replicate m x).map (Value.float .f64)).length) ((fillN n k x).map (Value.float .f64)).toArray.toList).toArray) 23 _ h
    unfold BlkF
    rw [← fillN_splice x hle]
    simpa [splice] using this
  · exact ⟨rfl, rfl, rfl, by simp [World.setRow], fun i _ hne => setRow_other w G i _ (fun e => hne (by rw [e]))⟩

set_option maxHeartbeats 1000000 in
theorem repeat_one (v : Value) (x n : Nat) (w : World) (h : Flts w v [x]) (h1 : 1 ≤ n) (hn : n ≤ 4096) :
    Calls Try.prog 57 #[v, .int .i64 n] w fun e w' => ∃ G, e = .returned (.slice (some ⟨G, 0, none⟩) n n) ∧ w.heap.size ≤ G ∧ BlkF w' 23 G (List.replicate n x) ∧ Kp w w' := by
  have hmk := mk_flts n (by omega) w
  obtain ⟨a, cap, rfl, hv⟩ := h.val
  obtain ⟨b, off, rfl, hb, hc⟩ := hv (by simp)
  have hc0 : w.cell? ⟨b, off, none⟩ = some (.float .f64 x) := hc 0 (by simp)
  clear h hv hc
  have hn0 : ¬ ((n : Int) < 0) := by omega
  have hn0' : decide ((n : Int) < 0) = false := decide_eq_false hn0
  have hn1 : ¬ ((9223372036854775807 : Int) < (n : Int)) := by omega
  have hn1' : decide ((9223372036854775807 : Int) < (n : Int)) = false := decide_eq_false hn1
  have KA := Kp.alloc w (.cells (madeCells #[.float .f64 0] n) 23)
  have BA := BlkF.made w 23 n
  rw [← fillN_zero n x] at BA
  have CA := (Below.cell KA (p := ⟨b, off, none⟩) hb).trans hc0
  generalize hG : w.heap.size = G at hmk BA
  have hGS : w.heap.size ≤ G := by omega
  generalize (w.alloc (.cells (madeCells #[.float .f64 0] n) 23)) = W1 at *
  obtain ⟨W2, hcp, B2, k2⟩ := copy_fill W1 G n 0 1 x n n 1 cap ⟨b, off, none⟩ BA (by have : Nat.min 1 n = 1 := Nat.min_eq_left h1; omega) (by omega) (by omega) (by
    intro j hj
    obtain rfl : j = 0 := by omega
    simpa [Addr.add] using CA)
  have K2 := hide (Kx.after KA k2 hGS)
  have H2 := hide B2
  clear hc0 KA BA CA B2 k2 hG hb
  go_enter Try.func57, Try.ntmps57
  go_wp2_with fail
  refine (mul_one n hn w).mono ?_
  rintro e w1 ⟨rfl, rfl⟩
  go_wp2
  clear hmk hcp
  go_loopw [8] (fun i wr => ∃ k : Nat, 1 ≤ k ∧ k ≤ n ∧ i = .int .i64 k ∧ Hid (BlkF wr 23 G (fillN n k x)) ∧ Hid (Kx G W2 wr)) (fun i _ => n - (intOf i).toNat)
  case atStart => exact ⟨1, Nat.le_refl _, h1, rfl, unhide H2, Kx.refl _ _⟩
  case round wr =>
    obtain ⟨k, hk1, hk, rfl, BR, KR⟩ := hrel
    by_cases hlt : k < n
    · obtain ⟨W3, hcp, B3, k3⟩ := copy_fill wr.drew G n k (Nat.min k (n - k)) x (n - k) (n - k) k n ⟨G, 0, none⟩ (show BlkF wr.drew 23 G _ from unhide BR) rfl (by have : Nat.min k (n - k) ≤ n - k := Nat.min_le_right k (n - k); omega) hk
        (by
          intro j hj
          have hj' : j < k := Nat.lt_of_lt_of_le hj (Nat.min_le_left _ _)
          have := BlkF.cell (w := wr.drew) (show BlkF wr.drew 23 G _ from unhide BR) (i := j) (by rw [fillN_length x hk]; omega)
          rw [fillN_getD hj'] at this
          by_cases h0 : j = 0
          · subst h0; simpa [Addr.add] using this
          · simpa [Addr.add, h0] using this)
      have HB3 := hide B3
      have K3 := hide ((unhide KR).trans' k3)
      have m1 : 1 ≤ Nat.min k (n - k) := by
        rcases Nat.le_total k (n - k) with h | h
        · rw [show Nat.min k (n - k) = k from Nat.min_eq_left h]; exact hk1
        · rw [show Nat.min k (n - k) = n - k from Nat.min_eq_right h]; omega
      have m2 : Nat.min k (n - k) ≤ n - k := Nat.min_le_right _ _
      clear B3 k3
      generalize Nat.min k (n - k) = m at *
      go_wp2
      go_region
      go_wp2
      go_roundw
      case rel => exact ⟨k + m, by omega, by omega, by go_num, unhide HB3, unhide K3⟩
      case measure => simp [intOf]; omega
    · obtain rfl : k = n := by omega
      have BF := hide (unhide BR)
      rw [fillN_all] at BF
      have KF := hide (Kx.after (unhide K2) (unhide KR) hGS)
      go_wp2
      go_ret
      exact ⟨G, rfl, Nat.le_refl _, unhide BF, unhide KF⟩

end Go.Proofs.Ytlfjclnocbohbaa
