
/- Contracts of the document's own Turn and Sum. -/
import Derived.Test.YthofnmaobmfoiaaMatF
import Derived.Test.YthofnmaobmfoiaaRealD
import Derived.Deep.DeepCutAuto
namespace Go.Proofs.Ythofnmaobmfoiaa
open Go.RowKit

/-- so many numbers have been laid, row by row -/
def tfill (p m : Nat) (d : List Nat) (t : Nat) : List Nat := (List.range (m * p)).map (fun q => if (q % p) * m + q / p < t then turnAt p m d q else 0)
theorem tfill_length (p m : Nat) (d : List Nat) (t : Nat) : (tfill p m d t).length = m * p := by simp [tfill]
theorem tfill_zero (p m : Nat) (d : List Nat) : tfill p m d 0 = List.replicate (m * p) 0 := by
  apply List.ext_getElem
  · simp [tfill]
  · intro q h1 h2
    simp [tfill]
theorem quo_lt {p m q : Nat} (h : q < m * p) : q % p < p ∧ q / p < m := by
  have hp : 0 < p := Nat.pos_of_ne_zero (by rintro rfl; simp at h)
  exact ⟨Nat.mod_lt _ hp, Nat.div_lt_of_lt_mul (by rw [Nat.mul_comm]; exact h)⟩
theorem tfill_all (p m : Nat) (d : List Nat) : tfill p m d (p * m) = turnD p m d := by
  unfold tfill turnD
  apply List.map_congr_left
  intro q hq
  rw [List.mem_range] at hq
  rw [if_pos (inrow (quo_lt hq).1 (quo_lt hq).2)]
theorem lex_inj {i k i' k' m : Nat} (hk : k < m) (hk' : k' < m) (h : i * m + k = i' * m + k') : i = i' ∧ k = k' := by
  have h1 := divs (k := i) hk
  have h2 := divs (k := i') hk'
  rw [h] at h1
  exact ⟨h1.1.symm.trans h2.1, h1.2.symm.trans h2.2⟩
theorem tfill_set {p m i k : Nat} {d : List Nat} (hi : i < p) (hk : k < m) : (tfill p m d (i * m + k)).set (k * p + i) (d.getD (i * m + k) 0) = tfill p m d (i * m + k + 1) := by
  apply getD_ext (by simp [tfill])
  intro q hq
  rw [List.length_set, tfill_length] at hq
  obtain ⟨q1, q2⟩ := quo_lt hq
  have eR : (tfill p m d (i * m + k + 1)).getD q 0 = if (q % p) * m + q / p < i * m + k + 1 then turnAt p m d q else 0 := range_getD hq
  have eL : (tfill p m d (i * m + k)).getD q 0 = if (q % p) * m + q / p < i * m + k then turnAt p m d q else 0 := range_getD hq
  rw [eR]
  by_cases e : q = k * p + i
  · subst e
    rw [List.getD_eq_getElem?_getD, List.getElem?_set_self (by rw [tfill_length]; exact hq), (divs hi).1, (divs hi).2, if_pos (by omega), turnAt_at hi]
    rfl
  · rw [List.getD_eq_getElem?_getD, List.getElem?_set_ne (fun h => e h.symm), ← List.getD_eq_getElem?_getD, eL]
    have hne : ¬ (q % p) * m + q / p = i * m + k := by
      intro h
      obtain ⟨a, b⟩ := lex_inj q2 hk h
      apply e
      have := Nat.div_add_mod q p
      rw [← a, ← b, Nat.mul_comm (q / p) p]
      omega
    by_cases h : (q % p) * m + q / p < i * m + k
    · rw [if_pos h, if_pos (by omega)]
    · rw [if_neg h, if_neg (by omega)]

theorem wrap_64 {n : Int} (h0 : 0 ≤ n) (h1 : n < 9223372036854775808) : IntKind.i64.wrap n = n := by
  simp [IntKind.wrap, IntKind.bits, IntKind.signed]
  omega
theorem laid_new {w0 w2 : World} {s : List Int} {n m1 c1 G b : Nat} {a1 : Option Addr} (O : Own w2 3 b (.slice a1 m1 c1) s) (hb : w0.heap.size ≤ b) (OG : OwnG w2 36 G n n (List.replicate n 0)) (hG : b ≤ G) (K : Kp w0 w2) :
    Laid w0 (w2.alloc (.cells #[.slice a1 m1 c1, .slice (some ⟨G, 0, none⟩) n n] 28)) s n w2.heap.size a1 m1 c1 G :=
  ⟨Bx.made w2 _ _, OG.keep (Kp.alloc _ _), (O.weak hb).keep (Kp.alloc _ _), K.trans (Kp.alloc _ _), Nat.le_trans hb hG, K.size⟩
theorem laid_set {w0 w2 : World} {s : List Int} {n m1 c1 G b T : Nat} {a1 : Option Addr} {x y : Value} (hx : Bx w2 T x y) (hT : w0.heap.size ≤ T) (O : Own w2 3 b (.slice a1 m1 c1) s) (hb : w0.heap.size ≤ b) (OG : OwnG w2 36 G n n (List.replicate n 0)) (hG : b ≤ G) (K : Kp w0 w2) :
    Laid w0 ((w2.setCell ⟨T, 0, none⟩ (.slice a1 m1 c1)).setCell ⟨T, 1, none⟩ (.slice (some ⟨G, 0, none⟩) n n)) s n T a1 m1 c1 G :=
  ⟨hx.set _ _, OG.setBx hx (by decide) _ _, (O.weak hb).setBx hx (by decide) _ _, (K.set hT (i := 0) _).set hT (i := 1) _, Nat.le_trans hb hG, hT⟩

end Go.Proofs.Ythofnmaobmfoiaa
