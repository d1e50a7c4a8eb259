
/- Matrices of small whole numbers, turned: what the law MatrixWhole asks of them; no program in it. -/
import Derived.Test.YthofnmaobmfoiaaFMat
namespace Go.Proofs.Ythofnmaobmfoiaa

def turnF (r c : Nat) (A : Nat → Int) (q : Nat) : Int := A ((q % r) * c + q / r)
theorem turnF_at {r c i k : Nat} {A : Nat → Int} (hi : i < r) : turnF r c A (k * r + i) = A (i * c + k) := by
  unfold turnF
  rw [(divs hi).1, (divs hi).2]
theorem place {q r c : Nat} (h : q < c * r) : q / r < c ∧ q % r < r ∧ (q / r) * r + q % r = q := by
  have h0 : 0 < r := Nat.pos_of_ne_zero (by rintro rfl; simp at h)
  refine ⟨Nat.div_lt_of_lt_mul (by rw [Nat.mul_comm]; exact h), Nat.mod_lt _ h0, ?_⟩
  have := Nat.div_add_mod q r
  rw [Nat.mul_comm] at this
  exact this
theorem WhM.turn {r c b : Nat} {d : List Nat} {A : Nat → Int} (h : WhM (r * c) d A b) : WhM (c * r) (turnD r c d) (turnF r c A) b := by
  refine ⟨turnD_length r c d, ?_, ?_⟩
  · intro q hq
    obtain ⟨h1, h2, h3⟩ := place hq
    rw [← h3, turnD_getD h2 h1, turnF_at h2]
    exact h.at_ _ (inrow h2 h1)
  · intro q hq
    obtain ⟨h1, h2, h3⟩ := place hq
    rw [← h3, turnF_at h2]
    exact h.bd _ (inrow h2 h1)
theorem turn_mul {p m n i k : Nat} {A B : Nat → Int} (hi : i < p) (hk : k < n) : turnF n p (mulF m p (turnF m n B) (turnF p m A)) (i * n + k) = mulF m n A B (i * n + k) := by
  rw [turnF_at hk, mulF_at hi, mulF_at hk]
  apply sumR_congr
  intro j hj
  rw [turnF_at hj, turnF_at hi, Int.mul_comm]
theorem WhM.eq {N a b : Nat} {d e : List Nat} {A B : Nat → Int} (hd : WhM N d A a) (he : WhM N e B b) (h : ∀ q, q < N → A q = B q) : d.length = e.length ∧ ∀ q, q < d.length → (DD.order (d.getD q 0) (e.getD q 0) == some .eq) = true := by
  refine ⟨by rw [hd.len, he.len], ?_⟩
  intro q hq
  rw [hd.len] at hq
  have := he.at_ q hq
  rw [← h q hq] at this
  exact order_wh (hd.at_ q hq) this

theorem whole_eqs {p m n r : Nat} {D1 D2 D3 ab bc x y u : List Nat} {A B C : Nat → Int} (hm : 1 ≤ m ∧ m ≤ 4) (hn : 1 ≤ n ∧ n ≤ 4)
    (hA : WhM (p * m) D1 A 128) (hB : WhM (m * n) D2 B 128) (hC : WhM (n * r) D3 C 128)
    (h1 : ab.map cn = mulL p m n D1 D2) (h2 : bc.map cn = mulL m n r D2 D3) (h3 : x.map cn = mulL p n r ab D3) (h4 : y.map cn = mulL p m r D1 bc) (h5 : u.map cn = mulL n m p (turnD m n D2) (turnD p m D1)) :
    (x.length = y.length ∧ ∀ q, q < x.length → (DD.order (x.getD q 0) (y.getD q 0) == some .eq) = true) ∧
    (ab.length = (turnD n p u).length ∧ ∀ q, q < ab.length → (DD.order (ab.getD q 0) ((turnD n p u).getD q 0) == some .eq) = true) := by
  have gab := hA.mul hB (by omega) h1 hm.1
  have gbc := hB.mul hC (by omega) h2 hn.1
  have b1 : 128 * 128 * m ≤ 65536 := by omega
  have b2 : 128 * 128 * n ≤ 65536 := by omega
  have gx := gab.mul hC (by have : 128 * 128 * m * 128 * n ≤ 8388608 * 4 := Nat.mul_le_mul (by omega) hn.2; omega) h3 hn.1
  have gy := hA.mul gbc (by have : 128 * (128 * 128 * n) * m ≤ 8388608 * 4 := Nat.mul_le_mul (by omega) hm.2; omega) h4 hm.1
  have gu := hB.turn.mul hA.turn (by omega) h5 hm.1
  refine ⟨gx.eq gy ?_, gab.eq gu.turn ?_⟩
  · intro q hq
    obtain ⟨e1, e2, e3⟩ := place hq
    rw [← e3]
    exact mulF_assoc e2
  · intro q hq
    obtain ⟨e1, e2, e3⟩ := place hq
    rw [← e3]
    exact (turn_mul e1 e2).symm

end Go.Proofs.Ythofnmaobmfoiaa
