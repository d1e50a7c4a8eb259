
/- How often Calls come to each graph, how many nodes that is: plain mathematics. -/
import Derived.Test.YtliddjpcbhdplaaGrP
namespace Go.Proofs.Ytliddjpcbhdplaa

def sumN : Nat → (Nat → Nat) → Nat
  | 0, _ => 0
  | n + 1, f => sumN n f + f n
theorem sumN_ext {f g : Nat → Nat} : ∀ {n : Nat}, (∀ k, k < n → f k = g k) → sumN n f = sumN n g
  | 0, _ => rfl
  | n + 1, h => by
    rw [sumN, sumN, sumN_ext (fun k hk => h k (by omega)), h n (by omega)]
theorem sumN_zero : ∀ (n : Nat) {f : Nat → Nat}, (∀ k, k < n → f k = 0) → sumN n f = 0
  | 0, _, _ => rfl
  | n + 1, f, h => by rw [sumN, sumN_zero n (fun k hk => h k (by omega)), h n (by omega)]
theorem sumN_one {f g : Nat → Nat} {x : Nat} : ∀ {n : Nat}, x < n → (∀ k, k < n → k ≠ x → f k = g k) → sumN n f + g x = sumN n g + f x
  | 0, h, _ => by omega
  | n + 1, h, hk => by
    rw [sumN, sumN]
    by_cases e : x = n
    · subst e
      rw [sumN_ext (f := f) (g := g) (fun k h1 => hk k (by omega) (by omega))]
      omega
    · have h1 := sumN_one (f := f) (g := g) (x := x) (n := n) (by omega) (fun k h1 h2 => hk k (by omega) h2)
      have h2 := hk n (by omega) (fun e' => e e'.symm)
      omega
theorem sumN_add (f g : Nat → Nat) : ∀ n, sumN n (fun k => f k + g k) = sumN n f + sumN n g
  | 0 => rfl
  | n + 1 => by
    simp only [sumN]
    rw [sumN_add f g n]
    omega
theorem sumN_mul (c : Nat) (f : Nat → Nat) : ∀ n, sumN n (fun k => f k * c) = sumN n f * c
  | 0 => by simp [sumN]
  | n + 1 => by
    simp only [sumN]
    rw [sumN_mul c f n, Nat.add_mul]
theorem sumN_mul' (c : Nat) (f : Nat → Nat) : ∀ n, sumN n (fun k => c * f k) = c * sumN n f
  | 0 => by simp [sumN]
  | n + 1 => by
    simp only [sumN]
    rw [sumN_mul' c f n, Nat.mul_add]
theorem sumN_swap (f : Nat → Nat → Nat) (m : Nat) : ∀ n, sumN n (fun k => sumN m (fun i => f i k)) = sumN m (fun i => sumN n (fun k => f i k))
  | 0 => by simp only [sumN]; exact (sumN_zero m (fun _ _ => rfl)).symm
  | n + 1 => by
    simp only [sumN]
    rw [sumN_swap f m n, ← sumN_add]
theorem sumN_pos {f : Nat → Nat} {n : Nat} (h : 0 < sumN n f) : ∃ k, k < n ∧ 0 < f k := by
  induction n with
  | zero => simp [sumN] at h
  | succ n ih =>
    rw [sumN] at h
    by_cases e : 0 < sumN n f
    · obtain ⟨k, hk, hf⟩ := ih e
      exact ⟨k, by omega, hf⟩
    · exact ⟨n, by omega, by omega⟩
theorem sumN_le {f : Nat → Nat} {k : Nat} : ∀ {n : Nat}, k < n → f k ≤ sumN n f
  | 0, h => by omega
  | n + 1, h => by
    rw [sumN]
    by_cases e : k = n
    · subst e; omega
    · have := sumN_le (f := f) (show k < n by omega)
      omega

/-- counted no farther than 4097 -/
def sat (x : Nat) : Nat := min x 4097
theorem sat_le (x : Nat) : sat x ≤ 4097 := by unfold sat; omega
theorem sat_pos {x : Nat} : 0 < sat x ↔ 0 < x := by unfold sat; omega
theorem sat_small {x : Nat} (h : sat x ≤ 4096) : sat x = x := by unfold sat at *; omega
theorem sat_big {x : Nat} (h : 4096 < sat x) : 4096 < x := by unfold sat at *; omega
theorem sat_small' {x : Nat} (h : x ≤ 4096) : sat x = x := by unfold sat; omega
theorem sat_big' {x : Nat} (h : 4096 < x) : sat x = 4097 := by unfold sat; omega
theorem sat_add (a b : Nat) : sat (sat a + b) = sat (a + b) := by unfold sat; omega
theorem sat_add' (a b : Nat) : sat (a + sat b) = sat (a + b) := by unfold sat; omega
theorem sat_mul (a b : Nat) : sat (sat a * sat b) = sat (a * b) := by
  unfold sat
  rcases Nat.eq_zero_or_pos a with rfl | hpa
  · simp
  rcases Nat.eq_zero_or_pos b with rfl | hpb
  · simp
  have g1 : 1 ≤ min a 4097 := by omega
  have g2 : 1 ≤ min b 4097 := by omega
  by_cases ha : a ≤ 4097
  · have ea : min a 4097 = a := Nat.min_eq_left ha
    by_cases hb : b ≤ 4097
    · rw [ea, Nat.min_eq_left hb]
    · have eb : min b 4097 = 4097 := Nat.min_eq_right (by omega)
      rw [ea, eb]
      have h1 : 4097 ≤ a * 4097 := Nat.le_mul_of_pos_left _ hpa
      have h2 : b ≤ a * b := Nat.le_mul_of_pos_left _ hpa
      rw [Nat.min_eq_right h1, Nat.min_eq_right (by omega)]
  · have ea : min a 4097 = 4097 := Nat.min_eq_right (by omega)
    rw [ea]
    have h1 : 4097 ≤ 4097 * min b 4097 := Nat.le_mul_of_pos_right _ g2
    have h2 : a ≤ a * b := Nat.le_mul_of_pos_right _ hpb
    rw [Nat.min_eq_right h1, Nat.min_eq_right (by omega)]
theorem sat_mul1 (a b : Nat) : sat (sat a * b) = sat (a * b) := by
  rw [← sat_mul (sat a) b, show sat (sat a) = sat a by unfold sat; omega, sat_mul]
theorem sat_sum (f g : Nat → Nat) (h : ∀ k, sat (f k) = sat (g k)) : ∀ n, sat (sumN n f) = sat (sumN n g)
  | 0 => rfl
  | n + 1 => by
    rw [sumN, sumN, ← sat_add, ← sat_add', sat_sum f g h n, h n, sat_add', sat_add]

/-- how often graph i Calls graph k -/
def cnt (gs : List (List Nd)) (i k : Nat) : Nat := (callsL (gs.getD i [])).count (k : Int)
def lenG (gs : List (List Nd)) (k : Nat) : Nat := (gs.getD k []).length
/-- how many ways of d Calls lead from g to k -/
def lv (gs : List (List Nd)) (g : Int) : Nat → Nat → Nat
  | 0, k => if (k : Int) = g then 1 else 0
  | d + 1, k => sumN gs.length (fun i => lv gs g d i * cnt gs i k)
/-- how many nodes that is, fewer than d Calls deep -/
def wk (gs : List (List Nd)) (g : Int) : Nat → Nat
  | 0 => 0
  | d + 1 => wk gs g d + sumN gs.length (fun k => lv gs g d k * lenG gs k)
/-- is there a way of nine Calls? -/
def DeepP (gs : List (List Nd)) (g : Int) : Prop := ∃ k, k < gs.length ∧ 0 < lv gs g 9 k

/-- of those that are no longer left -/
def dn (left : Nat → Bool) (f : Nat → Nat) (k : Nat) : Nat := if left k then 0 else f k
theorem dn_step {n : Nat} {left left' : Nat → Bool} {x : Nat} (f : Nat → Nat) (hx : x < n) (h1 : left x = true) (h2 : left' x = false) (h3 : ∀ k, k ≠ x → left' k = left k) : sumN n (dn left' f) = sumN n (dn left f) + f x := by
  have := sumN_one (f := dn left' f) (g := dn left f) hx (fun k _ hne => by unfold dn; rw [h3 k hne])
  have e1 : dn left f x = 0 := by unfold dn; rw [h1]; rfl
  have e2 : dn left' f x = f x := by unfold dn; rw [h2]; rfl
  omega
theorem dn_all {n : Nat} {left : Nat → Bool} (f : Nat → Nat) (h : ∀ k, left k = false) : sumN n (dn left f) = sumN n f := sumN_ext (fun k _ => by unfold dn; rw [h k]; rfl)
theorem dn_none {n : Nat} {left : Nat → Bool} (f : Nat → Nat) (h : ∀ k, k < n → left k = false → f k = 0) : sumN n (dn left f) = 0 := sumN_zero n (fun k hk => by
  unfold dn
  cases e : left k
  · exact h k hk e
  · rfl)

end Go.Proofs.Ytliddjpcbhdplaa
