
/- Rows of numbers in rising order: what slices.BinarySearch finds in them. -/
import Derived.Test.YtenbmfhhmbfgoaaBase
import Derived.Test.YtenbmfhhmbfgoaaChecked
import Derived.Laws.AppendOwn
import Derived.Laws.OwnMore
import Derived.Laws.IdiomCopy
import Derived.Deep.RegionLaw
import Derived.Deep.DeepCutAuto
import Derived.Deep.AppendSrc
namespace Go.Proofs.Ytenbmfhhmbfgoaa
open Go.RowKit

/-- how many at the beginning are less -/
def posL : List Int → Int → Nat
  | [], _ => 0
  | x :: r, t => if x < t then posL r t + 1 else 0
def hasL (xs : List Int) (t : Int) : Bool := decide (posL xs t < xs.length) && xs.getD (posL xs t) 0 == t
def insL (t : Int) (xs : List Int) : List Int := xs.take (posL xs t) ++ t :: xs.drop (posL xs t)
def delL (t : Int) (xs : List Int) : List Int := xs.take (posL xs t) ++ xs.drop (posL xs t + 1)
def Rise (xs : List Int) : Prop := xs.Pairwise (· < ·)

theorem posL_le : ∀ (xs : List Int) (t : Int), posL xs t ≤ xs.length
  | [], _ => Nat.le_refl _
  | x :: r, t => by
    have := posL_le r t
    unfold posL
    split
    · simp; omega
    · exact Nat.zero_le _
theorem posL_lt {t : Int} : ∀ {xs : List Int} {j : Nat}, j < posL xs t → xs.getD j 0 < t
  | [], j, h => absurd h (Nat.not_lt_zero _)
  | x :: r, j, h => by
    unfold posL at h
    split at h
    · cases j with
      | zero => simpa
      | succ j => simpa using posL_lt (xs := r) (j := j) (by omega)
    · omega
theorem posL_at {t : Int} : ∀ {xs : List Int}, posL xs t < xs.length → t ≤ xs.getD (posL xs t) 0
  | [], h => absurd h (Nat.not_lt_zero _)
  | x :: r, h => by
    unfold posL at h ⊢
    split
    · rename_i hx
      rw [if_pos hx] at h
      have := posL_at (t := t) (xs := r) (by simpa using h)
      simpa using this
    · simp; omega
theorem Rise.get {xs : List Int} (h : Rise xs) {i j : Nat} (hij : i < j) (hj : j < xs.length) : xs.getD i 0 < xs.getD j 0 := by
  have e1 : xs.getD i 0 = xs[i] := by simp [show i < xs.length by omega]
  have e2 : xs.getD j 0 = xs[j] := by simp [hj]
  rw [e1, e2]
  exact List.pairwise_iff_getElem.1 h i j (by omega) hj hij
theorem posL_of {xs : List Int} {t : Int} {i : Nat} (hi : i ≤ xs.length) (h1 : ∀ j, j < i → xs.getD j 0 < t) (h2 : i < xs.length → t ≤ xs.getD i 0) : posL xs t = i := by
  rcases Nat.lt_trichotomy (posL xs t) i with h | h | h
  · have := posL_at (xs := xs) (t := t) (by omega)
    have := h1 _ h
    omega
  · exact h
  · have := posL_lt h
    have := posL_le xs t
    have := h2 (by omega)
    omega

theorem less_int (a b : Int) (w : World) : Calls Try.prog 44 #[.int .i64 a, .int .i64 b] w fun e w' => e = .returned (.bool (decide (a < b))) ∧ w' = w := by
  have hn : ∀ (x : Int) (w : World), Calls Try.prog 48 #[.int .i64 x] w fun e w' => e = .returned (.bool false) ∧ w' = w := by
    intro x w
    go_enter Try.func48, Try.ntmps48
    go_wp2
    go_ret
    simp
  by_cases h : a < b
  · go_enter Try.func44, Try.ntmps44
    go_wp2_with fail
    refine (hn _ _).mono ?_
    rintro e w1 ⟨rfl, rfl⟩
    go_wp2_with fail
    go_ret
    simp [h]
  · have hd : decide (a < b) = false := decide_eq_false h
    rw [hd]
    go_enter Try.func44, Try.ntmps44
    go_wp2_with fail
    refine (hn _ _).mono ?_
    rintro e w1 ⟨rfl, rfl⟩
    go_wp2_with fail
    go_ret
    exact ⟨rfl, rfl⟩

theorem nan_int (x : Int) (w : World) : Calls Try.prog 45 #[.int .i64 x] w fun e w' => e = .returned (.bool false) ∧ w' = w := by
  go_enter Try.func45, Try.ntmps45
  go_wp2
  go_ret
  simp

set_option maxRecDepth 20000 in
set_option maxHeartbeats 4000000 in
theorem search_any (ao : Option Addr) (n cap : Nat) (xs : List Int) (t : Int) (w : World) (h : Ints w (.slice ao n cap) xs) (hn : xs.length = n) (hr : n ≤ 1000000000) (hs : Rise xs) :
    Calls Try.prog 40 #[.slice ao n cap, .int .i64 t] w fun e w' => e = .returned (.tuple #[.int .i64 (posL xs t : Int), .bool (hasL xs t)]) ∧ w' = w := by
  obtain ⟨a, cap', e, HC⟩ := h.opn hn
  cases e
  have HL := hide (fun (a b : Int) => less_int a b w)
  have HF := hide (fun i => posL_of (xs := xs) (t := t) (i := i))
  have HS := hide hs
  have HN := hide hn
  have HB := hide (fun k hk => h.getD (k := k) hk)
  have HH : Hid (∀ i, posL xs t = i → hasL xs t = (decide (i < n) && xs.getD i 0 == t)) := by
    rintro i rfl
    unfold hasL
    rw [hn]
  clear h hs hn
  go_enter Try.func40, Try.ntmps40
  go_wp2
  go_loopw [7, 8] (fun x y wr => ∃ i j : Nat, i ≤ j ∧ j ≤ n ∧ x = .int .i64 i ∧ y = .int .i64 j ∧ wr = w ∧ Hid (∀ k, k < i → xs.getD k 0 < t) ∧ Hid (j < n → t ≤ xs.getD j 0)) (fun x y _ => (intOf y).toNat - (intOf x).toNat)
  case atStart => exact ⟨0, n, by omega, by omega, rfl, rfl, rfl, fun k hk => absurd hk (by omega), fun hk => absurd hk (by omega)⟩
  case round =>
    obtain ⟨i, j, hij, hjn, rfl, rfl, rfl, HA, HJ⟩ := hrel
    by_cases hlt : i < j
    · obtain ⟨b, off, rfl, hbl, hcell⟩ := unhide HC (by omega)
      have hq1 : i ≤ (i + j) / 2 := by omega
      have hq2 : (i + j) / 2 < j := by omega
      have c0 := hcell ((i + j) / 2) (by omega)
      have hqn : ((i : Int) + (j : Int)) / 2 < (n : Int) := by omega
      have CL := hide (unhide HL (xs.getD ((i + j) / 2) 0) t)
      have HA1 : Hid (xs.getD ((i + j) / 2) 0 < t → ∀ k, k < (i + j) / 2 + 1 → xs.getD k 0 < t) := by
        intro hx k hk
        by_cases e : k = (i + j) / 2
        · rw [e]; exact hx
        · have := (unhide HS).get (i := k) (j := (i + j) / 2) (by omega) (by rw [unhide HN]; omega)
          omega
      have HJ1 : Hid (¬ xs.getD ((i + j) / 2) 0 < t → ((i + j) / 2 < n → t ≤ xs.getD ((i + j) / 2) 0)) := by intro hx _; omega
      clear hcell HL
      obtain ⟨y, hyq⟩ : ∃ y, xs.getD ((i + j) / 2) 0 = y := ⟨_, rfl⟩
      rw [hyq] at c0 CL HA1 HJ1
      have HY := hide hyq
      clear hyq
      by_cases hy : y < t
      · have HA2 := hide (unhide HA1 hy)
        have hyd : decide (y < t) = true := decide_eq_true hy
        clear HA1 HJ1 hy
        go_wp2_with fail
        refine (unhide CL).mono ?_
        rw [hyd]
        clear hyd CL
        rintro e w1 ⟨rfl, rfl⟩
        go_wp2_with fail
        go_roundw
        case rel => exact ⟨(i + j) / 2 + 1, j, by omega, by omega, by go_num, rfl, trivial, HA2, HJ⟩
        case measure => simp [intOf]; omega
      · have HJ2 := hide (unhide HJ1 hy)
        have hyd : decide (y < t) = false := decide_eq_false hy
        clear HA1 HJ1 hy
        go_wp2_with fail
        refine (unhide CL).mono ?_
        rw [hyd]
        clear hyd CL
        rintro e w1 ⟨rfl, rfl⟩
        go_wp2_with fail
        go_roundw
        case rel => exact ⟨i, (i + j) / 2, by omega, by omega, rfl, by go_num, trivial, HA, by rw [unhide HY]; exact HJ2⟩
        case measure => simp [intOf]; omega
    · have hij2 : i = j := by omega
      subst hij2
      have HP := hide (unhide HF i (by rw [unhide HN]; omega) (unhide HA) (by rw [unhide HN]; exact unhide HJ))
      have HE := hide (unhide HH i (unhide HP))
      have HR : Hid ((e : Bool) → hasL xs t = e → Ending.returned (.tuple #[.int .i64 (i : Int), .bool e]) = .returned (.tuple #[.int .i64 (posL xs t : Int), .bool (hasL xs t)])) := by
        intro e he
        rw [unhide HP, he]
      have CN := hide (fun x => nan_int x wr)
      by_cases hi : i < n
      · obtain ⟨b, off, rfl, hbl, hcell⟩ := unhide HC (by omega)
        have c0 := hcell i hi
        have hiI : (i : Int) < (n : Int) := by omega
        have hid : decide (i < n) = true := decide_eq_true hi
        have HE2 : Hid (hasL xs t = (xs.getD i 0 == t)) := by have := unhide HE; rw [hid, Bool.true_and] at this; exact this
        clear hcell HC HE hid HF HB HA HJ HH
        generalize xs.getD i 0 = y at *
        by_cases hy : y = t
        · subst hy
          have HX := hide (unhide HR true (by rw [unhide HE2]; simp))
          clear HR
          go_wp2_with fail
          go_ret2
          exact ⟨unhide HX, rfl⟩
        · have HX := hide (unhide HR (y == t) (unhide HE2))
          clear HR
          go_wp2_with fail
          refine (unhide CN _).mono ?_
          rintro e w1 ⟨rfl, rfl⟩
          go_wp2_with fail
          go_ret2
          exact ⟨unhide HX, rfl⟩
      · have hiI : ¬ (i : Int) < (n : Int) := by omega
        have HX := hide (unhide HR false (by rw [unhide HE]; simp [hi]))
        clear HR HE
        go_wp2_with fail
        go_ret2
        exact ⟨unhide HX, rfl⟩

set_option maxHeartbeats 1000000 in
theorem has_any (ao : Option Addr) (n cap : Nat) (xs : List Int) (t : Int) (w : World) (h : Ints w (.slice ao n cap) xs) (hn : xs.length = n) (hr : n ≤ 1000000000) (hs : Rise xs) :
    Calls Try.prog 38 #[.slice ao n cap, .int .i64 t] w fun e w' => e = .returned (.bool (hasL xs t)) ∧ w' = w := by
  have C := hide (search_any ao n cap xs t w h hn hr hs)
  clear h hs
  generalize hasL xs t = b at *
  generalize posL xs t = p at *
  go_enter Try.func38, Try.ntmps38
  go_wp2_with fail
  refine (unhide C).mono ?_
  rintro e w1 ⟨rfl, rfl⟩
  go_wp2_with fail
  go_ret
  exact ⟨rfl, rfl⟩

end Go.Proofs.Ytenbmfhhmbfgoaa
