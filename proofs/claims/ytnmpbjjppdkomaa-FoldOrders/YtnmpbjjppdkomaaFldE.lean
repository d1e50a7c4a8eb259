
/- A list of tensors that came in; the contract of what asks whether they are few. -/
import Derived.Test.YtnmpbjjppdkomaaFldD
import Derived.Deep.SlicePairs
namespace Go.Proofs.Ytnmpbjjppdkomaa
open Go.RowKit Go.ChangeShapes

/-- a tensor that came in lies at that place -/
def InTen (w : World) (b o : Nat) (l l' : Nat) : Prop :=
  ∃ p c z p' c' z', w.cell? ⟨b, o, none⟩ = some (.slice p l c) ∧ w.cell? ⟨b, o + 1, none⟩ = some (.slice p' l' c') ∧ InRowK .i64 w p l c z ∧ InRowF w p' l' c' z'

/-- a slice of tensors that came in -/
def InTens (w : World) (a : Option Addr) (len cap : Nat) : Prop :=
  (a = none ∧ len = 0 ∧ cap = 0) ∨
  ∃ x, a = some x ∧ len ≤ cap ∧ cap ≤ maxLen ∧ (0 < len → ∃ b off, x = ⟨b, off, none⟩ ∧ b < w.heap.size ∧ ∀ i, i < len → ∃ l l', InTen w b (off + i * 2) l l')

theorem Kp.cellS {w w' : World} (k : Kp w w') {p : Addr} {v : Value} (h : w.cell? p = some v) : w'.cell? p = some v := by
  have hlt : p.block < w.heap.size := by
    unfold World.cell? at h
    split at h
    · rename_i c t f hh
      exact (Array.getElem?_eq_some_iff.1 hh).1
    · cases h
  exact (Below.cell k hlt).trans h
theorem InRowK.keep {k : IntKind} {w w' : World} {a : Option Addr} {len cap : Nat} {zs : List Int} (h : InRowK k w a len cap zs) (kp : Kp w w') : InRowK k w' a len cap zs := by
  rcases h with h | ⟨x, h1, h2, h3, h4, h5, h6⟩
  · exact .inl h
  · exact .inr ⟨x, h1, h2, h3, h4, fun i hi => kp.cellS (h5 i hi), h6⟩
theorem InRowF.keep {w w' : World} {a : Option Addr} {len cap : Nat} {zs : List Nat} (h : InRowF w a len cap zs) (kp : Kp w w') : InRowF w' a len cap zs := by
  rcases h with h | ⟨x, h1, h2, h3, h4, h5, h6⟩
  · exact .inl h
  · exact .inr ⟨x, h1, h2, h3, h4, fun i hi => kp.cellS (h5 i hi), h6⟩
theorem InTen.keep {w w' : World} {b o l l' : Nat} (h : InTen w b o l l') (k : Kp w w') : InTen w' b o l l' := by
  obtain ⟨p, c, z, p', c', z', h1, h2, h3, h4⟩ := h
  exact ⟨p, c, z, p', c', z', k.cellS h1, k.cellS h2, h3.keep k, h4.keep k⟩
theorem InTens.keep {w w' : World} {a : Option Addr} {len cap : Nat} (h : InTens w a len cap) (k : Kp w w') : InTens w' a len cap := by
  rcases h with h | ⟨x, h1, h2, h3, h4⟩
  · exact .inl h
  · refine .inr ⟨x, h1, h2, h3, fun hp => ?_⟩
    obtain ⟨b, off, e, hb, hc⟩ := h4 hp
    exact ⟨b, off, e, Nat.lt_of_lt_of_le hb k.size, fun i hi => by obtain ⟨l, l', ht⟩ := hc i hi; exact ⟨l, l', ht.keep k⟩⟩
theorem InTens.max {w : World} {a : Option Addr} {len cap : Nat} (h : InTens w a len cap) : len ≤ 9223372036854775807 := by
  rcases h with ⟨_, rfl, _⟩ | ⟨x, _, h1, h2, _⟩
  · omega
  · unfold maxLen at h2; omega
theorem InTens.roomy {w : World} {a : Option Addr} {len cap : Nat} (h : InTens w a len cap) : Roomy (.slice a len cap) := by
  intro a' n c e
  cases e
  rcases h with ⟨_, rfl, rfl⟩ | ⟨x, _, h1, h2, _⟩
  · omega
  · unfold maxLen at h2; omega
theorem InTens.at {w : World} {a : Option Addr} {len cap : Nat} (h : InTens w a len cap) {i : Nat} (hi : i < len) : ∃ b off l l', a = some ⟨b, off, none⟩ ∧ b < w.heap.size ∧ InTen w b (off + i * 2) l l' := by
  rcases h with ⟨_, rfl, _⟩ | ⟨x, rfl, _, _, hp⟩
  · omega
  · obtain ⟨b, off, rfl, hb, hc⟩ := hp (by omega)
    obtain ⟨l, l', ht⟩ := hc i hi
    exact ⟨b, off, l, l', rfl, hb, ht⟩

theorem InTen.ten {w : World} {b o l l' : Nat} (h : InTen w b o l l') (h1 : l ≤ 40) (h2 : l' ≤ 8192) : ∃ t, TenAt w b o t := by
  obtain ⟨p, c, z, p', c', z', e1, e2, k1, k2⟩ := h
  have i1 := k1.ints (by omega)
  have i2 := k2.flts (by omega)
  have l1 := k1.len
  have l2 := k2.len
  refine ⟨⟨z.take l, z'.take l'⟩, p, c, p', c', ?_, ?_, ?_, ?_⟩
  · simp only [l1]; exact e1
  · simp only [l2]; exact e2
  · simp only [l1]; exact i1
  · simp only [l2]; exact i2

theorem choose_tens {w : World} {b : Nat} {o : Nat → Nat} : ∀ (n : Nat), (∀ i, i < n → ∃ t, TenAt w b (o i) t) → ∃ ts : List Tn, ts.length = n ∧ ∀ i, i < n → TenAt w b (o i) (ts.getD i tnil)
  | 0, _ => ⟨[], rfl, fun i hi => by omega⟩
  | n + 1, h => by
    obtain ⟨ts, hl, ht⟩ := choose_tens n (fun i hi => h i (by omega))
    obtain ⟨t, hn⟩ := h n (by omega)
    refine ⟨ts ++ [t], by simp [hl], fun i hi => ?_⟩
    by_cases e : i = n
    · subst e
      have : (ts ++ [t]).getD i tnil = t := by rw [← hl]; simp
      rw [this]
      exact hn
    · rw [List.getD_eq_getElem?_getD, List.getElem?_append_left (by omega), ← List.getD_eq_getElem?_getD]
      exact ht i (by omega)

/-- where each is small, they read as tensors -/
theorem InTens.tens {w : World} {a : Option Addr} {len cap : Nat} (h : InTens w a len cap) (hl : len ≤ 40) (hs : ∀ b off i l l', a = some ⟨b, off, none⟩ → i < len → InTen w b (off + i * 2) l l' → l ≤ 40 ∧ l' ≤ 8192) : ∃ ts : List Tn, ts.length = len ∧ Tens w (.slice a len cap) ts := by
  rcases h with ⟨rfl, rfl, rfl⟩ | ⟨x, rfl, h1, h2, hx⟩
  · exact ⟨[], rfl, by simp, none, 0, rfl, by simp⟩
  · by_cases hp : 0 < len
    · obtain ⟨b, off, rfl, hb, hc⟩ := hx hp
      obtain ⟨ts, hl', ht⟩ := choose_tens (w := w) (b := b) (o := fun i => off + i * 2) len (fun i hi => by
        obtain ⟨l, l', hi'⟩ := hc i hi
        obtain ⟨q1, q2⟩ := hs b off i l l' rfl hi hi'
        exact hi'.ten q1 q2)
      exact ⟨ts, hl', by omega, some ⟨b, off, none⟩, cap, by rw [hl'], fun _ => ⟨b, off, rfl, hb, fun i hi => ht i (by omega)⟩⟩
    · obtain rfl : len = 0 := by omega
      exact ⟨[], rfl, by simp, some x, cap, rfl, by simp⟩

set_option maxHeartbeats 1000000 in
theorem few_any (a : Option Addr) (len cap : Nat) (w : World) (h : InTens w a len cap) :
    Calls Try.prog 9 #[.slice a len cap] w fun e w' => ∃ r, e = .returned (.bool r) ∧ (r = true → len ≤ 40 ∧ ∃ ts : List Tn, ts.length = len ∧ Tens w (.slice a len cap) ts) ∧ Kp w w' := by
  have hmax := h.max
  have H := hide h
  clear h
  go_enter Try.func9, Try.ntmps9
  go_wp2
  go_loopw [4, 3] (fun i s wr => ∃ (q : Nat) (N : Int), q ≤ len ∧ i = .int .i64 q ∧ s = .int .i64 N ∧ Hid (∀ b off j l l', a = some ⟨b, off, none⟩ → j < q → InTen w b (off + j * 2) l l' → l ≤ 40 ∧ l' ≤ 8192) ∧ Hid (Kp w wr)) (fun i _ _ => len - (intOf i).toNat)
  case atStart => exact ⟨0, 0, Nat.zero_le _, rfl, rfl, by unfold Hid; intro b off j l l' _ h; omega, Kp.refl _⟩
  case round =>
    obtain ⟨q, N, hq, rfl, rfl, HS, KR⟩ := hrel
    generalize wr = w5 at *
    by_cases hlt : q < len
    · have hltI : (q : Int) < (len : Int) := by omega
      obtain ⟨b, off, l, l', rfl, hb, ht⟩ := (unhide H).at hlt
      obtain ⟨p, c, z, p', c', z', e1, e2, k1, k2⟩ := ht
      have m1 := k1.max
      have m2 := k2.max
      have f1 := (Below.cell (unhide KR) (p := ⟨b, off + q * 2, none⟩) hb).trans e1
      have f2 := (Below.cell (unhide KR) (p := ⟨b, off + q * 2 + 1, none⟩) hb).trans e2
      have HS2 : Hid (l ≤ 40 → l' ≤ 8192 → ∀ b' off' j u u', some (Addr.mk b off none) = some ⟨b', off', none⟩ → j < q + 1 → InTen w b' (off' + j * 2) u u' → u ≤ 40 ∧ u' ≤ 8192) := by
        intro g1 g2 b' off' j u u' e hj hin
        by_cases ej : j = q
        · subst ej
          cases e
          obtain ⟨p1, c1, z1, p1', c1', z1', x1, x2, _, _⟩ := hin
          rw [e1] at x1
          rw [e2] at x2
          cases x1
          cases x2
          exact ⟨g1, g2⟩
        · exact unhide HS b' off' j u u' e (by omega) hin
      clear e1 e2 k1 k2
      go_wp2_with fail
      refine (small_any p p' l c l' c' w5 m1 m2).mono ?_
      rintro e w6 ⟨rfl, k6⟩
      have K6 := hide ((unhide KR).trans k6)
      clear k6 f1 f2
      by_cases hs : (decide (l ≤ 40) && decide (l' ≤ 8192)) = true
      · have HS3 : Hid (∀ b' off' j u u', some (Addr.mk b off none) = some ⟨b', off', none⟩ → j < q + 1 → InTen w b' (off' + j * 2) u u' → u ≤ 40 ∧ u' ≤ 8192) := by
          simp only [Bool.and_eq_true, decide_eq_true_eq] at hs
          exact unhide HS2 hs.1 hs.2
        rw [hs]
        clear hs HS2
        go_wp2
        go_roundw
        case rel => exact ⟨q + 1, _, by omega, by go_num, rfl, unhide HS3, unhide K6⟩
        case measure => simp [intOf]; omega
      · have hs' := eq_false_of_ne_true hs
        rw [hs']
        clear hs hs' HS2
        go_wp2
        go_ret
        exact ⟨false, rfl, (by intro h; cases h), unhide K6⟩
    · obtain rfl : q = len := by omega
      by_cases hl : q ≤ 40
      · have hlI : decide ((q : Int) ≤ 40) = true := decide_eq_true (by omega)
        have hlI' : (q : Int) ≤ 40 := by omega
        obtain ⟨ts, hts, HT⟩ := (unhide H).tens hl (fun b off i l l' e hi hin => unhide HS b off i l l' e hi hin)
        have HTT : Hid (∃ ts : List Tn, ts.length = q ∧ Tens w (.slice a q cap) ts) := ⟨ts, hts, HT⟩
        clear hts HT
        go_wp2
        go_ret
        exact ⟨_, rfl, fun _ => ⟨hl, unhide HTT⟩, unhide KR⟩
      · have hlI : decide ((q : Int) ≤ 40) = false := decide_eq_false (by omega)
        go_wp2
        go_ret
        exact ⟨_, rfl, (by intro h; first | cases h | simp at h), unhide KR⟩

end Go.Proofs.Ytnmpbjjppdkomaa
