
/- A list of tensors that came in; the contract of what asks whether they are few. -/
import Derived.Test.YtlfjclnocbohbaaFldD
import Derived.Deep.SlicePairs
namespace Go.Proofs.Ytlfjclnocbohbaa
open Go.RowKit Go.ChangeShapes

/-- a tensor that came in lies at that place -/
def InTen (w : World) (b o : Nat) (l l' : Nat) : Prop :=
  ∃ p c z p' c' z', w.cell? ⟨b, o, none⟩ = some (.slice p l c) ∧ w.cell? ⟨b, o + 1, none⟩ = some (.slice p' l' c') ∧ InRowK .i64 w p l c z ∧ InRowF w p' l' c' z'

/-- a slice of tensors that came in -/
def InTens (w : World) (a : Option Addr) (len cap : Nat) : Prop :=
  (a = none ∧ len = 0 ∧ cap = 0) ∨
  ∃ x, a = some x ∧ len ≤ cap ∧ cap ≤ maxLen ∧ (0 < len → ∃ b off, x = ⟨b, off, none⟩ ∧ b < w.heap.size ∧ ∀ i, i < len → ∃ l l', InTen w b (off + i * 2) l l')

theorem Kp.cellS {w w' : World} (k : Kp w w') {p : Addr} {v : Value} (h : w.cell? p = some v) : w'.cell? p = some v := by
  have hlt : p.block < w.heap.size := by
    unfold World.cell? at h
    split at h
    · rename_i c t f hh
      exact (Array.getElem?_eq_some_iff.1 hh).1
    · cases h
  exact (Below.cell k hlt).trans h
theorem InRowK.keep {k : IntKind} {w w' : World} {a : Option Addr} {len cap : Nat} {zs : List Int} (h : InRowK k w a len cap zs) (kp : Kp w w') : InRowK k w' a len cap zs := by
  rcases h with h | ⟨x, h1, h2, h3, h4, h5, h6⟩
  · exact .inl h
  · exact .inr ⟨x, h1, h2, h3, h4, fun i hi => kp.cellS (h5 i hi), h6⟩
theorem InRowF.keep {w w' : World} {a : Option Addr} {len cap : Nat} {zs : List Nat} (h : InRowF w a len cap zs) (kp : Kp w w') : InRowF w' a len cap zs := by
  rcases h with h | ⟨x, h1, h2, h3, h4, h5, h6⟩
  · exact .inl h
  · exact .inr ⟨x, h1, h2, h3, h4, fun i hi => kp.cellS (h5 i hi), h6⟩
theorem InTen.keep {w w' : World} {b o l l' : Nat} (h : InTen w b o l l') (k : Kp w w') : InTen w' b o l l' := by
  obtain ⟨p, c, z, p', c', z', h1, h2, h3, h4⟩ := h
  exact ⟨p, c, z, p', c', z', k.cellS h1, k.cellS h2, h3.keep k, h4.keep k⟩
theorem InTens.keep {w w' : World} {a : Option Addr} {len cap : Nat} (h : InTens w a len cap) (k : Kp w w') : InTens w' a len cap := by
  rcases h with h | ⟨x, h1, h2, h3, h4⟩
  · exact .inl h
  · refine .inr ⟨x, h1, h2, h3, fun hp => ?_⟩
    obtain ⟨b, off, e, hb, hc⟩ := h4 hp
    exact ⟨b, off, e, Nat.lt_of_lt_of_le hb k.size, fun i hi => by obtain ⟨l, l', ht⟩ := hc i hi; exact ⟨l, l', ht.keep k⟩⟩
theorem InTens.max {w : World} {a : Option Addr} {len cap : Nat} (h : InTens w a len cap) : len ≤ 9223372036854775807 := by
  rcases h with ⟨_, rfl, _⟩ | ⟨x, _, h1, h2, _⟩
  · omega
  · unfold maxLen at h2; omega
theorem InTens.roomy {w : World} {a : Option Addr} {len cap : Nat} (h : InTens w a len cap) : Roomy (.slice a len cap) := by
  intro a' n c e
  cases e
  rcases h with ⟨_, rfl, rfl⟩ | ⟨x, _, h1, h2, _⟩
  · omega
  · unfold maxLen at h2; omega
theorem InTens.at {w : World} {a : Option Addr} {len cap : Nat} (h : InTens w a len cap) {i : Nat} (hi : i < len) : ∃ b off l l', a = some ⟨b, off, none⟩ ∧ b < w.heap.size ∧ InTen w b (off + i * 2) l l' := by
  rcases h with ⟨_, rfl, _⟩ | ⟨x, rfl, _, _, hp⟩
  · omega
  · obtain ⟨b, off, rfl, hb, hc⟩ := hp (by omega)
    obtain ⟨l, l', ht⟩ := hc i hi
    exact ⟨b, off, l, l', rfl, hb, ht⟩

theorem InTen.ten {w : World} {b o l l' : Nat} (h : InTen w b o l l') (h1 : l ≤ 40) (h2 : l' ≤ 8192) : ∃ t, TenAt w b o t := by
  obtain ⟨p, c, z, p', c', z', e1, e2, k1, k2⟩ := h
  have i1 := k1.ints (by omega)
  have i2 := k2.flts (by omega)
  have l1 := k1.len
  have l2 := k2.len
  refine ⟨⟨z.take l, z'.take l'⟩, p, c, p', c', ?_, ?_, ?_, ?_⟩
  · simp only [l1]; exact e1
  · simp only [l2]; exact e2
  · simp only [l1]; exact i1
  · simp only [l2]; exact i2

theorem choose_tens {w : World} {b : Nat} {o : Nat → Nat} : ∀ (n : Nat), (∀ i, i < n → ∃ t, TenAt w b (o i) t) → ∃ ts : List Tn, ts.length = n ∧ ∀ i, i < n → TenAt w b (o i) (ts.getD i tnil)
  | 0, _ => ⟨[], rfl, fun i hi => by omega⟩
  | n + 1, h => by
    obtain ⟨ts, hl, ht⟩ := choose_tens n (fun i hi => h i (by omega))
    obtain ⟨t, hn⟩ := h n (by omega)
    refine ⟨ts ++ [t], by simp [hl], fun i hi => ?_⟩
    by_cases e : i = n
    · subst e
      have : (ts ++ [t]).getD i tnil = t := by rw [← hl]; simp
      rw [this]
      exact hn
    · rw [List.getD_eq_getElem?_getD, List.getElem?_append_left (by omega), ← List.getD_eq_getElem?_getD]
      exact ht i (by omega)

/-- where each is small, they read as tensors -/
theorem InTens.tens {w : World} {a : Option Addr} {len cap : Nat} (h : InTens w a len cap) (hl : len ≤ 40) (hs : ∀ b off i l l', a = some ⟨b, off, none⟩ → i < len → InTen w b (off + i * 2) l l' → l ≤ 40 ∧ l' ≤ 8192) : ∃ ts : List Tn, ts.length = len ∧ Tens w (.slice a len cap) ts := by
  rcases h with ⟨rfl, rfl, rfl⟩ | ⟨x, rfl, h1, h2, hx⟩
  · exact ⟨[], rfl, by simp, none, 0, rfl, by simp⟩
  · by_cases hp : 0 < len
    · obtain ⟨b, off, rfl, hb, hc⟩ := hx hp
      obtain ⟨ts, hl', ht⟩ := choose_tens (w := w) (b := b) (o := fun i => off + i * 2) len (fun i hi => by
        obtain ⟨l, l', hi'⟩ := hc i hi
        obtain ⟨q1, q2⟩ := hs b off i l l' rfl hi hi'
        exact hi'.ten q1 q2)
      exact ⟨ts, hl', by omega, some ⟨b, off, none⟩, cap, by rw [hl'], fun _ => ⟨b, off, rfl, hb, fun i hi => ht i (by omega)⟩⟩
    · obtain rfl : len = 0 := by omega
      exact ⟨[], rfl, by simp, some x, cap, rfl, by simp⟩

end Go.Proofs.Ytlfjclnocbohbaa
