
/- Broadcasts as an operation: three shapes, ones in front, one into the other; no program in it. -/
import Derived.Test.YtnmpbjjppdkomaaPure
namespace Go.Proofs.Ytnmpbjjppdkomaa

theorem szE_zero_iff (a : List Int) : szE a = 0 ↔ mayB a = true := by
  have := szE_zero a
  constructor
  · intro h; rw [← this, h]; rfl
  · intro h; rw [h] at this; simpa using this

theorem sprE_zero_iff (a b : List Int) : sprE a b = 0 ↔ mayB a = true ∧ mayB b = true ∧ agAll a b = true ∧ mayB (joinL a b) = true := by
  by_cases h : mayB a = true ∧ mayB b = true ∧ agAll a b = true
  · rw [sprE_yes h.1 h.2.1 h.2.2, szE_zero_iff]
    constructor
    · intro h'; exact ⟨h.1, h.2.1, h.2.2, h'⟩
    · intro h'; exact h'.2.2.2
  · constructor
    · intro h'
      unfold sprE at h'
      rw [if_neg h] at h'
      omega
    · intro h'; exact absurd ⟨h'.1, h'.2.1, h'.2.2.1⟩ h

theorem ag_all {a b : List Int} (h : agAll a b = true) (k : Nat) : agB (fe a k) (fe b k) = true := by
  unfold agAll at h
  rw [decide_eq_true_eq] at h
  by_cases hk : k < max a.length b.length
  · exact h k hk
  · rw [fe_out (by omega), fe_out (by omega)]; rfl

theorem ag_mk {a b : List Int} (h : ∀ k, agB (fe a k) (fe b k) = true) : agAll a b = true := by
  unfold agAll
  rw [decide_eq_true_eq]
  intro k _
  exact h k

theorem joinR_getD (a b : List Int) : ∀ n j, j < n → (joinR a b n).getD j 0 = max (fe a (n - 1 - j)) (fe b (n - 1 - j))
  | n + 1, 0, _ => by simp [joinR]
  | n + 1, j + 1, h => by
    have := joinR_getD a b n j (by omega)
    have e : n + 1 - 1 - (j + 1) = n - 1 - j := by omega
    rw [e]
    simpa [joinR] using this

theorem fe_join {a b : List Int} (_ha : Pos a) (_hb : Pos b) (k : Nat) : fe (joinL a b) k = max (fe a k) (fe b k) := by
  by_cases hk : k < max a.length b.length
  · rw [fe_in (by rw [joinL_length]; exact hk), joinL_length]
    unfold joinL
    rw [joinR_getD _ _ _ _ (by omega)]
    have e : max a.length b.length - 1 - (max a.length b.length - 1 - k) = k := by omega
    rw [e]
  · rw [fe_out (by rw [joinL_length]; omega), fe_out (by omega), fe_out (by omega)]
    rfl

theorem joinR_congr {a b c d : List Int} (h : ∀ k, max (fe a k) (fe b k) = max (fe c k) (fe d k)) : ∀ n, joinR a b n = joinR c d n
  | 0 => rfl
  | n + 1 => by simp only [joinR, h, joinR_congr h n]

theorem join_assoc {a b c : List Int} (ha : Pos a) (hb : Pos b) (hc : Pos c) : joinL (joinL a b) c = joinL a (joinL b c) := by
  have h := joinR_congr (a := joinL a b) (b := c) (c := a) (d := joinL b c) (fun k => by rw [fe_join ha hb, fe_join hb hc]; omega)
  show joinR (joinL a b) c (max (joinL a b).length c.length) = joinR a (joinL b c) (max a.length (joinL b c).length)
  rw [h, joinL_length, joinL_length, Nat.max_assoc]

theorem joinR_self {x : List Int} : ∀ k, k ≤ x.length → joinR x x k = x.drop (x.length - k)
  | 0, _ => by simp [joinR]
  | k + 1, h => by
    have ih := joinR_self (x := x) k (by omega)
    have e : x.length - k = x.length - (k + 1) + 1 := by omega
    rw [drop_cons (xs := x) (k := x.length - (k + 1)) (by omega), ← e, ← ih]
    simp only [joinR]
    rw [fe_in (by omega)]
    have e2 : x.length - 1 - k = x.length - (k + 1) := by omega
    rw [e2, Int.max_self]

theorem join_into {a x : List Int} (hl : a.length ≤ x.length) (h : ∀ k, fe a k ≤ fe x k) : joinL a x = x := by
  have h1 := joinR_congr (a := a) (b := x) (c := x) (d := x) (fun k => by have := h k; omega)
  unfold joinL
  rw [h1, Nat.max_eq_right hl, joinR_self _ (Nat.le_refl _)]
  simp

theorem ag_three {x y z : Int} (hx : 1 ≤ x) (hy : 1 ≤ y) (hz : 1 ≤ z) (h1 : agB x y = true) (h2 : agB y z = true) : agB (max x y) z = agB x (max y z) := by
  unfold agB at *
  rw [Bool.eq_iff_iff]
  simp only [Bool.or_eq_true, beq_iff_eq] at *
  omega

theorem ag_sub {x y z : Int} (hx : 1 ≤ x) (hy : 1 ≤ y) (hz : 1 ≤ z) (h1 : agB x y = true) (h2 : agB (max x y) z = true) :
    agB x (max (max x y) z) = true ∧ agB y (max (max x y) z) = true ∧ agB z (max (max x y) z) = true := by
  unfold agB at *
  simp only [Bool.or_eq_true, beq_iff_eq] at *
  omega

theorem into_mk {a x : List Int} (ha : mayB a = true) (hx : mayB x = true) (hl : a.length ≤ x.length) (h : ∀ k, fe a k ≤ fe x k) (hg : ∀ k, agB (fe a k) (fe x k) = true) : intoB a x = true := by
  have e := join_into hl h
  have h0 : sprE a x = 0 := (sprE_zero_iff a x).2 ⟨ha, hx, ag_mk hg, by rw [e]; exact hx⟩
  have h1 : sprL a x = x := by rw [sprL_yes ha hx (ag_mk hg) (by rw [e]; exact hx), e]
  unfold intoB
  rw [h0, h1]
  simp

/-- three shapes -/
theorem three_ok {a b c : List Int} (h1 : sprE a b = 0) (h2 : sprE b c = 0) :
    (sprE (sprL a b) c == 0) = (sprE a (sprL b c) == 0) ∧ sprL (sprL a b) c = sprL a (sprL b c) ∧
    (sprE (sprL a b) c = 0 → intoB a (sprL (sprL a b) c) = true ∧ intoB b (sprL (sprL a b) c) = true ∧ intoB c (sprL (sprL a b) c) = true) := by
  obtain ⟨ma, mb, gab, mab⟩ := (sprE_zero_iff a b).1 h1
  obtain ⟨_, mc, gbc, mbc⟩ := (sprE_zero_iff b c).1 h2
  rw [sprL_yes ma mb gab mab, sprL_yes mb mc gbc mbc]
  have pa := (may_good ma).2
  have pb := (may_good mb).2
  have pc := (may_good mc).2
  have as := join_assoc pa pb pc
  have gg : agAll (joinL a b) c = agAll a (joinL b c) := by
    rw [Bool.eq_iff_iff]
    constructor
    · intro h
      apply ag_mk
      intro k
      rw [fe_join pb pc, ← ag_three (fe_pos pa k) (fe_pos pb k) (fe_pos pc k) (ag_all gab k) (ag_all gbc k), ← fe_join pa pb]
      exact ag_all h k
    · intro h
      apply ag_mk
      intro k
      rw [fe_join pa pb, ag_three (fe_pos pa k) (fe_pos pb k) (fe_pos pc k) (ag_all gab k) (ag_all gbc k), ← fe_join pb pc]
      exact ag_all h k
  refine ⟨?_, ?_, ?_⟩
  · have : sprE (joinL a b) c = sprE a (joinL b c) := by
      unfold sprE
      rw [mab, mc, ma, mbc, gg, as]
    rw [this]
  · unfold sprL
    rw [mab, mc, ma, mbc, gg, as]
  · intro h
    obtain ⟨_, _, g3, m3⟩ := (sprE_zero_iff _ _).1 h
    rw [sprL_yes mab mc g3 m3]
    have l1 := joinL_length a b
    have l2 := joinL_length (joinL a b) c
    have pab : Pos (joinL a b) := (may_good mab).2
    have hf : ∀ k, fe (joinL (joinL a b) c) k = max (max (fe a k) (fe b k)) (fe c k) := fun k => by rw [fe_join pab pc, fe_join pa pb]
    have hg : ∀ k, agB (max (fe a k) (fe b k)) (fe c k) = true := fun k => by have := ag_all g3 k; rwa [fe_join pa pb] at this
    have hs := fun k => ag_sub (fe_pos pa k) (fe_pos pb k) (fe_pos pc k) (ag_all gab k) (hg k)
    refine ⟨into_mk ma m3 (by omega) (fun k => ?_) (fun k => ?_), into_mk mb m3 (by omega) (fun k => ?_) (fun k => ?_), into_mk mc m3 (by omega) (fun k => ?_) (fun k => ?_)⟩
    · rw [hf]; omega
    · rw [hf]; exact (hs k).1
    · rw [hf]; omega
    · rw [hf]; exact (hs k).2.1
    · rw [hf]; omega
    · rw [hf]; exact (hs k).2.2

/-- ones in front -/
theorem fe_one (s : List Int) (k : Nat) : fe (1 :: s) k = fe s k := by
  by_cases hk : k < s.length
  · rw [fe_in hk, fe_in (by simp; omega)]
    have e : (1 :: s).length - 1 - k = (s.length - 1 - k) + 1 := by simp; omega
    rw [e]
    simp
  · rw [fe_out (xs := s) (by omega)]
    by_cases hk2 : k = s.length
    · subst hk2
      rw [fe_in (by simp)]
      simp
    · rw [fe_out (by simp; omega)]

theorem one_pos (s : List Int) : Pos (1 :: s) ↔ Pos s := by
  constructor
  · intro h; exact h.cons.2
  · intro h x hx
    simp only [List.mem_cons] at hx
    rcases hx with rfl | hx
    · omega
    · exact h x hx

theorem one_may {s : List Int} (hl : s.length < 4) : mayB (1 :: s) = mayB s ∧ goodB (1 :: s) = goodB s ∧ prodL (1 :: s) = prodL s := by
  have hg : goodB (1 :: s) = goodB s := by
    rw [Bool.eq_iff_iff, goodB_iff, goodB_iff]
    unfold Good
    rw [one_pos]
    simp
    omega
  have hp : prodL (1 :: s) = prodL s := by simp [prodL]
  exact ⟨by unfold mayB; rw [hg, hp], hg, hp⟩

theorem one_size {s : List Int} (hl : s.length < 4) : szN (1 :: s) = szN s ∧ szE (1 :: s) = szE s := by
  obtain ⟨h1, h2, h3⟩ := one_may hl
  unfold szN szE
  rw [h1, h2, h3]
  exact ⟨rfl, rfl⟩

theorem one_ag (s t : List Int) : agAll (1 :: s) t = agAll s t := by
  rw [Bool.eq_iff_iff]
  constructor
  · intro h; apply ag_mk; intro k; rw [← fe_one]; exact ag_all h k
  · intro h; apply ag_mk; intro k; rw [fe_one]; exact ag_all h k

theorem one_joinR (s t : List Int) (n : Nat) : joinR (1 :: s) t n = joinR s t n := joinR_congr (fun k => by rw [fe_one]) n

theorem one_join {s t : List Int} : (s.length < t.length → joinL (1 :: s) t = joinL s t) ∧ (t.length ≤ s.length → joinL (1 :: s) t = 1 :: joinL s t) := by
  constructor
  · intro h
    unfold joinL
    rw [one_joinR, Nat.max_eq_right (by simp; omega), Nat.max_eq_right (by omega)]
  · intro h
    unfold joinL
    rw [one_joinR, Nat.max_eq_left (by simp; omega), Nat.max_eq_left h]
    have e : (1 :: s).length = s.length + 1 := by simp
    rw [e]
    simp only [joinR]
    rw [fe_out (Nat.le_refl _), fe_out h]
    rfl

theorem one_spread {s t : List Int} (hl : s.length < 4) : sprE s t = sprE (1 :: s) t ∧ (s.length < t.length → sprL s t = sprL (1 :: s) t) ∧ (intoB (1 :: s) t = true → intoB s t = true) := by
  obtain ⟨m1, _, _⟩ := one_may hl
  have hE : sprE s t = sprE (1 :: s) t := by
    unfold sprE
    rw [m1, one_ag]
    by_cases h : mayB s = true ∧ mayB t = true ∧ agAll s t = true
    · rw [if_pos h, if_pos h]
      by_cases hlt : s.length < t.length
      · rw [one_join.1 hlt]
      · rw [one_join.2 (by omega)]
        exact (one_size (by rw [joinL_length]; omega)).2.symm
    · rw [if_neg h, if_neg h]
  have hL : s.length < t.length → sprL s t = sprL (1 :: s) t := by
    intro hlt
    unfold sprL
    rw [m1, one_ag, one_join.1 hlt]
  refine ⟨hE, hL, fun h => ?_⟩
  unfold intoB at h ⊢
  rw [Bool.and_eq_true, decide_eq_true_eq] at h
  have hz : sprE (1 :: s) t = 0 := by simpa using h.1
  by_cases hlt : s.length < t.length
  · rw [hE, hL hlt, hz, h.2]; simp
  · obtain ⟨q1, q2, q3, q4⟩ := (sprE_zero_iff _ _).1 hz
    have := h.2
    rw [sprL_yes q1 q2 q3 q4] at this
    have hlen := congrArg List.length this
    rw [joinL_length] at hlen
    simp at hlen
    omega

end Go.Proofs.Ytnmpbjjppdkomaa
