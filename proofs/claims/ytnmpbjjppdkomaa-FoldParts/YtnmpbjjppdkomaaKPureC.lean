
/- Plain mathematics of the place that falls on a place of a greater shape; no program in it. -/
import Derived.Test.YtnmpbjjppdkomaaKPureB
namespace Go.Proofs.Ytnmpbjjppdkomaa

/-- the place in f under the place a of a greater shape -/
def clipR : List Int → List Int → List Int
  | x :: f, y :: b => (if 1 < x then y else 0) :: clipR f b
  | _, _ => []
theorem clipR_length : ∀ (f b : List Int), b.length = f.length → (clipR f b).length = f.length
  | [], _, _ => rfl
  | x :: f, y :: b, h => by simp [clipR, clipR_length f b (by simpa using h)]
theorem clipR_getD : ∀ {f b : List Int} {k : Nat}, b.length = f.length → k < f.length → (clipR f b).getD k 0 = if 1 < f.getD k 0 then b.getD k 0 else 0
  | x :: f, y :: b, 0, _, _ => by simp [clipR]
  | x :: f, y :: b, k + 1, h, hk => by
    have := clipR_getD (f := f) (b := b) (k := k) (by simpa using h) (by simpa using hk)
    simpa [clipR] using this
def clip (f a : List Int) : List Int := clipR f (a.drop (a.length - f.length))
theorem clip_length {f a : List Int} (h : f.length ≤ a.length) : (clip f a).length = f.length := clipR_length _ _ (by rw [List.length_drop]; omega)
theorem clip_getD {f a : List Int} (h : f.length ≤ a.length) {k : Nat} (hk : k < f.length) : (clip f a).getD k 0 = if 1 < f.getD k 0 then a.getD (a.length - f.length + k) 0 else 0 := by
  unfold clip
  rw [clipR_getD (by rw [List.length_drop]; omega) hk]
  simp [List.getD_eq_getElem?_getD]

def dotL : List Int → List Int → Int
  | s :: ss, a :: r => s * a + dotL ss r
  | _, _ => 0
theorem dotP_dotL : ∀ (ss t : List Int) (j : Int), dotP ss t j = dotL ss (plc t j)
  | [], [], _ => rfl
  | [], _ :: _, _ => rfl
  | _ :: _, [], _ => rfl
  | s :: ss, n :: t, j => by simp only [dotP, plc, dotL, dotP_dotL ss t]
theorem dotL_zeros (ss : List Int) : ∀ (m : Nat) (a : List Int), m ≤ a.length → dotL (List.replicate m 0 ++ ss) a = dotL ss (a.drop m)
  | 0, a, _ => by simp
  | m + 1, y :: a, h => by
    have := dotL_zeros ss m a (by simpa using h)
    simp only [List.replicate_succ, List.cons_append, dotL, List.drop_succ_cons, this]
    omega
theorem dotL_clip : ∀ {f b : List Int}, Pos f → b.length = f.length → dotL (stp f) b = idx f (clipR f b)
  | [], [], _, _ => rfl
  | x :: f, y :: b, hp, h => by
    have hp' := hp.cons
    have ih := dotL_clip (f := f) (b := b) hp'.2 (by simpa using h)
    simp only [stp, dotL, clipR, idx, ih]
    by_cases hx : x = 1
    · subst hx
      simp
    · rw [if_neg hx, if_pos (by omega), Int.mul_comm]
theorem usrc_clip {f t : List Int} (hp : Pos f) (hl : f.length ≤ t.length) (j : Nat) : usrc f t j = idx f (clip f (plc t (j : Int))) := by
  unfold usrc clip padL
  rw [stp_ones, dotP_dotL, dotL_zeros _ _ _ (by rw [plc_length]; omega), plc_length, dotL_clip hp (by rw [List.length_drop, plc_length]; omega)]
theorem Br.getD : ∀ {g t : List Int} {k : Nat}, Br g t → k < t.length → g.getD k 0 = t.getD k 0 ∨ g.getD k 0 = 1
  | m :: f, n :: r, 0, h, _ => by simpa using h.1
  | m :: f, n :: r, k + 1, h, hk => by simpa using Br.getD (k := k) h.2 (by simpa using hk)
  | [], [], _, _, hk => by simp at hk
  | [], _ :: _, _, h, _ => h.elim
  | _ :: _, [], _, h, _ => h.elim
theorem clip_inside {f t : List Int} (h : intoB f t = true) {j : Nat} (hj : (j : Int) < prodL t) : insB f (clip f (plc t (j : Int))) = true := by
  obtain ⟨m1, m2, hl, hb⟩ := into_spec h
  rw [insB_iff]
  intro k hk
  have hin := (idx_plc (may_good m2).2 (show (0 : Int) ≤ (j : Int) by omega) hj).2
  rw [clip_getD (by rw [plc_length]; exact hl) hk, plc_length]
  have hp := (may_good m1).2.getD hk
  by_cases hx : 1 < f.getD k 0
  · rw [if_pos hx]
    have hlk : t.length - f.length + k < t.length := by omega
    have h1 := hin (t.length - f.length + k) hlk
    have h2 := hb.getD hlk
    have e1 : (padL f t).getD (t.length - f.length + k) 0 = f.getD k 0 := by
      have := getD_app_r (l := List.replicate (t.length - f.length) (1 : Int)) (m := f) (k := k)
      rw [List.length_replicate] at this
      exact this
    rw [e1] at h2
    omega
  · rw [if_neg hx]
    omega
/-- what under tells -/
theorem ix_clip {f t : List Int} (h : intoB f t = true) {j : Nat} (hj : (j : Int) < prodL t) : ixN f (clip f (plc t (j : Int))) = usrc f t j := by
  obtain ⟨m1, m2, hl, hb⟩ := into_spec h
  rw [ixN_yes m1 (by rw [clip_length (by rw [plc_length]; exact hl)]) (clip_inside h hj), usrc_clip (may_good m1).2 hl]

/-- the place while it is filled from its end -/
def clipS (f a : List Int) (k : Nat) : List Int := List.replicate (f.length - k) 0 ++ (clip f a).drop (f.length - k)
theorem clipS_zero {f a : List Int} (h : f.length ≤ a.length) : clipS f a 0 = List.replicate f.length 0 := by
  unfold clipS
  rw [Nat.sub_zero, List.drop_of_length_le (by rw [clip_length h]; omega), List.append_nil]
theorem clipS_all (f a : List Int) : clipS f a f.length = clip f a := by
  unfold clipS
  rw [Nat.sub_self]
  simp
theorem clipS_length {f a : List Int} (h : f.length ≤ a.length) {k : Nat} (hk : k ≤ f.length) : (clipS f a k).length = f.length := by
  unfold clipS
  rw [List.length_append, List.length_replicate, List.length_drop, clip_length h]
  omega
theorem clipS_succ {f a : List Int} (h : f.length ≤ a.length) {k : Nat} (hk : k < f.length) : clipS f a (k + 1) = List.replicate (f.length - 1 - k) 0 ++ (clip f a).getD (f.length - 1 - k) 0 :: (clip f a).drop (f.length - k) := by
  unfold clipS
  rw [show f.length - (k + 1) = f.length - 1 - k by omega, drop_cons (xs := clip f a) (by rw [clip_length h]; omega), show f.length - 1 - k + 1 = f.length - k by omega]
theorem clipS_set {f a : List Int} (h : f.length ≤ a.length) {k : Nat} (hk : k < f.length) : (clipS f a k).set (f.length - 1 - k) ((clip f a).getD (f.length - 1 - k) 0) = clipS f a (k + 1) := by
  rw [clipS_succ h hk]
  unfold clipS
  rw [show f.length - k = (f.length - 1 - k) + 1 by omega, List.replicate_succ', List.append_assoc, List.set_append_right _ _ (by simp)]
  simp
theorem clipS_same {f a : List Int} (h : f.length ≤ a.length) {k : Nat} (hk : k < f.length) (h0 : (clip f a).getD (f.length - 1 - k) 0 = 0) : clipS f a (k + 1) = clipS f a k := by
  rw [clipS_succ h hk, h0]
  unfold clipS
  rw [show f.length - k = (f.length - 1 - k) + 1 by omega, List.replicate_succ', List.append_assoc]
  rfl

end Go.Proofs.Ytnmpbjjppdkomaa
