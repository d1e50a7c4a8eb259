
/- The law KernelGathers: its plain mathematics. -/
import Derived.Test.YtcegkaemcjlfgabKerI
import Derived.Test.YtcegkaemcjlfgabFWh
import Derived.Test.YtcegkaemcjlfgabOpn
namespace Go.Proofs.Ytcegkaemcjlfgab
open Go.RowKit Go.ChangeShapes

/-- what stands where the sources say k -/
def pickI : List Int → List Int → Int → List Int
  | s :: ss, x :: xs, k => if s = k then x :: pickI ss xs k else pickI ss xs k
  | _, _, _ => []
theorem pickI_mem : ∀ {s : List Int} {x : List Int} {k : Int} {y : Int}, y ∈ pickI s x k → y ∈ x
  | a :: s, b :: x, k, y, h => by
    simp only [pickI] at h
    split at h
    · rcases List.mem_cons.1 h with rfl | h
      · simp
      · exact List.mem_cons_of_mem _ (pickI_mem h)
    · exact List.mem_cons_of_mem _ (pickI_mem h)
theorem pick_le : ∀ (s : List Int) (x : List Nat) (k : Int), (pick s x k).length ≤ x.length
  | [], _, _ => by simp [pick]
  | _ :: _, [], _ => by simp [pick]
  | a :: s, b :: x, k => by
    have := pick_le s x k
    simp only [pick]
    split <;> simp <;> omega
theorem Whs.pick : ∀ {s : List Int} {l : List Nat} {z : List Int} (k : Int), Whs l z → Whs (pick s l k) (pickI s z k)
  | [], [], [], _, _ => by simp [Go.Proofs.Ytcegkaemcjlfgab.pick, pickI, Whs]
  | [], _ :: _, _ :: _, _, _ => by simp [Go.Proofs.Ytcegkaemcjlfgab.pick, pickI, Whs]
  | _ :: _, [], [], _, _ => by simp [Go.Proofs.Ytcegkaemcjlfgab.pick, pickI, Whs]
  | a :: s, x :: l, y :: z, k, h => by
    have ih := Whs.pick (s := s) k h.2
    simp only [Go.Proofs.Ytcegkaemcjlfgab.pick, pickI]
    split
    · exact ⟨h.1, ih⟩
    · exact ih
  | _, [], _ :: _, _, h => h.elim
  | _, _ :: _, [], _, h => h.elim

def spf : List Int → (Nat → Int) → Int → Int
  | [], _, _ => 0
  | s :: S, g, i => (if s = i then g 0 else 0) + spf S (fun m => g (m + 1)) i
theorem spf_add : ∀ (S : List Int) (g h : Nat → Int) (i : Int), spf S (fun m => g m + h m) i = spf S g i + spf S h i
  | [], _, _, _ => by simp [spf]
  | s :: S, g, h, i => by
    have := spf_add S (fun m => g (m + 1)) (fun m => h (m + 1)) i
    simp only [spf, this]
    split <;> omega
theorem spf_zero : ∀ (S : List Int) (i : Int), spf S (fun _ => 0) i = 0
  | [], _ => rfl
  | s :: S, i => by simp [spf, spf_zero S i]
theorem spf_single : ∀ (S : List Int) (k : Nat) (z i : Int), k < S.length → spf S (fun m => if m = k then z else 0) i = if S.getD k 0 = i then z else 0
  | s :: S, 0, z, i, _ => by
    have e : (fun m : Nat => if m + 1 = 0 then z else 0) = fun _ => 0 := by funext m; simp
    simp only [spf, e, spf_zero]
    simp
  | s :: S, k + 1, z, i, h => by
    have ih := spf_single S k z i (by simpa using h)
    have e : (fun m : Nat => if m + 1 = k + 1 then z else 0) = fun m => if m = k then z else 0 := by funext m; simp
    simp only [spf, e, ih]
    simp
theorem pickI_spf : ∀ (S z : List Int) (i : Int), z.length = S.length → sumI (pickI S z i) = spf S (fun m => z.getD m 0) i
  | [], [], _, _ => rfl
  | s :: S, x :: z, i, h => by
    have ih := pickI_spf S z i (by simpa using h)
    simp only [pickI, spf]
    rw [show (fun m : Nat => (x :: z).getD (m + 1) 0) = fun m => z.getD m 0 from rfl, ← ih]
    split
    · simp [sumI]
    · simp
theorem regroup : ∀ (S1 z S2 : List Int) (i : Int), z.length = S1.length → (∀ s ∈ S1, 0 ≤ s ∧ s < S2.length) →
    spf S2 (fun m => sumI (pickI S1 z (m : Int))) i = sumI (pickI (S1.map fun s => S2.getD s.toNat 0) z i)
  | [], [], S2, i, _, _ => by simp [pickI, sumI, spf_zero]
  | s :: S1, x :: z, S2, i, h, hs => by
    have ih := regroup S1 z S2 i (by simpa using h) (fun a ha => hs a (List.mem_cons_of_mem _ ha))
    have h0 := hs s (by simp)
    have e : (fun m : Nat => sumI (pickI (s :: S1) (x :: z) (m : Int))) = fun m => (if m = s.toNat then x else 0) + sumI (pickI S1 z (m : Int)) := by
      funext m
      simp only [pickI]
      by_cases hm : s = (m : Int)
      · rw [if_pos hm, if_pos (by omega)]; rfl
      · rw [if_neg hm, if_neg (by omega)]; omega
    rw [e, spf_add, ih, spf_single S2 s.toNat x i (by omega)]
    simp only [List.map_cons, pickI]
    split
    · rfl
    · omega

theorem into_drop {x : List Int} (h : mayB x = true) (k : Nat) : intoB (x.drop k) x = true := by
  have hg := may_good h
  have hm : mayB (x.drop k) = true := (mayB_iff _).2 ⟨⟨by have := hg.1; rw [List.length_drop]; omega, hg.2.drop k⟩, by have := prodL_drop_le hg.2 k; have := may_prod h; omega⟩
  have hf : ∀ j, j < (x.drop k).length → fe (x.drop k) j = fe x j := by
    intro j hj
    rw [List.length_drop] at hj
    rw [fe_in (by rw [List.length_drop]; exact hj), fe_in (by omega), List.length_drop]
    simp only [List.getD_eq_getElem?_getD, List.getElem?_drop]
    congr 3
    omega
  refine into_mk hm h (by rw [List.length_drop]; omega) (fun j => ?_) (fun j => ?_)
  · by_cases hj : j < (x.drop k).length
    · rw [hf j hj]; omega
    · rw [fe_out (xs := x.drop k) (by omega)]; exact fe_pos hg.2 j
  · unfold agB
    by_cases hj : j < (x.drop k).length
    · rw [hf j hj]; simp
    · rw [fe_out (xs := x.drop k) (by omega)]; simp
theorem mid_may {n : Int} {r : List Int} (h : mayB (n :: r) = true) : mayB (1 :: r) = true := by
  have hg := may_good h
  have hc := hg.2.cons
  refine (mayB_iff _).2 ⟨⟨by simpa using hg.1, fun y hy => ?_⟩, ?_⟩
  · rcases List.mem_cons.1 hy with rfl | hy
    · omega
    · exact hc.2 y hy
  · have h1 := may_prod h
    have h2 := le_one_mul (a := prodL r) (b := n) (by have := prodL_pos hc.2; omega) hc.1
    simp only [prodL] at *
    omega
theorem into_mid {n : Int} {r : List Int} (h : mayB (n :: r) = true) : intoB (1 :: r) (n :: r) = true := by
  have hg := may_good h
  have hf : ∀ j, j < r.length → fe (n :: r) j = fe r j := by
    intro j hj
    rw [fe_in (by simp; omega), fe_in hj, List.length_cons, show r.length + 1 - 1 - j = (r.length - 1 - j) + 1 by omega]
    rfl
  refine into_mk (mid_may h) h (by simp) (fun j => ?_) (fun j => ?_)
  · rw [fe_one]
    by_cases hj : j < r.length
    · rw [hf j hj]; omega
    · rw [fe_out (xs := r) (by omega)]; exact fe_pos hg.2 j
  · rw [fe_one]
    unfold agB
    by_cases hj : j < r.length
    · rw [hf j hj]; simp
    · rw [fe_out (xs := r) (by omega)]; simp

theorem padL_cons {e r : List Int} (n : Int) (h : e.length ≤ r.length) : padL e (n :: r) = 1 :: padL e r := by
  unfold padL
  rw [List.length_cons, show r.length + 1 - e.length = (r.length - e.length) + 1 by omega, List.replicate_succ]
  rfl
theorem usrc_cons {e r : List Int} (n : Int) (h : e.length ≤ r.length) (j : Nat) : usrc e (n :: r) j = dotP (stp (padL e r)) r ((j : Int) % prodL r) := by
  unfold usrc
  rw [padL_cons n h]
  simp [stp, dotP]
theorem usrc_mid {n : Int} {r : List Int} (h : mayB (n :: r) = true) (j : Nat) : usrc (1 :: r) (n :: r) j = (j : Int) % prodL r := by
  have hp := (may_good h).2.cons.2
  have h1 := prodL_pos hp
  unfold usrc padL
  rw [List.length_cons, List.length_cons, Nat.sub_self, List.replicate_zero, List.nil_append]
  simp only [stp, dotP]
  rw [dotP_self hp (Int.emod_nonneg _ (by omega)) (Int.emod_lt_of_pos _ (by omega))]
  simp
/-- by way of the shape between -/
theorem src_comp {n : Int} {r : List Int} (h : mayB (n :: r) = true) {k : Nat} (hk : 1 ≤ k) : srcL ((n :: r).drop k) (n :: r) = (srcL (1 :: r) (n :: r)).map fun s => (srcL ((n :: r).drop k) (1 :: r)).getD s.toNat 0 := by
  obtain ⟨k, rfl⟩ : ∃ k', k = k' + 1 := ⟨k - 1, by omega⟩
  rw [List.drop_succ_cons]
  have hp := (may_good h).2.cons.2
  have h1 := prodL_pos hp
  have hl : (r.drop k).length ≤ r.length := by rw [List.length_drop]; omega
  unfold srcL
  rw [List.map_map]
  apply List.map_congr_left
  intro j hj
  simp only [Function.comp]
  have hm := usrc_mid h j
  have hb0 := Int.emod_nonneg (j : Int) (b := prodL r) (by omega)
  have hb1 := Int.emod_lt_of_pos (j : Int) (b := prodL r) (by omega)
  rw [hm]
  obtain ⟨m, hmm⟩ := Int.eq_ofNat_of_zero_le hb0
  have hprod : prodL (1 :: r) = prodL r := by simp [prodL]
  have hmr : m < (prodL (1 :: r)).toNat := by rw [hprod]; omega
  rw [hmm, Int.toNat_natCast]
  have e : ((List.range (prodL (1 :: r)).toNat).map (usrc (r.drop k) (1 :: r))).getD m 0 = usrc (r.drop k) (1 :: r) m := by simp [hmr]
  rw [e, usrc_cons n hl, usrc_cons 1 hl, hmm, Int.emod_eq_of_lt (by omega) (by omega)]

/-- the whole numbers that Gather makes of whole ones -/
def gatZ (t : List Int) (z : List Int) (f : List Int) : List Int := (List.range (prodL f).toNat).map fun j : Nat => sumI (pickI (srcL f t) z (j : Int))
theorem gat_whs {t f : List Int} {d ds : List Nat} {z : List Int} {B : Nat} (hm : mayT t d = true) (hi : intoB f t = true) (hw : Whs d z) (hz : ∀ x ∈ z, x.natAbs ≤ B) (hB : B * 4096 < 9007199254740992) (h : ds.map cn = gatL t d f) : Whs ds (gatZ t z f) := by
  rw [(gat_yes (by rw [hm, hi]; rfl)).2.1] at h
  have hl : ds.length = (prodL f).toNat := by have := congrArg List.length h; simpa using this
  have hd : d.length ≤ 4096 := by have := mayT_len hm; have := may_prod (mayT_may hm); omega
  refine whs_mk (by rw [hl]; simp [gatZ]) (fun i hi' => ?_)
  have hin : i < (prodL f).toNat := by omega
  have e1 : (gatZ t z f).getD i 0 = sumI (pickI (srcL f t) z (i : Int)) := by
    unfold gatZ
    simp [hin]
  have w := foldC_wh (B := B) 4096 hB (pick (srcL f t) d (i : Int)) (pickI (srcL f t) z (i : Int)) (hw.pick _) (by have := pick_le (srcL f t) d (i : Int); omega) (fun x hx => hz x (pickI_mem hx))
  rw [e1]
  have h2 := congrArg (fun l => l.getD i 0) h
  simp [hin, hi'] at h2
  have e2 : ds.getD i 0 = ds[i] := by simp [hi']
  rw [e2, is_num h2 rfl w.nan]
  exact w
theorem gatZ_bound {t f : List Int} {d : List Nat} {z : List Int} {B : Nat} (hm : mayT t d = true) (hw : Whs d z) (hz : ∀ x ∈ z, x.natAbs ≤ B) : ∀ x ∈ gatZ t z f, x.natAbs ≤ B * 4096 := by
  intro x hx
  obtain ⟨j, _, rfl⟩ := List.mem_map.1 hx
  have hd : d.length ≤ 4096 := by have := mayT_len hm; have := may_prod (mayT_may hm); omega
  have h1 := sumI_bound (B := B) (l := pickI (srcL f t) z (j : Int)) (fun x hx => hz x (pickI_mem hx))
  have h2 := (hw.pick (s := srcL f t) (j : Int)).len
  have h3 := pick_le (srcL f t) d (j : Int)
  exact Nat.le_trans h1 (Nat.mul_le_mul_left B (by omega))
/-- at once, or by way of the shape between -/
theorem gather_twice {n : Int} {r : List Int} {z : List Int} (h : mayB (n :: r) = true) {k : Nat} (hk : 1 ≤ k) (hz : (z.length : Int) = prodL (n :: r)) :
    gatZ (1 :: r) (gatZ (n :: r) z (1 :: r)) ((n :: r).drop k) = gatZ (n :: r) z ((n :: r).drop k) := by
  unfold gatZ
  apply List.map_congr_left
  intro i _
  have hp1 := prodL_pos (may_good (mid_may h)).2
  have hl : ((List.range (prodL (1 :: r)).toNat).map fun j : Nat => sumI (pickI (srcL (1 :: r) (n :: r)) z (j : Int))).length = (srcL ((n :: r).drop k) (1 :: r)).length := by
    rw [srcL_length]; simp
  rw [pickI_spf _ _ _ hl]
  have e : spf (srcL ((n :: r).drop k) (1 :: r)) (fun m => ((List.range (prodL (1 :: r)).toNat).map fun j : Nat => sumI (pickI (srcL (1 :: r) (n :: r)) z (j : Int))).getD m 0) (i : Int) = spf (srcL ((n :: r).drop k) (1 :: r)) (fun m => sumI (pickI (srcL (1 :: r) (n :: r)) z (m : Int))) (i : Int) := by
    have key : ∀ (S : List Int) (g h : Nat → Int) (i : Int), (∀ m, m < S.length → g m = h m) → spf S g i = spf S h i := by
      intro S
      induction S with
      | nil => intros; rfl
      | cons s S ih =>
        intro g h i hg
        simp only [spf]
        rw [hg 0 (by simp), ih _ (fun m => h (m + 1)) i (fun m hm => hg (m + 1) (by simpa using hm))]
    apply key
    intro m hm
    rw [srcL_length] at hm
    simp [hm]
  rw [e, regroup _ _ _ _ (by rw [srcL_length]; omega) ?_, ← src_comp h hk]
  intro s hs
  have := srcL_bounds (into_mid h) s hs
  rw [srcL_length]
  omega

end Go.Proofs.Ytcegkaemcjlfgab
