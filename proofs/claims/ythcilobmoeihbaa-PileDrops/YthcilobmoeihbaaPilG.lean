
/- Ids with ranks in the order in which they come: plain lists, no program in it. -/
import Derived.Test.YthcilobmoeihbaaHepI
import Derived.Test.YthcilobmoeihbaaHepD
namespace Go.Proofs.Ythcilobmoeihbaa

/-- in order: nobody behind comes ahead -/
def Srt (ss : List (Int × Int)) : Prop := ss.Pairwise (fun a b => ltI b a = false)
/-- put in at its place -/
def insI (x : Int × Int) : List (Int × Int) → List (Int × Int)
  | [] => [x]
  | y :: r => if ltI y x = true then y :: insI x r else x :: y :: r
theorem insI_perm (x : Int × Int) : ∀ ss, (insI x ss).Perm (x :: ss)
  | [] => List.Perm.refl _
  | y :: r => by
    unfold insI
    split
    · exact ((insI_perm x r).cons y).trans (List.Perm.swap x y r)
    · exact List.Perm.refl _
theorem insI_length (x : Int × Int) (ss : List (Int × Int)) : (insI x ss).length = ss.length + 1 := by rw [(insI_perm x ss).length_eq]; rfl
theorem Srt.ins {ss : List (Int × Int)} (h : Srt ss) (x : Int × Int) : Srt (insI x ss) := by
  induction ss with
  | nil => exact List.pairwise_singleton _ _
  | cons y r ih =>
    obtain ⟨h1, h2⟩ := List.pairwise_cons.1 h
    unfold insI
    split
    · rename_i hlt
      refine List.pairwise_cons.2 ⟨fun z hz => ?_, ih h2⟩
      rcases List.mem_cons.1 ((insI_perm x r).mem_iff.1 hz) with rfl | hz
      · exact ordI.asym hlt
      · exact h1 z hz
    · rename_i hlt
      have hlt' : ltI y x = false := by simpa using hlt
      refine List.pairwise_cons.2 ⟨fun z hz => ?_, h⟩
      rcases List.mem_cons.1 hz with rfl | hz
      · exact hlt'
      · exact ordI.trans hlt' (h1 z hz)
theorem Srt.tail {s : Int × Int} {t : List (Int × Int)} (h : Srt (s :: t)) : Srt t := (List.pairwise_cons.1 h).2
theorem Srt.head {s : Int × Int} {t : List (Int × Int)} (h : Srt (s :: t)) : ∀ x ∈ s :: t, ltI x s = false := fun x hx => by
  rcases List.mem_cons.1 hx with rfl | hx
  · exact ordI.irr _
  · exact (List.pairwise_cons.1 h).1 x hx
theorem Srt.filter {ss : List (Int × Int)} (h : Srt ss) (p : Int × Int → Bool) : Srt (ss.filter p) := List.Pairwise.filter p h
/-- what is in order is told by who is in it -/
theorem Srt.unique : ∀ {a b : List (Int × Int)}, Srt a → Srt b → a.Perm b → a = b
  | [], b, _, _, h => by rw [List.nil_perm.1 h]
  | x :: r, [], _, _, h => absurd h.length_eq (by simp)
  | x :: r, y :: q, ha, hb, h => by
    have e : x = y := ordI.one (hb.head x (h.mem_iff.1 (List.mem_cons_self ..))) (ha.head y (h.mem_iff.2 (List.mem_cons_self ..)))
    subst e
    rw [Srt.unique ha.tail hb.tail (List.Perm.cons_inv h)]
/-- who stands at the first place of a heap -/
theorem heap_head {ys : List (Int × Int)} {s : Int × Int} {t : List (Int × Int)} (hh : IsHeap (0, 0) ltI ys) (hp : ys.Perm (s :: t)) (hs : Srt (s :: t)) : atL (0, 0) ys 0 = s := by
  have hl : 0 < ys.length := by rw [hp.length_eq]; simp
  have e0 : atL (0, 0) ys 0 = ys[0] := by simp [atL, List.getD, hl]
  have hm : atL (0, 0) ys 0 ∈ ys := by rw [e0]; exact List.getElem_mem hl
  refine ordI.one (hs.head _ (hp.mem_iff.1 hm)) ?_
  obtain ⟨k, hk, e⟩ := List.getElem_of_mem (hp.mem_iff.2 (List.mem_cons_self ..))
  have h1 := heap_top ordI hh k hk
  have e2 : atL (0, 0) ys k = s := by rw [← e]; simp [atL, List.getD, hk]
  rwa [e2] at h1

end Go.Proofs.Ythcilobmoeihbaa
