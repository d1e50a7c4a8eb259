
/- Which graphs a graph comes to by Calls: plain mathematics. -/
import Derived.Test.YtliddjpcbhdplaaGrB
namespace Go.Proofs.Ytliddjpcbhdplaa

def inRg (gs : List (List Nd)) (t : Int) : Prop := 0 ≤ t ∧ t < gs.length
def tg (gs : List (List Nd)) (t : Int) : List Int := callsL (gs.getD t.toNat [])
inductive Rch (gs : List (List Nd)) (g : Int) : Int → Prop
  | base : Rch gs g g
  | step {x y : Int} : Rch gs g x → inRg gs x → y ∈ tg gs x → Rch gs g y
/-- there is a graph g, and one for each Call that it comes to -/
def WholeP (gs : List (List Nd)) (g : Int) : Prop := ∀ y, Rch gs g y → inRg gs y

theorem pigeon : ∀ (n : Nat) (S : List Int), S.Nodup → (∀ x ∈ S, 0 ≤ x ∧ x < n) → S.length ≤ n
  | 0, [], _, _ => Nat.le_refl _
  | 0, x :: S, _, h => by have := h x (by simp); omega
  | n + 1, S, hn, h => by
    by_cases hm : (n : Int) ∈ S
    · have h1 := pigeon n (S.erase n) (hn.erase _) (fun x hx => by
        have h2 := h x (List.mem_of_mem_erase hx)
        have h3 : x ≠ n := fun e => by
          subst e
          exact absurd hx (List.Nodup.not_mem_erase hn)
        omega)
      rw [List.length_erase_of_mem hm] at h1
      omega
    · have := pigeon n S hn (fun x hx => by
        have h2 := h x hx
        have h3 : x ≠ n := fun e => hm (e ▸ hx)
        omega)
      omega

/-- whom the search has met: S; whom it has still to look at: T; ex: the one it is looking at, of whose Calls those in P are met -/
structure Seek (gs : List (List Nd)) (g : Int) (S T : List Int) : Prop where
  nodup : S.Nodup
  inr : ∀ x ∈ S, inRg gs x
  start : g ∈ S
  rch : ∀ x ∈ S, Rch gs g x
  todo : ∀ x ∈ T, x ∈ S
structure SeekAll (gs : List (List Nd)) (g : Int) (S T : List Int) : Prop extends Seek gs g S T where
  done : ∀ x ∈ S, x ∉ T → ∀ y ∈ tg gs x, y ∈ S
structure SeekAt (gs : List (List Nd)) (g at_ : Int) (P S T : List Int) : Prop extends Seek gs g S T where
  here : at_ ∈ S
  done : ∀ x ∈ S, x ∉ T → x ≠ at_ → ∀ y ∈ tg gs x, y ∈ S
  pre : ∀ y ∈ P, y ∈ S

theorem Seek.le {gs : List (List Nd)} {g : Int} {S T : List Int} (h : Seek gs g S T) : S.length ≤ gs.length := pigeon _ S h.nodup h.inr
theorem SeekAll.first {gs : List (List Nd)} {g : Int} (h : inRg gs g) : SeekAll gs g [g] [g] :=
  ⟨⟨by simp, by simpa using h, by simp, by intro x hx; simp at hx; subst hx; exact .base, by simp⟩, by intro x hx hn; exact absurd hx hn⟩
theorem SeekAll.pop {gs : List (List Nd)} {g : Int} {S T : List Int} {x : Int} (h : SeekAll gs g S (T ++ [x])) : SeekAt gs g x [] S T :=
  ⟨⟨h.nodup, h.inr, h.start, h.rch, fun y hy => h.todo y (by simp [hy])⟩, h.todo x (by simp), fun y hy hn hne => h.done y hy (by simp [hn, hne]), by simp⟩
theorem SeekAt.bad {gs : List (List Nd)} {g x y : Int} {P S T : List Int} (h : SeekAt gs g x P S T) (hy : y ∈ tg gs x) (hn : ¬ inRg gs y) : ¬ WholeP gs g :=
  fun hw => hn (hw y (.step (h.rch x h.here) (h.inr x h.here) hy))
theorem SeekAt.old {gs : List (List Nd)} {g x y : Int} {P S T : List Int} (h : SeekAt gs g x P S T) (hy : y ∈ S) : SeekAt gs g x (P ++ [y]) S T :=
  { h with pre := fun z hz => by rcases List.mem_append.1 hz with hz | hz; exact h.pre z hz; simp at hz; subst hz; exact hy }
theorem SeekAt.new {gs : List (List Nd)} {g x y : Int} {P S T : List Int} (h : SeekAt gs g x P S T) (hy : y ∈ tg gs x) (hr : inRg gs y) (hn : y ∉ S) : SeekAt gs g x (P ++ [y]) (S ++ [y]) (T ++ [y]) where
  nodup := by
    rw [List.nodup_append]
    exact ⟨h.nodup, by simp, fun a ha b hb => by simp at hb; subst hb; exact fun e => hn (e ▸ ha)⟩
  inr := fun z hz => by rcases List.mem_append.1 hz with hz | hz; exact h.inr z hz; simp at hz; subst hz; exact hr
  start := by simp [h.start]
  rch := fun z hz => by rcases List.mem_append.1 hz with hz | hz; exact h.rch z hz; simp at hz; subst hz; exact .step (h.rch x h.here) (h.inr x h.here) hy
  todo := fun z hz => by rcases List.mem_append.1 hz with hz | hz; simp [h.todo z hz]; simp at hz; subst hz; simp
  here := by simp [h.here]
  done := fun z hz hnt hne u hu => by
    rcases List.mem_append.1 hz with hz | hz
    · exact List.mem_append_left _ (h.done z hz (fun e => hnt (by simp [e])) hne u hu)
    · simp at hz
      subst hz
      exact absurd (by simp) hnt
  pre := fun z hz => by rcases List.mem_append.1 hz with hz | hz; simp [h.pre z hz]; simp at hz; subst hz; simp
theorem SeekAt.all {gs : List (List Nd)} {g x : Int} {P S T : List Int} (h : SeekAt gs g x P S T) (hP : P = tg gs x) : SeekAll gs g S T :=
  ⟨h.toSeek, fun z hz hnt u hu => by
    by_cases e : z = x
    · subst e
      exact h.pre u (by rw [hP]; exact hu)
    · exact h.done z hz hnt e u hu⟩
theorem SeekAll.whole {gs : List (List Nd)} {g : Int} {S : List Int} (h : SeekAll gs g S []) : WholeP gs g := by
  have key : ∀ y, Rch gs g y → y ∈ S := by
    intro y hy
    induction hy with
    | base => exact h.start
    | step _ _ hy ih => exact h.done _ ih (by simp) _ hy
  exact fun y hy => h.inr y (key y hy)
theorem not_whole {gs : List (List Nd)} {g : Int} (h : ¬ inRg gs g) : ¬ WholeP gs g := fun hw => h (hw g .base)

end Go.Proofs.Ytliddjpcbhdplaa
