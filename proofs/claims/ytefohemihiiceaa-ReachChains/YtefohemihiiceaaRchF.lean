
/- A range over a function whose rounds all go on, where the iterator is told what the caller's cells hold: a law of our own, out of the library's steps; the rows of bools that a call makes. -/
import Derived.Test.YtefohemihiiceaaGrC
import Derived.Test.YtefohemihiiceaaRchP
namespace Go.Proofs.Ytefohemihiiceaa
open Go.RowKit Go.Shelf

/-- the post of a round's body that only goes on -/
def goesOn (W : World) (R : World → Prop) : Exit → Act → World → Prop
  | .normal, _, W' => KeepsOthers W W' ∧ R W'
  | _, _, _ => False

theorem told_range {F : Fence} {n : Nat} {P : Program} {g : Operand} {ps : Array Tmp} {assign body : Code} {Q : Exit → Act → World → Prop} {a : Act} {w : World} (hro : F.round = none) (h1 : 1 ≤ n) {gf : Nat} {lb : Array Value}
    (hg : a.eval g = .func (.func gf) #[] lb) (hFg : F.fn gf) (eg : ∀ args w, (callFunc gf args).run P w = .ok (.enter gf args) w)
    {ι : Type} (enc : ι → Array Value) (hps : ∀ i, (enc i).size = ps.size) (T T' : World → Prop) (S S' : ι → World → Prop) (Sx : ι → Act → World → Prop)
    (hit : ∀ (l : Nat) (A : World → Prop), (∀ i W, S i W → A W → YieldAt F (n - 1 - 1) P l (enc i) W fun e W' => e = .returned (.bool true) ∧ S' i W' ∧ A W') → ∀ W, T W → A W →
      CallsIn F (n - 1) P gf (#[.func (.yield l) #[] #[]] ++ lb) W fun e W' => (∃ v, e = .returned v) ∧ T' W' ∧ A W')
    (h0 : ∀ o r, T ((w.alloc (.deferred o)).alloc (.loop r)))
    (hx : ∀ i a' W l r r', w.heap.size ≤ l → W.heap[l]? = some (.loop r) → Sx i a' W → Sx i a' (W.putObj l (.loop r')))
    (hs' : ∀ i W l r r', w.heap.size ≤ l → W.heap[l]? = some (.loop r) → S' i W → S' i (W.putObj l (.loop r')))
    (ht' : ∀ W l r r', w.heap.size ≤ l → W.heap[l]? = some (.loop r) → T' W → T' (W.putObj l (.loop r')))
    (hassign : ∀ (l : Nat) (i : ι) (W : World) (K : Act → World → Prop), S i W → (∀ a' W', KeepsOthers W W' → Sx i a' W' → K a' W') →
      assign.wpIn (F.inRound l) (n - 1 - 1) P (Exit.then K (fun _ _ _ => False)) { tmps := (ps.zip (enc i)).foldl (fun t (p, v) => t.setIfInBounds p v) a.tmps, defers := [] } W)
    (hbody : ∀ (l : Nat) (i : ι) (a' : Act) (W : World), Sx i a' W → body.wpIn (F.inRound l) (n - 1 - 1) P (goesOn W (S' i)) a' W)
    (hdone : ∀ (D : Nat) (W : World), w.heap.size ≤ D → T' W → W.heap[D]? = some (.deferred (some [])) → Q .normal { a with defers := { target := .collected D, args := #[] } :: a.defers } W) :
    (Code.rangeFunc g ps assign body).wpIn F n P Q a w := by
  refine wpIn_rangeFunc fun fn hfn => ?_
  rw [hro]
  -- the record and what lies where when the loop has been entered
  let rc : LoopState → Loop := fun st => { state := st, pending := none, fn, tmps := a.tmps, params := ps, assign, body, defers := w.heap.size }
  have hL : ((w.alloc (.deferred (some []))).alloc (.loop (rc .ready))).heap[w.heap.size + 1]? = some (.loop (rc .ready)) := by
    have := World.alloc_heap_new (w.alloc (.deferred (some []))) (.loop (rc .ready))
    rwa [World.size_alloc] at this
  have hD : ((w.alloc (.deferred (some []))).alloc (.loop (rc .ready))).heap[w.heap.size]? = some (.deferred (some [])) :=
    (Below.heap_alloc _ _ _ (by simp)).trans (World.alloc_heap_new w _)
  let A : World → Prop := fun W => W.heap[w.heap.size + 1]? = some (.loop (rc .ready)) ∧ W.heap[w.heap.size]? = some (.deferred (some []))
  have hE := run_enterLoop_outer (P := P) (w := w) fn a.tmps ps assign body
  have hT0 := h0 (some []) (rc .ready)
  change (Instr.enterLoop fn a.tmps ps assign body none).run P w = .ok _ ((w.alloc (.deferred (some []))).alloc (.loop (rc .ready))) at hE
  generalize (w.alloc (.deferred (some []))).alloc (.loop (rc .ready)) = W1 at hE hT0 hL hD
  refine ⟨w.heap.size + 1, [{ target := .collected w.heap.size, args := #[] }], W1, { target := .fn (.func gf) lb, args := #[.func (.yield (w.heap.size + 1)) #[] #[]] }, W1, gf,
    #[.func (.yield (w.heap.size + 1)) #[] #[]] ++ lb, W1, hE, ?_, ?_, ?_, fun _ => h1, ?_⟩
  · simp only [resolve, hg]
    simp [go_sem]
  · intro f' hf'
    simp [Target.leads] at hf'
    subst hf'
    exact hFg
  · simp [invoke, go_sem, eg]
  refine (hit (w.heap.size + 1) A ?_ _ hT0 ⟨hL, hD⟩).mono ?_
  · -- a round
    rintro i W hS ⟨hl, hd⟩
    have hy := run_yield (P := P) (args := enc i) hl (hps i)
    refine ⟨fn, _, assign, body, hy, roundIn_of_wpIn hfn (hassign _ i W _ hS fun a' Wa hk hX => ?_)⟩
    have hla := hk.same _ _ hl rfl
    have hda := hk.same _ _ hd rfl
    have hlt := (Array.getElem?_eq_some_iff.1 hla).1
    refine ⟨_, run_beginRound hla rfl, wpIn_mono (hbody _ i a' _ (hx i a' Wa _ _ _ (by omega) hla hX)) ?_⟩
    have hlb : (Wa.putObj (w.heap.size + 1) (.loop (rc .busy))).heap[w.heap.size + 1]? = some (.loop (rc .busy)) := World.putObj_heap_same hlt
    have hdb : (Wa.putObj (w.heap.size + 1) (.loop (rc .busy))).heap[w.heap.size]? = some (.deferred (some [])) := (World.putObj_heap_other (by omega)).trans hda
    rintro e a3 W3 hp
    cases e with
    | normal =>
      obtain ⟨hk3, h3⟩ := hp
      have hl3 := hk3.same _ _ hlb rfl
      have hd3 := hk3.same _ _ hdb rfl
      exact ⟨_, _, run_endRound (P := P) none hl3, rfl, hs' i W3 _ _ _ (by omega) hl3 h3, World.putObj_heap_same (Array.getElem?_eq_some_iff.1 hl3).1, (World.putObj_heap_other (by omega)).trans hd3⟩
    | ret => exact hp.elim
    | exit id => exact hp.elim
    | goto t => exact hp.elim
    | panic ch => exact hp.elim
    | outgrown => exact hp.elim
  · -- behind it
    rintro e W2 ⟨⟨v, rfl⟩, ht, hl, hd⟩
    exact ⟨none, _, run_endLoop (P := P) hl (by simp [rc]), hdone _ _ (Nat.le_refl _) (ht' W2 _ _ _ (by omega) hl ht) ((World.putObj_heap_other (by omega)).trans hd)⟩

end Go.Proofs.Ytefohemihiiceaa
