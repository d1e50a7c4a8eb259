
/- A scheduler with the law's own tasks, all of its memory in one set: New, Go, Wake, Run. -/
import Derived.Test.YtenbmfhhmbfgoaaSchN
namespace Go.Proofs.Ytenbmfhhmbfgoaa
open Go.RowKit

structure DO (W0 : World) (s T : Nat) (ps : List Int) (Bs : List Nat) (ds : List (Value × List (Value × List Int × Int))) (c : DC) (A : SS) (G : Nat → Prop) (w : World) : Prop where
  st : A.st = false
  kp : Kp W0 w
  p : PDp W0 Bs ds c A
  at_ : ∃ F tv, Sc w s F ps A ∧ PDm w G W0 s T Bs ds c F w tv ∧ ∀ k, G k ↔ GD F T Bs tv k

theorem DO.of {W0 : World} {s T : Nat} {ps : List Int} {Bs : List Nat} {ds : List (Value × List (Value × List Int × Int))} {c : DC} {A : SS} {G : Nat → Prop} {w w' : World} (h : DO W0 s T ps Bs ds c A G w) (hb : ∀ k, G k → w'.heap[k]? = w.heap[k]?) (hs : w.heap.size ≤ w'.heap.size) (k0 : Kp W0 w') : DO W0 s T ps Bs ds c A G w' := by
  obtain ⟨F, tv, sc, m, hG⟩ := h.at_
  refine ⟨h.st, k0, h.p, F, tv, sc.of (fun k e => hb k ((hG k).2 (.inl e))) hs, ⟨boxed_of m.bx (hb T ((hG T).2 (.inr (.inl rfl)))), own_same m.ow (fun k e => hb k ((hG k).2 (.inr (.inr (.inl e))))), fun i hi => (m.tb i hi).of (hb _ ((hG _).2 (.inr (.inr (.inr (getD_mem hi)))))), m.nT, m.nv, m.nb, ?_, m.new⟩, hG⟩
  exact (Wd.refl G w').mono (fun _ e => e) (fun k e => .inl ((hG k).2 e))
theorem DO.keep {W0 : World} {s T : Nat} {ps : List Int} {Bs : List Nat} {ds : List (Value × List (Value × List Int × Int))} {c : DC} {A : SS} {G : Nat → Prop} {w w' : World} (h : DO W0 s T ps Bs ds c A G w) (k : Kp w w') : DO W0 s T ps Bs ds c A G w' := by
  have h' := h
  obtain ⟨F, tv, sc, m, hG⟩ := h.at_
  refine h'.of (fun q e => k.block q ?_) k.size (h'.kp.trans k)
  rcases (hG q).1 e with e | e | e | e
  · exact sc.fb q e
  · rw [e]; exact m.bx.lt
  · exact (World.ownsRow.lt m.ow q e).2
  · obtain ⟨i, hi, rfl⟩ := getD_mem' e
    exact (m.tb i hi).lt
theorem DO.lt {W0 : World} {s T : Nat} {ps : List Int} {Bs : List Nat} {ds : List (Value × List (Value × List Int × Int))} {c : DC} {A : SS} {G : Nat → Prop} {w : World} (h : DO W0 s T ps Bs ds c A G w) (q : Nat) (e : G q) : q < w.heap.size ∧ W0.heap.size ≤ q := by
  obtain ⟨F, tv, sc, m, hG⟩ := h.at_
  refine ⟨?_, m.new q ((hG q).1 e)⟩
  rcases (hG q).1 e with e | e | e | e
  · exact sc.fb q e
  · rw [e]; exact m.bx.lt
  · exact (World.ownsRow.lt m.ow q e).2
  · obtain ⟨i, hi, rfl⟩ := getD_mem' e
    exact (m.tb i hi).lt
/-- other memory may be written -/
theorem DO.wide {W0 : World} {s T : Nat} {ps : List Int} {Bs : List Nat} {ds : List (Value × List (Value × List Int × Int))} {c : DC} {A : SS} {G H H' : Nat → Prop} {w w' : World} (h : DO W0 s T ps Bs ds c A G w) (d : Wd H H' w w') (hH : ∀ k, H k → W0.heap.size ≤ k) (n : ∀ k, G k → ¬ H k) : DO W0 s T ps Bs ds c A G w' :=
  h.of (fun q e => d.block q (h.lt q e).1 (n q e)) d.size (Wd.kp h.kp d hH)
theorem DO.grown {W0 : World} {s T : Nat} {ps : List Int} {Bs : List Nat} {ds : List (Value × List (Value × List Int × Int))} {c : DC} {A : SS} {G : Nat → Prop} {w w' : World} (h : DO W0 s T ps Bs ds c A G w) {g : Option Nat} (k : w.grownBy w' g) (hg : ∀ q, g = some q → W0.heap.size ≤ q ∧ ¬ G q) : DO W0 s T ps Bs ds c A G w' :=
  h.wide (H := fun q => g = some q) (H' := fun q => g = some q) ⟨k.os, k.tape, k.output, k.size, fun i hi n => k.block i hi (fun e => n e.symm), fun _ e => .inl e⟩ (fun q e => (hg q e).1) (fun q e e2 => (hg q e2).2 e)

theorem DO.start {W0 w : World} {s T : Nat} {ps : List Int} {F : Nat → Prop} (k0 : Kp W0 w) (sc : Sc w s F ps newS) (hF : ∀ k, F k → W0.heap.size ≤ k) (bx : Boxed w T 31 (.slice none 0 0)) (nT : ¬ F T) (hT : W0.heap.size ≤ T) : DO W0 s T ps [] [] ⟨[], []⟩ newS (GD F T [] (.slice none 0 0)) w :=
  ⟨rfl, k0, ⟨List.nodup_nil, rfl, rfl, rfl, (by intro i hi; simp at hi), (by intro i hi; simp at hi), rfl, rfl, (by intro i hi; simp at hi), by simp [capD]⟩, F, .slice none 0 0, sc, ⟨bx, World.ownsRow_nil _ _ _ _, (by intro i hi; simp at hi), nT, (by intro k e; cases e), (by intro i hi; simp at hi), Wd.refl _ _, by
    rintro k (e | e | e | e)
    · exact hF k e
    · rw [e]; exact hT
    · cases e
    · cases e⟩, fun _ => Iff.rfl⟩

theorem getD_snoc {α : Type} {l : List α} {x z : α} {i : Nat} (h : i < l.length + 1) : (l ++ [x]).getD i z = if i = l.length then x else l.getD i z := by
  by_cases e : i = l.length
  · subst e
    rw [if_pos rfl]
    simp [List.getD]
  · rw [if_neg e]
    have : i < l.length := by omega
    rw [List.getD_eq_getElem?_getD, List.getElem?_append_left this, ← List.getD_eq_getElem?_getD]

set_option maxHeartbeats 1000000 in
theorem go_do {W0 : World} {s T : Nat} {ps : List Int} {Bs : List Nat} {ds : List (Value × List (Value × List Int × Int))} {c : DC} {A : SS} {G : Nat → Prop} {w : World} (h : DO W0 s T ps Bs ds c A G w) {n : Nat} (hn : Bs.length = n) (hn2 : n < 128) (b : Nat) (Lv : Value) (l : List (Value × List Int × Int)) (tb : TB w b s T Lv 0) (nb : ¬ G b) (hb0 : W0.heap.size ≤ b) (hl : DeedsAt W0 Lv l) (hsm : capD (ds ++ [(Lv, l)]) ≤ 100000) :
    Calls Try.prog 12 #[.pointer (some ⟨s, 0, none⟩), taskF b] w fun e w' => e = .returned (.tuple #[.int .i64 (n : Int), .int .i64 0]) ∧ ∃ G', DO W0 s T ps (Bs ++ [b]) (ds ++ [(Lv, l)]) ⟨c.at_ ++ [0], c.told⟩ (goS A (taskF b)) G' w' ∧ Wd (Fo G b) G' w w' := by
  subst hn
  have h' := h
  obtain ⟨F, tv, sc, m, hG⟩ := h.at_
  have p := h.p
  refine (go_any s F ps A 13 #[.pointer (some ⟨b, 0, none⟩)] #[] w sc (by rw [p.ln]; exact hn2)).mono ?_
  rintro e w' ⟨rfl, F', sc', d⟩
  have bT : b ≠ T := fun e => nb ((hG b).2 (.inr (.inl e)))
  have nbF : ¬ F b := fun e => nb ((hG b).2 (.inl e))
  have old : ∀ k, k < w.heap.size → ¬ F k → ¬ F' k := fun k hk n e => by
    rcases d.new k e with e | e
    · exact n e
    · omega
  have hG' : ∀ k, GD F' T (Bs ++ [b]) tv k → Fo G b k ∨ w.heap.size ≤ k := by
    rintro k (e | e | e | e)
    · rcases d.new k e with e | e
      · exact .inl (.inl ((hG k).2 (.inl e)))
      · exact .inr e
    · exact .inl (.inl ((hG k).2 (.inr (.inl e))))
    · exact .inl (.inl ((hG k).2 (.inr (.inr (.inl e)))))
    · rcases List.mem_append.1 e with e | e
      · exact .inl (.inl ((hG k).2 (.inr (.inr (.inr e)))))
      · exact .inl (.inr (List.mem_singleton.1 e))
  have hlen : (Bs ++ [b]).length = Bs.length + 1 := by simp
  have la := p.la
  have ld := p.ld
  have lt := p.ln
  refine ⟨by rw [p.ln], GD F' T (Bs ++ [b]) tv, ⟨h.st, Wd.kp h.kp d (fun k e => (h'.lt k ((hG k).2 (.inl e))).2), ⟨?_, ?_, ?_, ?_, ?_, ?_, ?_, ?_, ?_, hsm⟩, F', tv, sc', ⟨boxed_of m.bx (d.block T m.bx.lt m.nT), own_same m.ow (fun k e => d.block k (World.ownsRow.lt m.ow k e).2 (m.nv k e)), ?_, old T m.bx.lt m.nT, fun k e => old k (World.ownsRow.lt m.ow k e).2 (m.nv k e), ?_, Wd.refl _ _, ?_⟩, fun _ => Iff.rfl⟩, ?_⟩
  · refine List.nodup_append.2 ⟨p.nd, by simp, ?_⟩
    intro x hx y hy e
    rw [List.mem_singleton.1 hy] at e
    exact nb ((hG b).2 (.inr (.inr (.inr (e ▸ hx)))))
  · show (A.ts ++ [_]).length = _
    simp [p.ln]
  · show (c.at_ ++ [0]).length = _
    simp [p.la]
  · simp [p.ld]
  · intro i hi hx
    rw [hlen] at hi
    show ((A.ts ++ [_]).getD i tk0).1 = _ ∧ (c.at_ ++ [0]).getD i 0 ≤ _
    rw [getD_snoc (by omega), getD_snoc (by omega), getD_snoc (by omega), getD_snoc (by omega), p.ln, la, ld]
    by_cases hib : i = Bs.length
    · rw [if_pos hib, if_pos hib, if_pos hib, if_pos hib]
      exact ⟨rfl, Nat.zero_le _⟩
    · rw [if_neg hib, if_neg hib, if_neg hib, if_neg hib]
      refine p.fn i (by omega) ?_
      rcases hx with hx | hx
      · rcases insL_mem.1 hx with e | e
        · rw [p.ln] at e; omega
        · exact .inl e
      · exact .inr hx
  · intro i hi
    rw [hlen] at hi
    show (c.at_ ++ [0]).getD i 0 ≤ _
    rw [getD_snoc (by omega), getD_snoc (by omega), la, ld]
    by_cases hib : i = Bs.length
    · rw [if_pos hib, if_pos hib]; omega
    · rw [if_neg hib, if_neg hib]
      exact p.ab i (by omega)
  · show A.k = (c.at_ ++ [0]).sum
    rw [List.sum_append, p.sum]
    simp
  · exact p.tl
  · intro i hi
    rw [hlen] at hi
    rw [getD_snoc (by omega), ld]
    by_cases hib : i = Bs.length
    · rw [if_pos hib]; exact hl
    · rw [if_neg hib]; exact p.dd i (by omega)
  · intro i hi
    rw [hlen] at hi
    show TB w' _ s T _ ((c.at_ ++ [0]).getD i 0)
    rw [getD_snoc (by omega), getD_snoc (by omega), getD_snoc (by omega), la, ld]
    by_cases hib : i = Bs.length
    · rw [if_pos hib, if_pos hib, if_pos hib]
      exact tb.of (d.block b tb.lt nbF)
    · rw [if_neg hib, if_neg hib, if_neg hib]
      exact (m.tb i (by omega)).of (d.block _ (m.tb i (by omega)).lt (m.nb i (by omega)))
  · intro i hi
    rw [hlen] at hi
    rw [getD_snoc (by omega)]
    by_cases hib : i = Bs.length
    · rw [if_pos hib]; exact old b tb.lt nbF
    · rw [if_neg hib]; exact old _ (m.tb i (by omega)).lt (m.nb i (by omega))
  · intro k e
    rcases hG' k e with (e | e) | e
    · exact (h'.lt k e).2
    · rw [e]; exact hb0
    · exact Nat.le_trans h.kp.size e
  · exact d.mono (fun k e => .inl ((hG k).2 (.inl e))) (fun k e => by
      rcases hG' k e with e | e
      · exact .inr (.inl e)
      · exact .inr (.inr e))

theorem wake_do {W0 : World} {s T : Nat} {ps : List Int} {Bs : List Nat} {ds : List (Value × List (Value × List Int × Int))} {c : DC} {A : SS} {G : Nat → Prop} {w : World} (h : DO W0 s T ps Bs ds c A G w) (id : Int) :
    Calls Try.prog 21 #[.pointer (some ⟨s, 0, none⟩), .int .i64 id] w fun e w' => e = .returned (.bool (wakeS A id).1) ∧ ∃ G', DO W0 s T ps Bs ds c (wakeS A id).2 G' w' ∧ Wd G G' w w' := by
  obtain ⟨F, tv, sc, m, hG⟩ := h.at_
  have p := h.p
  refine (wake_any s F ps A id w sc).mono ?_
  rintro e w' ⟨rfl, F', sc', d⟩
  have wk := Wk.wake sc.ok id
  have hp : PD w G W0 s T Bs ds c A F w := ⟨h.kp, p, tv, m⟩
  obtain ⟨k1, p1, tv1, m1⟩ := hp.wide d
  refine ⟨rfl, GD F' T Bs tv1, ⟨by rw [wk.st]; exact h.st, k1, ⟨p.nd, by rw [wk.len]; exact p.ln, p.la, p.ld, fun i hi hx => ?_, p.ab, by rw [wk.k]; exact p.sum, by rw [wk.k]; exact p.tl, p.dd, p.sm⟩, F', tv1, sc', ⟨m1.bx, m1.ow, m1.tb, m1.nT, m1.nv, m1.nb, Wd.refl _ _, m1.new⟩, fun _ => Iff.rfl⟩, m1.fr⟩
  rw [wk.fn]
  exact p.fn i hi (wk.un _ hx)

theorem run_do {W0 : World} {s T : Nat} {ps : List Int} {Bs : List Nat} {ds : List (Value × List (Value × List Int × Int))} {c : DC} {A : SS} {G : Nat → Prop} {w : World} (h : DO W0 s T ps Bs ds c A G w) {most : Nat} (hm : most ≤ 1048576) :
    Calls Try.prog 15 #[.pointer (some ⟨s, 0, none⟩), .int .i64 (most : Int)] w fun e w' => e = .returned (.tuple #[.int .i64 ((runF ps (stepD ds) most (c, A)).1 : Int), .int .i64 (runF ps (stepD ds) most (c, A)).2.1]) ∧ ∃ G', DO W0 s T ps Bs ds (runF ps (stepD ds) most (c, A)).2.2.1 (runF ps (stepD ds) most (c, A)).2.2.2 G' w' ∧ Wd G G' w w' := by
  obtain ⟨F, tv, sc, m, hG⟩ := h.at_
  refine (run_any s ps (stepD ds) (PD w G W0 s T Bs ds) c A F most w sc h.st ⟨h.kp, h.p, tv, m⟩ hm (fun _ _ _ _ _ _ h d => h.wide d) (steps_deeds w G W0 s T ps Bs ds)).mono ?_
  rintro e w' ⟨rfl, F', sc', ⟨k1, p1, tv1, m1⟩, st'⟩
  exact ⟨rfl, GD F' T Bs tv1, ⟨st', k1, p1, F', tv1, sc', ⟨m1.bx, m1.ow, m1.tb, m1.nT, m1.nv, m1.nb, Wd.refl _ _, m1.new⟩, fun _ => Iff.rfl⟩, m1.fr⟩

/-- what was told reads so -/
theorem DO.told {W0 : World} {s T : Nat} {ps : List Int} {Bs : List Nat} {ds : List (Value × List (Value × List Int × Int))} {c : DC} {A : SS} {G : Nat → Prop} {w : World} (h : DO W0 s T ps Bs ds c A G w) : ∃ a cap, w.cell? ⟨T, 0, none⟩ = some (.slice a c.told.length cap) ∧ (0 < c.told.length → ∃ g, a = some ⟨g, 0, none⟩ ∧ ∀ i, i < c.told.length → w.cell? ⟨g, i, none⟩ = some (.int .i64 (c.told.getD i 0))) := by
  obtain ⟨F, tv, sc, m, hG⟩ := h.at_
  obtain ⟨a, cap, rfl, hg⟩ := m.ow.shape
  refine ⟨a, cap, m.bx.cell, fun h0 => ?_⟩
  obtain ⟨g, rfl, _⟩ := hg h0
  exact ⟨g, rfl, fun i hi => m.ow.cell rfl hi⟩

end Go.Proofs.Ytenbmfhhmbfgoaa
