
/- A scheduler and whoever keeps what is known in blocks of its own. -/
import Derived.Test.YtenbmfhhmbfgoaaSchP
namespace Go.Proofs.Ytenbmfhhmbfgoaa
open Go.RowKit

section
variable {γ : Type}
/-- what is known of the blocks X, whatever else turns -/
structure Keeps (W0 : World) (X : Nat → Prop) (I : γ → SS → World → Prop) : Prop where
  keep : ∀ c A w w', I c A w → Kp W0 w → Kp W0 w' → (∀ k, X k → w'.heap[k]? = w.heap[k]?) → I c A w'
structure PC (W0 : World) (X : Nat → Prop) (I : γ → SS → World → Prop) (c : γ) (A : SS) (F : Nat → Prop) (w : World) : Prop where
  kp : Kp W0 w
  fx : ∀ k, F k → W0.heap.size ≤ k ∧ ¬ X k
  i : I c A w
  xl : ∀ k, X k → k < w.heap.size
theorem PC.wide {W0 : World} {X : Nat → Prop} {I : γ → SS → World → Prop} (hI : Keeps W0 X I) {c : γ} {A : SS} {F F' : Nat → Prop} {w w' : World} (h : PC W0 X I c A F w) (d : Wd F F' w w') : PC W0 X I c A F' w' := by
  have k' := Wd.kp h.kp d (fun k e => (h.fx k e).1)
  refine ⟨k', fun k e => ?_, hI.keep c A w w' h.i h.kp k' (fun k e => d.block k (h.xl k e) (fun f => (h.fx k f).2 e)), fun k e => Nat.lt_of_lt_of_le (h.xl k e) d.size⟩
  rcases d.new k e with e | e
  · exact h.fx k e
  · exact ⟨Nat.le_trans h.kp.size e, fun x => by have := h.xl k x; omega⟩
/-- what the closure of a task has to do -/
def Closes (W0 : World) (X : Nat → Prop) (I : γ → SS → World → Prop) (s : Nat) (ps : List Int) (stepF : γ → SS → Nat → Int × γ × SS) : Prop :=
  ∀ c A F w, Sc w s F ps A → A.st = false → 0 < A.ab.length → PC W0 X I c A F w → ∀ i : Nat, (i : Int) = pickS ps A → (i : Int) ∈ A.ab → ∃ g first caps, (A.ts.getD i tk0).1 = wrapF (.func (.func g) first caps) ∧ (∀ args w, Sem.run Try.prog (callFunc g args) w = .ok (.enter g args) w) ∧
    ∀ w1, Sc w1 s F ps { A with st := true, now := (i : Int) } → PC W0 X I c A F w1 → Calls Try.prog g (first ++ caps) w1 fun e w2 =>
      e = .returned (.int .i64 (stepF c { A with st := true, now := (i : Int) } i).1) ∧
      ∃ F', Sc w2 s F' ps (stepF c { A with st := true, now := (i : Int) } i).2.2 ∧ (i : Int) ∈ (stepF c { A with st := true, now := (i : Int) } i).2.2.ab ∧ (stepF c { A with st := true, now := (i : Int) } i).2.2.k ≤ 1000000000000 ∧
        PC W0 X I (stepF c { A with st := true, now := (i : Int) } i).2.1 (afterS (stepF c { A with st := true, now := (i : Int) } i).2.2 i (stepF c { A with st := true, now := (i : Int) } i).1) F' w2
theorem Closes.steps {W0 : World} {X : Nat → Prop} {I : γ → SS → World → Prop} (hI : Keeps W0 X I) {s : Nat} {ps : List Int} {stepF : γ → SS → Nat → Int × γ × SS} (h : Closes W0 X I s ps stepF) : Steps s ps stepF (PC W0 X I) := by
  intro c A F w hs hst h0 hp
  have hpk := pick_in (ps := ps) h0
  have hpb := hs.ok.abb _ hpk
  obtain ⟨i, hi⟩ : ∃ i, (pickS ps A).toNat = i := ⟨_, rfl⟩
  have hiI : (i : Int) = pickS ps A := by omega
  have hone : oneF ps stepF (c, A) = ((stepF c { A with st := true, now := (i : Int) } i).2.1, afterS (stepF c { A with st := true, now := (i : Int) } i).2.2 i (stepF c { A with st := true, now := (i : Int) } i).1) := by
    unfold oneF
    simp only [hi]
  rw [hi, hone]
  obtain ⟨g, first, caps, hf, hcall, hc⟩ := h c A F w hs hst h0 hp i hiI (by rw [hiI]; exact hpk)
  refine ⟨_, hf, fun w1 hs1 d1 => ?_⟩
  refine (guard_any g first caps (fun r w2 => r = (stepF c { A with st := true, now := (i : Int) } i).1 ∧ ∃ F', Sc w2 s F' ps (stepF c { A with st := true, now := (i : Int) } i).2.2 ∧ (i : Int) ∈ (stepF c { A with st := true, now := (i : Int) } i).2.2.ab ∧ (stepF c { A with st := true, now := (i : Int) } i).2.2.k ≤ 1000000000000 ∧
        PC W0 X I (stepF c { A with st := true, now := (i : Int) } i).2.1 (afterS (stepF c { A with st := true, now := (i : Int) } i).2.2 i (stepF c { A with st := true, now := (i : Int) } i).1) F' w2) w1 hcall ((hc w1 hs1 (hp.wide hI d1)).mono ?_)).mono ?_
  · rintro e w2 ⟨rfl, r⟩
    exact ⟨_, rfl, rfl, r⟩
  · rintro e w2 ⟨r, rfl, rfl, F', q1, q2, q3, q4⟩
    exact ⟨rfl, F', q1, q2, q3, fun F'' w3 _ d3 => q4.wide hI d3⟩
/-- between two Runs -/
structure CO (W0 : World) (X : Nat → Prop) (I : γ → SS → World → Prop) (s : Nat) (ps : List Int) (c : γ) (A : SS) (w : World) : Prop where
  st : A.st = false
  at_ : ∃ F, Sc w s F ps A ∧ PC W0 X I c A F w
theorem run_co {W0 : World} {X : Nat → Prop} {I : γ → SS → World → Prop} (hI : Keeps W0 X I) {s : Nat} {ps : List Int} {stepF : γ → SS → Nat → Int × γ × SS} (hC : Closes W0 X I s ps stepF) {c : γ} {A : SS} {w : World} (h : CO W0 X I s ps c A w) {most : Nat} (hm : most ≤ 1048576) :
    Calls Try.prog 15 #[.pointer (some ⟨s, 0, none⟩), .int .i64 (most : Int)] w fun e w' => e = .returned (.tuple #[.int .i64 ((runF ps stepF most (c, A)).1 : Int), .int .i64 (runF ps stepF most (c, A)).2.1]) ∧ CO W0 X I s ps (runF ps stepF most (c, A)).2.2.1 (runF ps stepF most (c, A)).2.2.2 w' := by
  obtain ⟨F, sc, p⟩ := h.at_
  refine (run_any s ps stepF (PC W0 X I) c A F most w sc h.st p hm (fun _ _ _ _ _ _ h d => h.wide hI d) (hC.steps hI)).mono ?_
  rintro e w' ⟨rfl, F', sc', p', st'⟩
  exact ⟨rfl, st', F', sc', p'⟩
theorem go_co {W0 : World} {X : Nat → Prop} {I : γ → SS → World → Prop} (hI : Keeps W0 X I) {s : Nat} {ps : List Int} {c : γ} {A : SS} {w : World} (h : CO W0 X I s ps c A w) {n : Nat} (hn : A.ts.length = n) (hn2 : n < 128) (g : Nat) (first caps : Array Value) (hi : ∀ w', I c A w' → I c (goS A (.func (.func g) first caps)) w') :
    Calls Try.prog 12 #[.pointer (some ⟨s, 0, none⟩), .func (.func g) first caps] w fun e w' => e = .returned (.tuple #[.int .i64 (n : Int), .int .i64 0]) ∧ CO W0 X I s ps c (goS A (.func (.func g) first caps)) w' := by
  subst hn
  obtain ⟨F, sc, p⟩ := h.at_
  refine (go_any s F ps A g first caps w sc hn2).mono ?_
  rintro e w' ⟨rfl, F', sc', d⟩
  have p' := p.wide hI d
  exact ⟨rfl, h.st, F', sc', p'.kp, p'.fx, hi _ p'.i, p'.xl⟩
theorem wake_co {W0 : World} {X : Nat → Prop} {I : γ → SS → World → Prop} (hI : Keeps W0 X I) {s : Nat} {ps : List Int} {c : γ} {A : SS} {w : World} (h : CO W0 X I s ps c A w) (id : Int) (hi : ∀ w', I c A w' → I c (wakeS A id).2 w') :
    Calls Try.prog 21 #[.pointer (some ⟨s, 0, none⟩), .int .i64 id] w fun e w' => e = .returned (.bool (wakeS A id).1) ∧ CO W0 X I s ps c (wakeS A id).2 w' := by
  obtain ⟨F, sc, p⟩ := h.at_
  refine (wake_any s F ps A id w sc).mono ?_
  rintro e w' ⟨rfl, F', sc', d⟩
  have p' := p.wide hI d
  exact ⟨rfl, by rw [(Wk.wake sc.ok id).st]; exact h.st, F', sc', p'.kp, p'.fx, hi _ p'.i, p'.xl⟩
theorem CO.keep {W0 : World} {X : Nat → Prop} {I : γ → SS → World → Prop} (hI : Keeps W0 X I) {s : Nat} {ps : List Int} {c : γ} {A : SS} {w w' : World} (h : CO W0 X I s ps c A w) (k : Kp w w') : CO W0 X I s ps c A w' := by
  obtain ⟨F, sc, p⟩ := h.at_
  exact ⟨h.st, F, sc.keep k, p.wide hI (Wd.of_kp k)⟩
theorem CO.i {W0 : World} {X : Nat → Prop} {I : γ → SS → World → Prop} {s : Nat} {ps : List Int} {c : γ} {A : SS} {w : World} (h : CO W0 X I s ps c A w) : I c A w ∧ Kp W0 w := by
  obtain ⟨F, sc, p⟩ := h.at_
  exact ⟨p.i, p.kp⟩
theorem open_co {W0 : World} {X : Nat → Prop} {I : γ → SS → World → Prop} (hI : Keeps W0 X I) {s : Nat} {ps : List Int} {c : γ} {A : SS} {w : World} (h : CO W0 X I s ps c A w) :
    Calls Try.prog 17 #[.pointer (some ⟨s, 0, none⟩)] w fun e w' => e = .returned (.int .i64 ((A.ab.length : Int) + (A.wt.length : Int))) ∧ CO W0 X I s ps c A w' := by
  obtain ⟨F, sc, p⟩ := h.at_
  refine (open_any s F ps A w sc).mono ?_
  rintro e w' ⟨rfl, k⟩
  exact ⟨rfl, h.keep hI k⟩
theorem now_co {W0 : World} {X : Nat → Prop} {I : γ → SS → World → Prop} {s : Nat} {ps : List Int} {c : γ} {A : SS} {w : World} (h : CO W0 X I s ps c A w) :
    Calls Try.prog 19 #[.pointer (some ⟨s, 0, none⟩)] w fun e w' => e = .returned (.int .i64 (-1)) ∧ w' = w := by
  obtain ⟨F, sc, p⟩ := h.at_
  have := now_any s F ps A w sc
  rw [h.st] at this
  exact this
theorem waiting_co {W0 : World} {X : Nat → Prop} {I : γ → SS → World → Prop} (hI : Keeps W0 X I) {s : Nat} {ps : List Int} {c : γ} {A : SS} {w : World} (h : CO W0 X I s ps c A w) :
    Calls Try.prog 20 #[.pointer (some ⟨s, 0, none⟩)] w fun e w' => ∃ u, e = .returned u ∧ Ints w' u A.wt ∧ CO W0 X I s ps c A w' ∧ Kp w w' := by
  obtain ⟨F, sc, p⟩ := h.at_
  refine (waiting_any s F ps A w sc).mono ?_
  rintro e w' ⟨u, rfl, hu, k⟩
  exact ⟨u, rfl, hu, h.keep hI k, k⟩
end

/-- what Run refuses -/
theorem run_refuses (s : Nat) (F : Nat → Prop) (ps : List Int) (A : SS) (most : Int) (w : World) (h : Sc w s F ps A) (hst : A.st = false) (hm : most < 0 ∨ 1048576 < most) :
    Calls Try.prog 15 #[.pointer (some ⟨s, 0, none⟩), .int .i64 most] w fun e w' => e = .returned (.tuple #[.int .i64 0, .int .i64 1]) ∧ w' = w := by
  obtain ⟨pv, tv, av, wv, v⟩ := h.opn
  obtain ⟨-, -, -, -, -, c5, -⟩ := v.sb.cells
  rw [hst] at c5
  clear h v
  by_cases hn : most < 0
  · go_enter Try.func15, Try.ntmps15
    go_wp2_with fail
    go_ret2
    exact ⟨rfl, rfl⟩
  · have h2 : 1048576 < most := by omega
    have h3 : ¬ most < 0 := hn
    clear hm
    go_enter Try.func15, Try.ntmps15
    go_wp2_with fail
    go_ret2
    exact ⟨rfl, rfl⟩

theorem delL_length {xs : List Int} {t : Int} (h : hasL xs t = true) : (delL t xs).length + 1 = xs.length := by
  unfold hasL at h
  simp at h
  unfold delL
  simp
  omega

end Go.Proofs.Ytenbmfhhmbfgoaa
