
/- Two schedulers with the law's own tasks beside each other. -/
import Derived.Test.YtenbmfhhmbfgoaaSchP
import Derived.Test.YtenbmfhhmbfgoaaSchCa
import Derived.Test.YtenbmfhhmbfgoaaSchCb
namespace Go.Proofs.Ytenbmfhhmbfgoaa
open Go.RowKit

structure DD (W0 : World) (ps : List Int) (s1 T1 : Nat) (Bs1 : List Nat) (c1 : DC) (A1 : SS) (G1 : Nat → Prop) (s2 T2 : Nat) (Bs2 : List Nat) (c2 : DC) (A2 : SS) (G2 : Nat → Prop) (ds1 ds2 : List (Value × List (Value × List Int × Int))) (w : World) : Prop where
  d1 : DO W0 s1 T1 ps Bs1 ds1 c1 A1 G1 w
  d2 : DO W0 s2 T2 ps Bs2 ds2 c2 A2 G2 w
  ap : ∀ k, G1 k → ¬ G2 k
section
variable {W0 w : World} {ps : List Int} {s1 T1 : Nat} {Bs1 : List Nat} {c1 : DC} {A1 : SS} {G1 : Nat → Prop} {s2 T2 : Nat} {Bs2 : List Nat} {c2 : DC} {A2 : SS} {G2 : Nat → Prop} {ds1 ds2 : List (Value × List (Value × List Int × Int))}
theorem DD.swap (h : DD W0 ps s1 T1 Bs1 c1 A1 G1 s2 T2 Bs2 c2 A2 G2 ds1 ds2 w) : DD W0 ps s2 T2 Bs2 c2 A2 G2 s1 T1 Bs1 c1 A1 G1 ds2 ds1 w := ⟨h.d2, h.d1, fun k a b => h.ap k b a⟩
theorem DD.keep {w' : World} (h : DD W0 ps s1 T1 Bs1 c1 A1 G1 s2 T2 Bs2 c2 A2 G2 ds1 ds2 w) (k : Kp w w') : DD W0 ps s1 T1 Bs1 c1 A1 G1 s2 T2 Bs2 c2 A2 G2 ds1 ds2 w' := ⟨h.d1.keep k, h.d2.keep k, h.ap⟩
theorem DD.go1 (h : DD W0 ps s1 T1 Bs1 c1 A1 G1 s2 T2 Bs2 c2 A2 G2 ds1 ds2 w) {n : Nat} (hn : Bs1.length = n) (hn2 : n < 128) (b : Nat) (Lv : Value) (l : List (Value × List Int × Int)) (tb : TB w b s1 T1 Lv 0) (nb1 : ¬ G1 b) (nb2 : ¬ G2 b) (hb0 : W0.heap.size ≤ b) (hl : DeedsAt W0 Lv l) (hsm : capD (ds1 ++ [(Lv, l)]) ≤ 100000) :
    Calls Try.prog 12 #[.pointer (some ⟨s1, 0, none⟩), taskF b] w fun e w' => e = .returned (.tuple #[.int .i64 (n : Int), .int .i64 0]) ∧ ∃ G1', DD W0 ps s1 T1 (Bs1 ++ [b]) ⟨c1.at_ ++ [0], c1.told⟩ (goS A1 (taskF b)) G1' s2 T2 Bs2 c2 A2 G2 (ds1 ++ [(Lv, l)]) ds2 w' ∧ Wd (Fo G1 b) G1' w w' := by
  refine (go_do h.d1 hn hn2 b Lv l tb nb1 hb0 hl hsm).mono ?_
  rintro e w' ⟨rfl, G1', d1', f⟩
  refine ⟨rfl, G1', ⟨d1', h.d2.wide f ?_ ?_, fun k a b => ?_⟩, f⟩
  · rintro k (e | e)
    · exact (h.d1.lt k e).2
    · rw [e]; exact hb0
  · rintro k a (e | e)
    · exact h.ap k e a
    · rw [e] at a; exact nb2 a
  · rcases f.new k a with (e | e) | e
    · exact h.ap k e b
    · rw [e] at b; exact nb2 b
    · have := (h.d2.lt k b).1; omega
theorem DD.run1 (h : DD W0 ps s1 T1 Bs1 c1 A1 G1 s2 T2 Bs2 c2 A2 G2 ds1 ds2 w) {most : Nat} (hm : most ≤ 1048576) :
    Calls Try.prog 15 #[.pointer (some ⟨s1, 0, none⟩), .int .i64 (most : Int)] w fun e w' => e = .returned (.tuple #[.int .i64 ((runF ps (stepD ds1) most (c1, A1)).1 : Int), .int .i64 (runF ps (stepD ds1) most (c1, A1)).2.1]) ∧ ∃ G1', DD W0 ps s1 T1 Bs1 (runF ps (stepD ds1) most (c1, A1)).2.2.1 (runF ps (stepD ds1) most (c1, A1)).2.2.2 G1' s2 T2 Bs2 c2 A2 G2 ds1 ds2 w' := by
  refine (run_do h.d1 hm).mono ?_
  rintro e w' ⟨rfl, G1', d1', f⟩
  refine ⟨rfl, G1', d1', h.d2.wide f (fun k e => (h.d1.lt k e).2) (fun k a e => h.ap k e a), fun k a b => ?_⟩
  rcases f.new k a with e | e
  · exact h.ap k e b
  · have := (h.d2.lt k b).1; omega
end

theorem EqS.go {A B : SS} (h : EqS A B) (f g : Value) : EqS (goS A f) (goS B g) := by
  have hl : A.ts.length = B.ts.length := by
    have := congrArg List.length h.ts
    simpa using this
  refine ⟨?_, h.wt, h.k, h.st, h.now, ?_⟩
  · show insL (A.ts.length : Int) A.ab = insL (B.ts.length : Int) B.ab
    rw [h.ab, hl]
  · show (A.ts ++ [(wrapF f, false)]).map Prod.snd = (B.ts ++ [(wrapF g, false)]).map Prod.snd
    rw [List.map_append, List.map_append, h.ts]
    rfl
theorem wakeS_k (A : SS) (id : Int) : (wakeS A id).2.k = A.k := by
  unfold wakeS
  split
  · rfl
  · split
    · rfl
    · rfl
theorem wakesS_k : ∀ (l : List Int) (A : SS), (wakesS A l).k = A.k
  | [], _ => rfl
  | u :: r, A => (wakesS_k r (wakeS A u).2).trans (wakeS_k A u)
theorem one_k (ps : List Int) (ds : List (Value × List (Value × List Int × Int))) (x : DC × SS) : (oneF ps (stepD ds) x).2.k = x.2.k + 1 := by
  unfold oneF stepD afterS
  rw [settle_k]
  show (wakesS _ _).k + 1 = _
  rw [wakesS_k]
theorem run_k (ps : List Int) (ds : List (Value × List (Value × List Int × Int))) : ∀ (a : Nat) (x : DC × SS), (runF ps (stepD ds) a x).2.2.2.k = x.2.k + (runF ps (stepD ds) a x).1
  | 0, _ => rfl
  | a + 1, x => by
    by_cases h0 : x.2.ab.length = 0
    · rw [runF_none h0]
      rfl
    · have e1 : runF ps (stepD ds) (a + 1) x = ((runF ps (stepD ds) a (oneF ps (stepD ds) x)).1 + 1, (runF ps (stepD ds) a (oneF ps (stepD ds) x)).2) := by
        conv => lhs; unfold runF
        rw [if_neg h0]
      rw [e1]
      show (runF ps (stepD ds) a (oneF ps (stepD ds) x)).2.2.2.k = x.2.k + ((runF ps (stepD ds) a (oneF ps (stepD ds) x)).1 + 1)
      rw [run_k ps ds a, one_k]
      omega
theorem PDp.kcap2 {W0 : World} {Bs : List Nat} {ds : List (Value × List (Value × List Int × Int))} {c : DC} {A : SS} (h : PDp W0 Bs ds c A) : A.k ≤ capD ds := by
  rw [h.sum]
  exact sum_le ds c.at_ (by rw [h.la, h.ld]) (fun i hi => h.ab i (by rw [← h.la]; exact hi))

/-- what is left of a run that was begun -/
structure Rest (ps : List Int) (ds : List (Value × List (Value × List Int × Int))) (n : Nat) (e : Int) (t : List Int) (m : Nat) (x : DC × SS) : Prop where
  hn : n = m + (runF ps (stepD ds) 5000 x).1
  he : e = (runF ps (stepD ds) 5000 x).2.1
  ht : t = (runF ps (stepD ds) 5000 x).2.2.1.told
  hlt : n < 5000
theorem Rest.cut {ps : List Int} {ds : List (Value × List (Value × List Int × Int))} {n : Nat} {e : Int} {t : List Int} {m : Nat} {x : DC × SS} (h : Rest ps ds n e t m x) (b : Nat) : Rest ps ds n e t (m + (runF ps (stepD ds) b x).1) (runF ps (stepD ds) b x).2.2 := by
  have hl : (runF ps (stepD ds) 5000 x).1 < 5000 := by have := h.hn; have := h.hlt; omega
  obtain ⟨h1, h2⟩ := run_cuts ps (stepD ds) 5000 b x hl
  exact ⟨by have := h.hn; omega, by rw [h.he, h2], by rw [h.ht, h2], h.hlt⟩

end Go.Proofs.Ytenbmfhhmbfgoaa
