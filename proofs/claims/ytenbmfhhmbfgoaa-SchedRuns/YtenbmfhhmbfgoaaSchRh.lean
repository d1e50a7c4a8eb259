
/- The document's scheduler between two steps. -/
import Derived.Test.YtenbmfhhmbfgoaaSchRg
namespace Go.Proofs.Ytenbmfhhmbfgoaa
open Go.RowKit

/-- alike in all that steps turn -/
structure S3 (A B : SS) : Prop where
  ts : A.ts = B.ts
  ab : A.ab = B.ab
  wt : A.wt = B.wt
theorem S3.wake {A B : SS} (h : S3 A B) (id : Int) : S3 (wakeS A id).2 (wakeS B id).2 := by
  unfold wakeS
  rw [h.wt, h.ab]
  split
  · exact ⟨h.ts, rfl, rfl⟩
  · split
    · exact ⟨by show wokenT A.ts id true = wokenT B.ts id true; rw [h.ts], rfl, rfl⟩
    · exact h
theorem S3.wakes : ∀ (l : List Int) {A B : SS}, S3 A B → S3 (wakesS A l) (wakesS B l)
  | [], _, _, h => h
  | u :: r, _, _, h => S3.wakes r (h.wake u)
theorem S3.settle {A B : SS} (h : S3 A B) (i : Nat) (r : Int) : S3 (settleS A i r) (settleS B i r) := by
  unfold settleS
  rw [h.ts, h.ab, h.wt]
  split
  · exact ⟨rfl, rfl, rfl⟩
  · split
    · split
      · exact ⟨rfl, rfl, rfl⟩
      · exact ⟨rfl, rfl, rfl⟩
    · exact h
section
variable {W0 w w' : World} {M : Nat} {pv : Value} {ps : List Int} {Bs : List Nat} {Lv : Nat → Value} {K : Nat} {told : List Int} {an : Nat → Nat} {A : SS} {G : Nat → Prop}
theorem MW.s3 {B : SS} (h : MW W0 w M pv ps Bs Lv K told an A G) (e : S3 A B) : MW W0 w M pv ps Bs Lv K told an B G := by
  obtain ⟨ts, ab, wt, k, st, now⟩ := A
  obtain ⟨ts', ab', wt', k', st', now'⟩ := B
  obtain ⟨rfl, rfl, rfl⟩ := e
  exact ⟨⟨h.ok.lts, h.ok.lps, h.ok.psb, h.ok.abr, h.ok.abb, h.ok.wtr, h.ok.wtb, h.ok.dj⟩, h.ln, h.at_⟩
theorem MW.ats {an' : Nat → Nat} (h : MW W0 w M pv ps Bs Lv K told an A G) (e : ∀ i, i < Bs.length → an' i = an i) : MW W0 w M pv ps Bs Lv K told an' A G := by
  obtain ⟨wk, tv, ov, m, f⟩ := h.at_
  exact ⟨h.ok, h.ln, wk, tv, ov, m.congr e (fun _ _ => rfl) (fun _ _ => rfl), f⟩
theorem MW.own (h : MW W0 w M pv ps Bs Lv K told an A G) : w.cell? ⟨M, 0, none⟩ = some pv ∧ w.cell? ⟨M, 2, none⟩ = some (.int .i64 (K : Int)) ∧ (∀ c, w.frozen? ⟨M, c, none⟩ = false) ∧ M < w.heap.size ∧ ∃ oa oc, w.cell? ⟨M, 3, none⟩ = some (.slice oa told.length oc) ∧ (0 < told.length → ∃ g, oa = some ⟨g, 0, none⟩ ∧ ∀ i, i < told.length → w.cell? ⟨g, i, none⟩ = some (.int .i64 (told.getD i 0))) := by
  obtain ⟨wk, tv, ov, m, f⟩ := h.at_
  obtain ⟨c0, -, c2, c3⟩ := m.ms.cells
  obtain ⟨oa, oc, rfl, hg⟩ := m.ow.shape
  refine ⟨c0, c2, m.ms.frozen, m.ms.lt, oa, oc, c3, fun h0 => ?_⟩
  obtain ⟨g, rfl, _⟩ := hg h0
  exact ⟨g, rfl, fun i hi => m.ow.cell rfl hi⟩
theorem MW.setK (h : MW W0 w M pv ps Bs Lv K told an A G) (k : Nat) : MW W0 (w.setCell ⟨M, 2, none⟩ (.int .i64 (k : Int))) M pv ps Bs Lv k told an A G ∧ Wd G G w (w.setCell ⟨M, 2, none⟩ (.int .i64 (k : Int))) := by
  obtain ⟨wk, tv, ov, m, f⟩ := h.at_
  obtain ⟨m2, d2⟩ := m.cellM (m.ms.setK k)
  exact ⟨⟨h.ok, h.ln, wk, tv, ov, m2, f⟩, d2⟩
theorem MW.lt (h : MW W0 w M pv ps Bs Lv K told an A G) (k : Nat) (e : G k) : k < w.heap.size ∧ W0.heap.size ≤ k := by
  obtain ⟨wk, tv, ov, m, f⟩ := h.at_
  exact ⟨m.lt k e, m.new k e⟩
end
theorem wakeS_kq (A : SS) (id : Int) : (wakeS A id).2.k = A.k := by
  unfold wakeS
  split
  · rfl
  · split
    · rfl
    · rfl
theorem wakesS_kq : ∀ (l : List Int) (A : SS), (wakesS A l).k = A.k
  | [], _ => rfl
  | u :: r, A => (wakesS_kq r (wakeS A u).2).trans (wakeS_kq A u)
theorem one_kq (ps : List Int) (ds : List (Value × List (Value × List Int × Int))) (x : DC × SS) : (oneF ps (stepD ds) x).2.k = x.2.k + 1 := by
  unfold oneF stepD afterS
  rw [settle_k]
  show (wakesS _ _).k + 1 = _
  rw [wakesS_kq]
structure MO (W0 : World) (M : Nat) (pv : Value) (ps : List Int) (Bs : List Nat) (ds : List (Value × List (Value × List Int × Int))) (c : DC) (A : SS) (G : Nat → Prop) (w : World) : Prop where
  kp : Kp W0 w
  m : MW W0 w M pv ps Bs (fun i => (ds.getD i dz).1) A.k c.told (fun i => c.at_.getD i 0) A G
  atk : ∀ i, c.at_.getD i 0 ≤ A.k
  tl : c.told.length = A.k
  la : c.at_.length = Bs.length
  dd : ∀ i : Nat, i < Bs.length → DeedsAt W0 (ds.getD i dz).1 (ds.getD i dz).2
  pb : Bys W0 pv ps
section
variable {W0 w w' : World} {M : Nat} {pv : Value} {ps : List Int} {Bs : List Nat} {ds : List (Value × List (Value × List Int × Int))} {c : DC} {A : SS} {G : Nat → Prop}
theorem MO.keep (h : MO W0 M pv ps Bs ds c A G w) (k : Kp w w') : MO W0 M pv ps Bs ds c A G w' := ⟨h.kp.trans k, h.m.keep k, h.atk, h.tl, h.la, h.dd, h.pb⟩
theorem MO.wide (h : MO W0 M pv ps Bs ds c A G w) {H H' : Nat → Prop} (d : Wd H H' w w') (hH : ∀ k, H k → W0.heap.size ≤ k) (n : ∀ k, G k → ¬ H k) : MO W0 M pv ps Bs ds c A G w' := ⟨Wd.kp h.kp d hH, h.m.wide d n, h.atk, h.tl, h.la, h.dd, h.pb⟩
theorem mone_any (h : MO W0 M pv ps Bs ds c A G w) (h0 : 0 < A.ab.length) (hk : A.k + 1 ≤ 1000000000) {i : Nat} (hi : (i : Int) = pickS ps A) :
    Calls Try.prog 35 #[.pointer (some ⟨M, 0, none⟩), .int .i64 (i : Int)] (w.setCell ⟨M, 2, none⟩ (.int .i64 ((A.k + 1 : Nat) : Int))) fun e w' => e = .returned (.tuple #[]) ∧ Hid (∃ G', MO W0 M pv ps Bs ds (oneF ps (stepD ds) (c, A)).1 (oneF ps (stepD ds) (c, A)).2 G' w' ∧ Wd G G' w w') := by
  have hp := pick_in (ps := ps) h0
  rw [← hi] at hp
  have hb := h.m.ok.abb _ hp
  rw [h.m.ln] at hb
  have hil : i < Bs.length := by omega
  obtain ⟨m1, d1⟩ := h.m.setK (A.k + 1)
  have hG : ∀ k, G k → W0.heap.size ≤ k := fun k e => (h.m.lt k e).2
  have k1 : Kp W0 (w.setCell ⟨M, 2, none⟩ (.int .i64 ((A.k + 1 : Nat) : Int))) := Wd.kp h.kp d1 hG
  have ei : (pickS ps A).toNat = i := by omega
  have hone : oneF ps (stepD ds) (c, A) = (⟨c.at_.set i (c.at_.getD i 0 + 1), c.told ++ [(i : Int)]⟩, afterS (wakesS { A with st := true, now := (i : Int) } ((ds.getD i dz).2.getD (c.at_.getD i 0) d0).2.1) i ((ds.getD i dz).2.getD (c.at_.getD i 0) d0).2.2) := by
    unfold oneF stepD
    simp only [ei]
  have hkk := one_kq ps ds (c, A)
  refine (mstep_any W0 M pv ps Bs _ (A.k + 1) c.told _ A G i (ds.getD i dz).2 _ m1 k1 hG hil hp (by rw [h.tl]; exact hk) (by have := h.atk i; show c.at_.getD i 0 ≤ _; omega) (h.dd i hil)).mono ?_
  rintro e w' ⟨rfl, G', m2, d2⟩
  have d := d1.trans d2
  refine ⟨rfl, G', ⟨Wd.kp h.kp d hG, ?_, ?_, ?_, ?_, h.dd, h.pb⟩, d⟩
  · rw [hkk]
    rw [hone]
    refine (m2.s3 ?_).ats ?_
    · refine S3.settle ?_ i _
      have := S3.wakes ((ds.getD i dz).2.getD (c.at_.getD i 0) d0).2.1 (A := A) (B := { A with st := true, now := (i : Int) }) ⟨rfl, rfl, rfl⟩
      exact ⟨this.ts, this.ab, this.wt⟩
    · intro j hj
      show (c.at_.set i (c.at_.getD i 0 + 1)).getD j 0 = upd (fun i => c.at_.getD i 0) i (c.at_.getD i 0 + 1) j
      unfold upd
      by_cases e : j = i
      · subst e
        rw [if_pos rfl]
        have : j < c.at_.length := by rw [h.la]; exact hj
        simp [List.getD, this]
      · rw [if_neg e]
        simp [List.getD, Ne.symm e]
  · intro j
    rw [hkk, hone]
    show (c.at_.set i (c.at_.getD i 0 + 1)).getD j 0 ≤ A.k + 1
    by_cases e : j = i
    · subst e
      have : j < c.at_.length := by rw [h.la]; exact hil
      have h2 := h.atk j
      simp [List.getD, this] at h2 ⊢
      omega
    · have h2 := h.atk j
      simp [List.getD, Ne.symm e] at h2 ⊢
      omega
  · rw [hkk, hone]
    show (c.told ++ [(i : Int)]).length = A.k + 1
    simp [h.tl]
  · rw [hone]
    show (c.at_.set i _).length = _
    simp [h.la]
end

end Go.Proofs.Ytenbmfhhmbfgoaa
