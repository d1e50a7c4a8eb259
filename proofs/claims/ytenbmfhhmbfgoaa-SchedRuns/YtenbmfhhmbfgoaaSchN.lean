
/- A scheduler with the law's own tasks: what a Run of it leaves. -/
import Derived.Test.YtenbmfhhmbfgoaaSchM
namespace Go.Proofs.Ytenbmfhhmbfgoaa
open Go.RowKit

theorem own_same {w w' : World} {b : Nat} {e : TypeId} {z n : Nat} {v : Value} {xs : List Value} (h : w.ownsRow b e z v n xs) (hb : ∀ k, v.ownBlock = some k → w'.heap[k]? = w.heap[k]?) : w'.ownsRow b e z v n xs := by
  obtain ⟨h0, h1 | ⟨g, cap, cur, rfl, hg, hh, r⟩⟩ := h
  · exact ⟨h0, .inl h1⟩
  · exact ⟨h0, .inr ⟨g, cap, cur, rfl, hg, (hb g rfl).trans hh, r⟩⟩
theorem Sc.of {w w' : World} {s : Nat} {F : Nat → Prop} {ps : List Int} {A : SS} (h : Sc w s F ps A) (hb : ∀ k, F k → w'.heap[k]? = w.heap[k]?) (hs : w.heap.size ≤ w'.heap.size) : Sc w' s F ps A := by
  obtain ⟨pv, tv, av, wv, v⟩ := h.opn
  have v' : Sv w' s F ps A pv tv av wv := ⟨by unfold SB; rw [hb s v.fs]; exact v.sb, own_same v.pu (fun k e => hb k (v.fp k e)), own_same v.tt (fun k e => hb k (v.ft k e)), own_same v.ao (fun k e => hb k (v.fa k e)), own_same v.wo (fun k e => hb k (v.fw k e)), v.ne, v.fs, v.fp, v.ft, v.fa, v.fw, fun k e => Nat.lt_of_lt_of_le (v.fb k e) hs⟩
  exact v'.sc h.ok
theorem Wd.mono {F F' H H' : Nat → Prop} {w w' : World} (d : Wd F F' w w') (h1 : ∀ k, F k → H k) (h2 : ∀ k, H' k → F' k ∨ H k ∨ w.heap.size ≤ k) : Wd H H' w w' :=
  ⟨d.os, d.tape, d.output, d.size, fun k hk n => d.block k hk (fun e => n (h1 k e)), fun k hk => by
    rcases h2 k hk with e | e | e
    · rcases d.new k e with e | e
      · exact .inl (h1 k e)
      · exact .inr e
    · exact .inl e
    · exact .inr e⟩

/-- what waking leaves -/
structure Wk (A B : SS) : Prop where
  len : B.ts.length = A.ts.length
  fn : ∀ j, (B.ts.getD j tk0).1 = (A.ts.getD j tk0).1
  ab : ∀ x, x ∈ A.ab → x ∈ B.ab
  un : ∀ x, x ∈ B.ab ∨ x ∈ B.wt → x ∈ A.ab ∨ x ∈ A.wt
  k : B.k = A.k
  st : B.st = A.st
  now : B.now = A.now
theorem Wk.refl (A : SS) : Wk A A := ⟨rfl, fun _ => rfl, fun _ h => h, fun _ h => h, rfl, rfl, rfl⟩
theorem Wk.trans {A B C : SS} (h : Wk A B) (k : Wk B C) : Wk A C := ⟨k.len.trans h.len, fun j => (k.fn j).trans (h.fn j), fun x e => k.ab x (h.ab x e), fun x e => h.un x (k.un x e), k.k.trans h.k, k.st.trans h.st, k.now.trans h.now⟩
theorem woken_fn (ts : List (Value × Bool)) (id : Int) (b : Bool) (j : Nat) : ((wokenT ts id b).getD j tk0).1 = (ts.getD j tk0).1 := by
  unfold wokenT
  by_cases h : id.toNat = j
  · subst h
    by_cases hl : id.toNat < ts.length
    · simp [hl]
    · rw [List.set_eq_of_length_le (by omega)]
  · simp [List.getD, h]
theorem SOk.wakeS {ps : List Int} {A : SS} (h : SOk ps A) (id : Int) : SOk ps (wakeS A id).2 := by
  unfold Proofs.Ytenbmfhhmbfgoaa.wakeS
  split
  · rename_i hw; exact h.wake hw
  · split
    · exact h.woken _ _
    · exact h
theorem Wk.wake {ps : List Int} {A : SS} (h : SOk ps A) (id : Int) : Wk A (wakeS A id).2 := by
  unfold wakeS
  split
  · rename_i hw
    have hm := (hasL_iff h.wtr).1 hw
    refine ⟨rfl, fun _ => rfl, fun x e => insL_mem.2 (.inr e), fun x e => ?_, rfl, rfl, rfl⟩
    rcases e with e | e
    · rcases insL_mem.1 e with rfl | e
      · exact .inr hm
      · exact .inl e
    · exact .inr ((delL_mem h.wtr hw).1 e).1
  · split
    · exact ⟨wokenT_length _ _ _, fun j => woken_fn _ _ _ j, fun _ e => e, fun _ e => e, rfl, rfl, rfl⟩
    · exact Wk.refl A
theorem Wk.wakes {ps : List Int} : ∀ (l : List Int) {A : SS}, SOk ps A → Wk A (wakesS A l) ∧ SOk ps (wakesS A l)
  | [], A, h => ⟨Wk.refl A, h⟩
  | u :: r, A, h => by
    obtain ⟨h1, h2⟩ := Wk.wakes (ps := ps) r (h.wakeS u)
    exact ⟨(Wk.wake h u).trans h1, h2⟩
/-- what settling leaves -/
theorem settle_len (A : SS) (i : Nat) (r : Int) : (settleS A i r).ts.length = A.ts.length := by
  unfold settleS
  split
  · simp
  · split
    · split
      · exact wokenT_length _ _ _
      · rfl
    · rfl
theorem settle_k (A : SS) (i : Nat) (r : Int) : (settleS A i r).k = A.k := by
  unfold settleS
  split
  · rfl
  · split
    · split
      · rfl
      · rfl
    · rfl
theorem settle_un {ps : List Int} {A : SS} (h : SOk ps A) {i : Nat} {r : Int} (hi : (i : Int) ∈ A.ab) {x : Int} (hx : x ∈ (settleS A i r).ab ∨ x ∈ (settleS A i r).wt) : (x ∈ A.ab ∨ x ∈ A.wt) ∧ (r = 3 → x ≠ (i : Int)) := by
  have hh := (hasL_iff h.abr).2 hi
  unfold settleS at hx
  split at hx
  · rename_i h3
    rcases hx with hx | hx
    · obtain ⟨h1, h2⟩ := (delL_mem h.abr hh).1 hx
      exact ⟨.inl h1, fun _ => h2⟩
    · exact ⟨.inr hx, fun _ e => h.dj x hx (e ▸ hi)⟩
  · rename_i h3
    split at hx
    · split at hx
      · exact ⟨hx, fun e => absurd e h3⟩
      · refine ⟨?_, fun e => absurd e h3⟩
        rcases hx with hx | hx
        · exact .inl ((delL_mem h.abr hh).1 hx).1
        · rcases insL_mem.1 hx with rfl | e
          · exact .inl hi
          · exact .inr e
    · exact ⟨hx, fun e => absurd e h3⟩
theorem settle_fn (A : SS) (i : Nat) (r : Int) (j : Nat) (h : r = 3 → j ≠ i) : ((settleS A i r).ts.getD j tk0).1 = (A.ts.getD j tk0).1 := by
  unfold settleS
  split
  · rename_i h3
    have := h h3
    simp [List.getD, Ne.symm this]
  · split
    · split
      · exact woken_fn _ _ _ _
      · rfl
    · rfl

structure DC where
  at_ : List Nat
  told : List Int
def dz : Value × List (Value × List Int × Int) := (.slice none 0 0, [])
def stepD (ds : List (Value × List (Value × List Int × Int))) (c : DC) (A : SS) (i : Nat) : Int × DC × SS :=
  ((((ds.getD i dz).2.getD (c.at_.getD i 0) d0)).2.2, ⟨c.at_.set i (c.at_.getD i 0 + 1), c.told ++ [A.now]⟩, wakesS A (((ds.getD i dz).2.getD (c.at_.getD i 0) d0)).2.1)
def taskF (b : Nat) : Value := .func (.func 13) #[.pointer (some ⟨b, 0, none⟩)] #[]
/-- all blocks of a scheduler and of its tasks -/
def GD (F : Nat → Prop) (T : Nat) (Bs : List Nat) (tv : Value) : Nat → Prop := fun k => F k ∨ k = T ∨ tv.ownBlock = some k ∨ k ∈ Bs
/-- how many steps there may be -/
def capD (ds : List (Value × List (Value × List Int × Int))) : Nat := (ds.map fun d => d.2.length + 1).sum
structure PDm (w0 : World) (G0 : Nat → Prop) (W0 : World) (s T : Nat) (Bs : List Nat) (ds : List (Value × List (Value × List Int × Int))) (c : DC) (F : Nat → Prop) (w : World) (tv : Value) : Prop where
  bx : Boxed w T 31 tv
  ow : Own w 3 0 tv c.told
  tb : ∀ i, i < Bs.length → TB w (Bs.getD i 0) s T (ds.getD i dz).1 (c.at_.getD i 0)
  nT : ¬ F T
  nv : ∀ k, tv.ownBlock = some k → ¬ F k
  nb : ∀ i, i < Bs.length → ¬ F (Bs.getD i 0)
  fr : Wd G0 (GD F T Bs tv) w0 w
  new : ∀ k, GD F T Bs tv k → W0.heap.size ≤ k
structure PDp (W0 : World) (Bs : List Nat) (ds : List (Value × List (Value × List Int × Int))) (c : DC) (A : SS) : Prop where
  nd : Bs.Nodup
  ln : A.ts.length = Bs.length
  la : c.at_.length = Bs.length
  ld : ds.length = Bs.length
  fn : ∀ i : Nat, i < Bs.length → ((i : Int) ∈ A.ab ∨ (i : Int) ∈ A.wt) → (A.ts.getD i tk0).1 = wrapF (taskF (Bs.getD i 0)) ∧ c.at_.getD i 0 ≤ (ds.getD i dz).2.length
  ab : ∀ i : Nat, i < Bs.length → c.at_.getD i 0 ≤ (ds.getD i dz).2.length + 1
  sum : A.k = c.at_.sum
  tl : c.told.length = A.k
  dd : ∀ i : Nat, i < Bs.length → DeedsAt W0 (ds.getD i dz).1 (ds.getD i dz).2
  sm : capD ds ≤ 100000
/-- what is known between two steps -/
def PD (w0 : World) (G0 : Nat → Prop) (W0 : World) (s T : Nat) (Bs : List Nat) (ds : List (Value × List (Value × List Int × Int))) (c : DC) (A : SS) (F : Nat → Prop) (w : World) : Prop :=
  Kp W0 w ∧ PDp W0 Bs ds c A ∧ ∃ tv, PDm w0 G0 W0 s T Bs ds c F w tv

theorem sum_set : ∀ (l : List Nat) (i : Nat), i < l.length → (l.set i (l.getD i 0 + 1)).sum = l.sum + 1
  | [], i, h => absurd h (by simp)
  | x :: r, 0, _ => by simp; omega
  | x :: r, i + 1, h => by
    have := sum_set r i (by simpa using h)
    simp only [List.set_cons_succ, List.sum_cons, List.getD_cons_succ] at this ⊢
    omega
theorem sum_le (ds : List (Value × List (Value × List Int × Int))) : ∀ (l : List Nat), l.length = ds.length → (∀ i, i < l.length → l.getD i 0 ≤ (ds.getD i dz).2.length + 1) → l.sum ≤ capD ds := by
  induction ds with
  | nil =>
    intro l h _
    rw [List.eq_nil_of_length_eq_zero h]
    simp
  | cons d r ih =>
    intro l h hb
    cases l with
    | nil => simp at h
    | cons x l =>
      have h0 := hb 0 (by simp)
      have h1 := ih l (by simpa using h) (fun i hi => by simpa using hb (i + 1) (by simpa using hi))
      unfold capD at h1 ⊢
      simp at h0 ⊢
      omega
theorem PDp.kcap {W0 : World} {Bs : List Nat} {ds : List (Value × List (Value × List Int × Int))} {c : DC} {A : SS} (h : PDp W0 Bs ds c A) : A.k ≤ 100000 := by
  rw [h.sum]
  exact Nat.le_trans (sum_le ds c.at_ (by rw [h.la, h.ld]) (fun i hi => h.ab i (by rw [← h.la]; exact hi))) h.sm
theorem PD.wide {w0 : World} {G0 : Nat → Prop} {W0 : World} {s T : Nat} {Bs : List Nat} {ds : List (Value × List (Value × List Int × Int))} {c : DC} {A : SS} {F F' : Nat → Prop} {w w' : World} (h : PD w0 G0 W0 s T Bs ds c A F w) (d : Wd F F' w w') : PD w0 G0 W0 s T Bs ds c A F' w' := by
  obtain ⟨k0, p, tv, m⟩ := h
  have hF : ∀ k, F k → W0.heap.size ≤ k := fun k e => m.new k (.inl e)
  have old : ∀ k, k < w.heap.size → ¬ F k → ¬ F' k := fun k hk n e => by
    rcases d.new k e with e | e
    · exact n e
    · omega
  refine ⟨Wd.kp k0 d hF, p, tv, ⟨boxed_of m.bx (d.block T m.bx.lt m.nT), own_same m.ow (fun k e => d.block k (World.ownsRow.lt m.ow k e).2 (m.nv k e)), fun i hi => (m.tb i hi).of (d.block _ (m.tb i hi).lt (m.nb i hi)), old T m.bx.lt m.nT, fun k e => old k (World.ownsRow.lt m.ow k e).2 (m.nv k e), fun i hi => old _ (m.tb i hi).lt (m.nb i hi), ?_, ?_⟩⟩
  · refine m.fr.trans (d.mono (fun k e => .inl e) ?_)
    rintro k (e | e)
    · exact .inl e
    · exact .inr (.inl (.inr e))
  · rintro k (e | e)
    · rcases d.new k e with e | e
      · exact hF k e
      · exact Nat.le_trans k0.size e
    · exact m.new k (.inr e)

theorem getD_mem {l : List Nat} {i : Nat} (h : i < l.length) : l.getD i 0 ∈ l := by
  have : l.getD i 0 = l[i] := by simp [h]
  rw [this]
  exact List.getElem_mem _
theorem getD_inj {l : List Nat} (h : l.Nodup) {i j : Nat} (hi : i < l.length) (hj : j < l.length) (e : l.getD i 0 = l.getD j 0) : i = j := by
  have e1 : l.getD i 0 = l[i] := by simp [hi]
  have e2 : l.getD j 0 = l[j] := by simp [hj]
  rw [e1, e2] at e
  rcases Nat.lt_trichotomy i j with q | q | q
  · exact absurd e (List.pairwise_iff_getElem.1 h i j hi hj q)
  · exact q
  · exact absurd e.symm (List.pairwise_iff_getElem.1 h j i hj hi q)
theorem le_sum : ∀ (l : List Nat) (i : Nat), l.getD i 0 ≤ l.sum
  | [], i => by simp
  | x :: r, 0 => by simp
  | x :: r, i + 1 => by
    have := le_sum r i
    simp only [List.getD_cons_succ, List.sum_cons]
    omega
theorem getD_mem' {l : List Nat} {x : Nat} (h : x ∈ l) : ∃ i, i < l.length ∧ l.getD i 0 = x := by
  obtain ⟨i, hi, rfl⟩ := List.getElem_of_mem h
  exact ⟨i, hi, by simp [hi]⟩

set_option maxHeartbeats 2000000 in
theorem steps_deeds (w0 : World) (G0 : Nat → Prop) (W0 : World) (s T : Nat) (ps : List Int) (Bs : List Nat) (ds : List (Value × List (Value × List Int × Int))) :
    Steps s ps (stepD ds) (PD w0 G0 W0 s T Bs ds) := by
  intro c A F w hs hst h0 hp
  obtain ⟨k0, p, tv, m⟩ := hp
  have hpk := pick_in (ps := ps) h0
  have hpb := hs.ok.abb _ hpk
  obtain ⟨i, hi⟩ : ∃ i, (pickS ps A).toNat = i := ⟨_, rfl⟩
  have hiI : (i : Int) = pickS ps A := by omega
  have hin : (i : Int) ∈ A.ab := by rw [hiI]; exact hpk
  have hil : i < Bs.length := by rw [← p.ln]; omega
  obtain ⟨hf, hat⟩ := p.fn i hil (.inl hin)
  have hone : oneF ps (stepD ds) (c, A) = (⟨c.at_.set i (c.at_.getD i 0 + 1), c.told ++ [(i : Int)]⟩, afterS (wakesS { A with st := true, now := (i : Int) } ((ds.getD i dz).2.getD (c.at_.getD i 0) d0).2.1) i ((ds.getD i dz).2.getD (c.at_.getD i 0) d0).2.2) := by
    unfold oneF stepD
    simp only [hi]
  rw [hi, hone]
  refine ⟨_, hf, fun w1 hs1 d1 => ?_⟩
  have hkc := p.kcap
  have oldT := d1.block T m.bx.lt m.nT
  have hts : TS w1 F tv w1 s (Bs.getD i 0) T F ps { A with st := true, now := (i : Int) } (ds.getD i dz).1 (c.at_.getD i 0) tv c.told :=
    TS.start hs1 ((m.tb i hil).of (d1.block _ (m.tb i hil).lt (m.nb i hil))) (boxed_of m.bx oldT) (own_same m.ow (fun k e => d1.block k (World.ownsRow.lt m.ow k e).2 (m.nv k e))) (m.nb i hil) m.nT m.nv
  have hF : ∀ k, F k → W0.heap.size ≤ k := fun k e => m.new k (.inl e)
  have k1 : Kp W0 w1 := Wd.kp k0 d1 hF
  have hGt : ∀ k, Gt F (Bs.getD i 0) T tv k → GD F T Bs tv k := by
    rintro k (e | e | e | e)
    · exact .inl e
    · exact .inr (.inr (.inr (e ▸ getD_mem hil)))
    · exact .inr (.inl e)
    · exact .inr (.inr (.inl e))
  have hat1 := p.ab i hil
  have hdl : (ds.getD i dz).2.length ≤ 4611686018427387904 := (p.dd i hil).1
  refine (guard_any 13 #[.pointer (some ⟨Bs.getD i 0, 0, none⟩)] #[] (fun r w2 => r = ((ds.getD i dz).2.getD (c.at_.getD i 0) d0).2.2 ∧ ∃ F' tv', TS w1 F tv w2 s (Bs.getD i 0) T F' ps (wakesS { A with st := true, now := (i : Int) } ((ds.getD i dz).2.getD (c.at_.getD i 0) d0).2.1) (ds.getD i dz).1 (c.at_.getD i 0 + 1) tv' (c.told ++ [(i : Int)])) w1 Try.call13
    ((task_any s (Bs.getD i 0) T F ps _ (ds.getD i dz).1 (c.at_.getD i 0) tv c.told (ds.getD i dz).2 w1 hts rfl (by rw [p.tl]; omega) ?_ (fun G' w' d => (p.dd i hil).keep (Wd.kp k1 d (fun k e => m.new k (hGt k e))))).mono ?_)).mono ?_
  · have h1 : c.at_.getD i 0 ≤ c.at_.sum := le_sum _ _
    rw [← p.sum] at h1
    omega
  · rintro e w2 ⟨rfl, F', tv', t⟩
    exact ⟨_, rfl, rfl, F', tv', t⟩
  · rintro e w2 ⟨r, rfl, rfl, F', tv', t⟩
    obtain ⟨wk, ok⟩ := Wk.wakes (ps := ps) ((ds.getD i dz).2.getD (c.at_.getD i 0) d0).2.1 (A := { A with st := true, now := (i : Int) }) hs1.ok
    refine ⟨by unfold stepD; rfl, F', ?_, ?_, ?_, ?_⟩
    · unfold stepD; exact t.sc
    · unfold stepD; exact wk.ab _ hin
    · unfold stepD
      show (wakesS _ _).k ≤ _
      rw [wk.k]
      show A.k ≤ _
      omega
    · intro F'' w3 hs3 d3
      have t3 := t.sched hs3 d3
      have hi2 := wk.ab _ hin
      have okA : SOk ps { (wakesS { A with st := true, now := (i : Int) } ((ds.getD i dz).2.getD (c.at_.getD i 0) d0).2.1) with st := false, k := (wakesS { A with st := true, now := (i : Int) } ((ds.getD i dz).2.getD (c.at_.getD i 0) d0).2.1).k + 1 } := ⟨ok.lts, ok.lps, ok.psb, ok.abr, ok.abb, ok.wtr, ok.wtb, ok.dj⟩
      have other : ∀ j, j < Bs.length → j ≠ i → ¬ Gt F (Bs.getD i 0) T tv (Bs.getD j 0) := by
        rintro j hj hne (e | e | e | e)
        · exact m.nb j hj e
        · exact hne (getD_inj p.nd hj hil e)
        · exact b_ne_T (m.tb j hj) m.bx e
        · exact own_ne_b (m.tb j hj) m.ow (by decide) e
      have tb1 : ∀ j, j < Bs.length → TB w1 (Bs.getD j 0) s T (ds.getD j dz).1 (c.at_.getD j 0) := fun j hj => (m.tb j hj).of (d1.block _ (m.tb j hj).lt (m.nb j hj))
      have hset : ∀ j, j ≠ i → (c.at_.set i (c.at_.getD i 0 + 1)).getD j 0 = c.at_.getD j 0 := fun j hne => by simp [List.getD, Ne.symm hne]
      have hseti : (c.at_.set i (c.at_.getD i 0 + 1)).getD i 0 = c.at_.getD i 0 + 1 := by simp [show i < c.at_.length by rw [p.la]; exact hil]
      have hGt2 : ∀ k, Gt F'' (Bs.getD i 0) T tv' k ∨ k ∈ Bs ↔ GD F'' T Bs tv' k := by
        intro k
        constructor
        · rintro ((e | e | e | e) | e)
          · exact .inl e
          · exact .inr (.inr (.inr (e ▸ getD_mem hil)))
          · exact .inr (.inl e)
          · exact .inr (.inr (.inl e))
          · exact .inr (.inr (.inr e))
        · rintro (e | e | e | e)
          · exact .inl (.inl e)
          · exact .inl (.inr (.inr (.inl e)))
          · exact .inl (.inr (.inr (.inr e)))
          · exact .inr e
      have fr3 : Wd (GD F T Bs tv) (GD F'' T Bs tv') w1 w3 := t3.fr.mono hGt (fun k e => by
        rcases (hGt2 k).2 e with e | e
        · exact .inl e
        · exact .inr (.inl (.inr (.inr (.inr e)))))
      have frA : Wd (GD F T Bs tv) (GD F T Bs tv) w w1 := d1.mono (fun k e => .inl e) (fun k e => .inr (.inl e))
      refine ⟨Wd.kp k1 fr3 m.new, ⟨p.nd, ?_, ?_, p.ld, ?_, ?_, ?_, ?_, p.dd, p.sm⟩, tv', ⟨t3.bx, t3.ow, ?_, t3.nT, t3.nv, ?_, m.fr.trans (frA.trans fr3), ?_⟩⟩
      · show (afterS _ _ _).ts.length = _
        unfold afterS
        rw [settle_len]
        show (wakesS _ _).ts.length = _
        rw [wk.len]
        exact p.ln
      · show (c.at_.set i _).length = _
        rw [List.length_set]; exact p.la
      · intro j hj hx
        obtain ⟨hx1, hx2⟩ := settle_un okA hi2 hx
        have hx3 : (j : Int) ∈ A.ab ∨ (j : Int) ∈ A.wt := wk.un _ hx1
        obtain ⟨q1, q2⟩ := p.fn j hj hx3
        refine ⟨?_, ?_⟩
        · show ((afterS _ _ _).ts.getD j tk0).1 = _
          unfold afterS
          rw [settle_fn _ _ _ _ (fun e => by have := hx2 e; omega)]
          show ((wakesS _ _).ts.getD j tk0).1 = _
          rw [wk.fn]
          exact q1
        · show (c.at_.set i _).getD j 0 ≤ _
          by_cases hji : j = i
          · subst hji
            rw [hseti]
            by_cases hlt : c.at_.getD j 0 < (ds.getD j dz).2.length
            · omega
            · exfalso
              refine hx2 ?_ rfl
              have e0 : (ds.getD j dz).2.getD (c.at_.getD j 0) d0 = d0 := by rw [List.getD_eq_getElem?_getD, List.getElem?_eq_none (by omega)]; rfl
              rw [e0]
              rfl
          · rw [hset j hji]
            exact q2
      · intro j hj
        show (c.at_.set i _).getD j 0 ≤ _
        by_cases hji : j = i
        · subst hji
          rw [hseti]
          omega
        · rw [hset j hji]
          exact p.ab j hj
      · show (afterS _ _ _).k = (c.at_.set i _).sum
        rw [sum_set _ _ (by rw [p.la]; exact hil), ← p.sum]
        unfold afterS
        rw [settle_k]
        show (wakesS _ _).k + 1 = _
        rw [wk.k]
      · show (c.told ++ [(i : Int)]).length = (afterS _ _ _).k
        unfold afterS
        rw [settle_k]
        show _ = (wakesS _ _).k + 1
        rw [wk.k, List.length_append, p.tl]
        rfl
      · intro j hj
        by_cases hji : j = i
        · subst hji
          show TB w3 _ s T _ ((c.at_.set j _).getD j 0)
          rw [hseti]
          exact t3.tb
        · show TB w3 _ s T _ ((c.at_.set i _).getD j 0)
          rw [hset j hji]
          exact (tb1 j hj).of (t3.fr.block _ (tb1 j hj).lt (other j hj hji))
      · intro j hj e
        rcases t3.fF _ e with e | e
        · exact m.nb j hj e
        · have := (tb1 j hj).lt; omega
      · intro k e
        rcases fr3.new k e with e | e
        · exact m.new k e
        · exact Nat.le_trans k1.size e

end Go.Proofs.Ytenbmfhhmbfgoaa
