
/- A scheduler: Wake and Waiting. -/
import Derived.Test.YtenbmfhhmbfgoaaSchF
namespace Go.Proofs.Ytenbmfhhmbfgoaa
open Go.RowKit

theorem mem_take_lt {xs : List Int} {t x : Int} (h : x ∈ xs.take (posL xs t)) : x < t := by
  obtain ⟨j, hj, rfl⟩ := List.getElem_of_mem h
  have hj2 : j < posL xs t := by rw [List.length_take] at hj; omega
  have hj3 : j < xs.length := by have := posL_le xs t; omega
  have := posL_lt hj2
  rw [List.getElem_take]
  simpa [hj3] using this
theorem mem_drop_ge {xs : List Int} {t x : Int} (hs : Rise xs) {q : Nat} (hq : posL xs t ≤ q) (h : x ∈ xs.drop q) : t ≤ x ∧ (posL xs t < q → t < x) := by
  obtain ⟨j, hj, rfl⟩ := List.getElem_of_mem h
  have hj2 : q + j < xs.length := by rw [List.length_drop] at hj; omega
  have h0 := posL_at (xs := xs) (t := t) (by omega)
  rw [List.getElem_drop]
  have e : xs.getD (q + j) 0 = xs[q + j] := by simp [hj2]
  rw [← e]
  by_cases hz : posL xs t = q + j
  · rw [← hz]
    exact ⟨h0, by omega⟩
  · have := hs.get (i := posL xs t) (j := q + j) (by omega) hj2
    exact ⟨by omega, by omega⟩
theorem hasL_iff {xs : List Int} {t : Int} (hs : Rise xs) : hasL xs t = true ↔ t ∈ xs := by
  constructor
  · intro h
    unfold hasL at h
    simp only [Bool.and_eq_true, decide_eq_true_eq, beq_iff_eq] at h
    have e : xs.getD (posL xs t) 0 = xs[posL xs t] := by simp [h.1]
    rw [← h.2, e]
    exact List.getElem_mem _
  · intro h
    rw [← List.take_append_drop (posL xs t) xs] at h
    rcases List.mem_append.1 h with h | h
    · exact absurd (mem_take_lt h) (by omega)
    · have hlt : posL xs t < xs.length := by
        have := List.length_pos_of_mem h
        rw [List.length_drop] at this
        omega
      unfold hasL
      simp only [Bool.and_eq_true, decide_eq_true_eq, beq_iff_eq]
      refine ⟨hlt, ?_⟩
      have h0 := posL_at (xs := xs) (t := t) hlt
      rw [List.drop_eq_getElem_cons hlt] at h
      rcases List.mem_cons.1 h with h | h
      · rw [h]
        simp [← h, hlt]
      · have := (mem_drop_ge hs (Nat.le_succ _) h).2 (by omega)
        omega
theorem hasL_no {xs : List Int} {t : Int} (hs : Rise xs) (h : t ∉ xs) : hasL xs t = false := by
  cases e : hasL xs t with
  | false => rfl
  | true => exact absurd ((hasL_iff hs).1 e) h
theorem insL_mem {xs : List Int} {t x : Int} : x ∈ insL t xs ↔ x = t ∨ x ∈ xs := by
  unfold insL
  conv => rhs; rw [← List.take_append_drop (posL xs t) xs]
  simp only [List.mem_append, List.mem_cons]
  constructor
  · rintro (h | h | h)
    · exact .inr (.inl h)
    · exact .inl h
    · exact .inr (.inr h)
  · rintro (h | h | h)
    · exact .inr (.inl h)
    · exact .inl h
    · exact .inr (.inr h)
theorem insL_length (xs : List Int) (t : Int) : (insL t xs).length = xs.length + 1 := by
  unfold insL
  have := posL_le xs t
  simp
  omega
theorem insL_rise {xs : List Int} {t : Int} (hs : Rise xs) (h : t ∉ xs) : Rise (insL t xs) := by
  unfold insL Rise
  rw [List.pairwise_append]
  refine ⟨hs.sublist (List.take_sublist _ _), ?_, ?_⟩
  · rw [List.pairwise_cons]
    refine ⟨fun x hx => ?_, hs.sublist (List.drop_sublist _ _)⟩
    have := (mem_drop_ge hs (Nat.le_refl _) hx).1
    have hne : x ≠ t := fun e => h (e ▸ List.mem_of_mem_drop hx)
    omega
  · intro a ha b hb
    have h1 := mem_take_lt ha
    rcases List.mem_cons.1 hb with rfl | hb
    · exact h1
    · have := (mem_drop_ge hs (Nat.le_refl _) hb).1
      omega
theorem delL_mem {xs : List Int} {t x : Int} (hs : Rise xs) (h : hasL xs t = true) : x ∈ delL t xs ↔ x ∈ xs ∧ x ≠ t := by
  unfold hasL at h
  simp only [Bool.and_eq_true, decide_eq_true_eq, beq_iff_eq] at h
  obtain ⟨hlt, he⟩ := h
  have e : xs.getD (posL xs t) 0 = xs[posL xs t] := by simp [hlt]
  rw [e] at he
  unfold delL
  have hx : x ∈ xs ↔ x ∈ xs.take (posL xs t) ∨ x = t ∨ x ∈ xs.drop (posL xs t + 1) := by
    conv => lhs; rw [← List.take_append_drop (posL xs t) xs]
    rw [List.drop_eq_getElem_cons hlt, he]
    simp only [List.mem_append, List.mem_cons]
  rw [hx, List.mem_append]
  constructor
  · rintro (h | h)
    · exact ⟨.inl h, by have := mem_take_lt h; omega⟩
    · exact ⟨.inr (.inr h), by have := (mem_drop_ge hs (Nat.le_succ _) h).2 (by omega); omega⟩
  · rintro ⟨h | h | h, hne⟩
    · exact .inl h
    · exact absurd h hne
    · exact .inr h
theorem delL_rise {xs : List Int} {t : Int} (hs : Rise xs) : Rise (delL t xs) := by
  have hsub : (delL t xs).Sublist xs := by
    unfold delL
    conv => rhs; rw [← List.take_append_drop (posL xs t) xs]
    refine (List.Sublist.refl _).append ?_
    rw [← List.drop_drop]
    exact List.drop_sublist _ _
  exact hs.sublist hsub
theorem rise_ext : ∀ {xs ys : List Int}, Rise xs → Rise ys → (∀ x, x ∈ xs ↔ x ∈ ys) → xs = ys
  | [], [], _, _, _ => rfl
  | [], y :: r, _, _, h => absurd ((h y).2 (by simp)) (by simp)
  | x :: r, [], _, _, h => absurd ((h x).1 (by simp)) (by simp)
  | x :: r, y :: q, h1, h2, h => by
    obtain ⟨a1, a2⟩ := List.pairwise_cons.1 h1
    obtain ⟨b1, b2⟩ := List.pairwise_cons.1 h2
    have e : x = y := by
      rcases List.mem_cons.1 ((h x).1 (by simp)) with e | e
      · exact e
      · rcases List.mem_cons.1 ((h y).2 (by simp)) with f | f
        · exact f.symm
        · have := a1 y f; have := b1 x e; omega
    subst e
    rw [rise_ext (xs := r) (ys := q) a2 b2 (fun z => ?_)]
    constructor
    · intro hz
      rcases List.mem_cons.1 ((h z).1 (by simp [hz])) with e | e
      · have := a1 z hz; omega
      · exact e
    · intro hz
      rcases List.mem_cons.1 ((h z).2 (by simp [hz])) with e | e
      · have := b1 z hz; omega
      · exact e

/-- the next Wait of a task is passed over -/
def wokenT (ts : List (Value × Bool)) (id : Int) (b : Bool) : List (Value × Bool) := ts.set id.toNat ((ts.getD id.toNat tk0).1, b)
theorem wokenT_length (ts : List (Value × Bool)) (id : Int) (b : Bool) : (wokenT ts id b).length = ts.length := by unfold wokenT; simp
def wakeS (A : SS) (id : Int) : Bool × SS :=
  if hasL A.wt id = true then (true, { A with wt := delL id A.wt, ab := insL id A.ab })
  else if hasL A.ab id = true then (true, { A with ts := wokenT A.ts id true })
  else (false, A)
theorem SOk.wake {ps : List Int} {A : SS} (h : SOk ps A) {id : Int} (hw : hasL A.wt id = true) : SOk ps { A with wt := delL id A.wt, ab := insL id A.ab } := by
  have hm := (hasL_iff h.wtr).1 hw
  refine ⟨h.lts, h.lps, h.psb, insL_rise h.abr (h.dj _ hm), fun x hx => ?_, delL_rise h.wtr, fun x hx => h.wtb x ((delL_mem h.wtr hw).1 hx).1, fun x hx hx2 => ?_⟩
  · rcases insL_mem.1 hx with rfl | hx
    · exact h.wtb _ hm
    · exact h.abb x hx
  · obtain ⟨h1, h2⟩ := (delL_mem h.wtr hw).1 hx
    rcases insL_mem.1 hx2 with e | e
    · exact h2 e
    · exact h.dj _ h1 e
theorem SOk.woken {ps : List Int} {A : SS} (h : SOk ps A) (id : Int) (b : Bool) : SOk ps { A with ts := wokenT A.ts id b } := by
  refine ⟨?_, h.lps, h.psb, h.abr, fun x hx => ?_, h.wtr, fun x hx => ?_, h.dj⟩
  · show (wokenT A.ts id b).length ≤ 128
    rw [wokenT_length]; exact h.lts
  · show 0 ≤ x ∧ x < ((wokenT A.ts id b).length : Int)
    rw [wokenT_length]; exact h.abb x hx
  · show 0 ≤ x ∧ x < ((wokenT A.ts id b).length : Int)
    rw [wokenT_length]; exact h.wtb x hx

theorem OwnT.shape {w : World} {v : Value} {ms : List (Value × Bool)} (h : OwnT w v ms) {i : Nat} (hi : i < ms.length) : ∃ g cap, v = .slice (some ⟨g, 0, none⟩) ms.length cap := by
  obtain ⟨_, ⟨_, h0⟩ | ⟨g, cap, cur, rfl, _⟩⟩ := h
  · omega
  · exact ⟨g, cap, rfl⟩
theorem OwnT.at {w : World} {g n cap : Nat} {ms : List (Value × Bool)} (h : OwnT w (.slice (some ⟨g, 0, none⟩) n cap) ms) (hn : ms.length = n) {i : Nat} (hi : i < n) : w.cell? ⟨g, i * 2, none⟩ = some (ms.getD i tk0).1 ∧ w.cell? ⟨g, i * 2 + 1, none⟩ = some (.bool (ms.getD i tk0).2) ∧ ∀ j, w.frozen? ⟨g, j, none⟩ = false := by
  unfold OwnT at h
  subst hn
  obtain ⟨h1, h2⟩ := tkC_at ms i hi
  exact ⟨(h.cellAt _ (by omega)).trans h1, (h.cellAt _ (by omega)).trans h2, fun j => h.frozenAt j⟩
theorem OwnT.woken {w : World} {g n cap : Nat} {ms : List (Value × Bool)} (h : OwnT w (.slice (some ⟨g, 0, none⟩) n cap) ms) (hn : ms.length = n) {id : Int} (b : Bool) (hi : id.toNat < n) : OwnT (w.setCell ⟨g, id.toNat * 2 + 1, none⟩ (.bool b)) (.slice (some ⟨g, 0, none⟩) n cap) (wokenT ms id b) := by
  subst hn
  have h' := h
  unfold OwnT at h' ⊢
  rw [wokenT_length]
  unfold wokenT
  rw [tkC_set]
  have e : (tkC ms).set (id.toNat * 2) ((ms.getD id.toNat tk0).1) = tkC ms := by
    have h1 := (tkC_at ms id.toNat hi).1
    obtain ⟨hlt, h2⟩ := List.getElem?_eq_some_iff.1 h1
    rw [← h2]
    exact List.set_getElem_self hlt
  rw [show ((((ms.getD id.toNat tk0).1, b) : Value × Bool)).1 = (ms.getD id.toNat tk0).1 from rfl, e]
  exact (h'.stored _ _).1

set_option maxRecDepth 20000 in
set_option maxHeartbeats 4000000 in
theorem wake_any (s : Nat) (F : Nat → Prop) (ps : List Int) (A : SS) (id : Int) (w : World) (h : Sc w s F ps A) :
    Calls Try.prog 21 #[.pointer (some ⟨s, 0, none⟩), .int .i64 id] w fun e w' => e = .returned (.bool (wakeS A id).1) ∧ ∃ F', Sc w' s F' ps (wakeS A id).2 ∧ Wd F F' w w' := by
  have l1 := h.lab
  have l2 := h.lwt
  have ok := h.ok
  have i1 := i64_of ok.abb ok.lts
  have i2 := i64_of ok.wtb ok.lts
  obtain ⟨pv, tv, av, wv, v⟩ := h.opn
  obtain ⟨-, c1, c2, c3, -, -, -⟩ := v.sb.cells
  by_cases hw : hasL A.wt id = true
  · have CT := hide (take_yes s 3 wv A.wt id w v.wo (by omega) i2 ok.wtr c3 (v.sb.frozen 3) (own_ne_s v.sb v.wo (by decide)) hw)
    have hN : id ∉ A.ab := ok.dj _ ((hasL_iff ok.wtr).1 hw)
    have CP : Hid (∀ w1, TakeR w w1 s 3 wv (delL id A.wt) → Calls Try.prog 31 #[.pointer (some ⟨s, 2, none⟩), .int .i64 id] w1 fun e w' => e = .returned (.tuple #[]) ∧ Hid (∃ F', Sc w' s F' ps { A with wt := delL id A.wt, ab := insL id A.ab } ∧ Wd F F' w w')) := by
      intro w1 ht
      obtain ⟨F1, wv1, v1, d1⟩ := v.put_wt ht.put
      obtain ⟨-, -, c2', -, -, -, -⟩ := v1.sb.cells
      refine (put_any s 2 av A.ab id w1 v1.ao (by omega) i1 ok.abr c2' (v1.sb.frozen 2) (own_ne_s v1.sb v1.ao (by decide))).mono ?_
      rintro e w' ⟨rfl, hp⟩
      obtain ⟨F2, av2, v2, d2⟩ := v1.put_ab hp
      exact ⟨rfl, F2, v2.sc (ok.wake hw), d1.trans d2⟩
    have e : wakeS A id = (true, { A with wt := delL id A.wt, ab := insL id A.ab }) := by unfold wakeS; rw [if_pos hw]
    rw [e]
    clear h v c1 c2 c3 i1 i2 ok hw e hN
    go_enter Try.func21, Try.ntmps21
    go_wp2_with fail
    refine (unhide CT).mono ?_
    rintro e w1 ⟨rfl, ht⟩
    have CP2 := hide (unhide CP w1 ht)
    clear CP CT ht
    go_wp2_with fail
    refine (unhide CP2).mono ?_
    rintro e w2 ⟨rfl, HX⟩
    go_wp2_with fail
    go_ret
    exact ⟨rfl, unhide HX⟩
  · have hw' : hasL A.wt id = false := by simpa using hw
    have CT := hide (take_no s 3 wv A.wt id w v.wo (by omega) i2 ok.wtr c3 hw')
    obtain ⟨a, acap, rfl, -⟩ := v.ao.shape
    have CH := hide (has_any a A.ab.length acap A.ab id w (v.ao.ints i1 (by omega)) rfl (by omega) ok.abr)
    by_cases ha : hasL A.ab id = true
    · have hb := ok.abb _ ((hasL_iff ok.abr).1 ha)
      have hb2 : id.toNat < A.ts.length := by omega
      obtain ⟨g, cap, rfl⟩ := v.tt.shape hb2
      obtain ⟨t0, t1, tf⟩ := v.tt.at rfl hb2
      have tf1 := tf (id.toNat * 2 + 1)
      obtain ⟨v2, d2⟩ := v.task (v.tt.woken rfl (id := id) true hb2) (grown_cell w g (id.toNat * 2 + 1) (.bool true))
      have HX : Hid (∃ F', Sc (w.setCell ⟨g, id.toNat * 2 + 1, none⟩ (.bool true)) s F' ps { A with ts := wokenT A.ts id true } ∧ Wd F F' w (w.setCell ⟨g, id.toNat * 2 + 1, none⟩ (.bool true))) := ⟨F, v2.sc (ok.woken id true), d2⟩
      have e : wakeS A id = (true, { A with ts := wokenT A.ts id true }) := by unfold wakeS; rw [if_neg hw, if_pos ha]
      rw [e]
      rw [ha] at CH
      have hbi : id < (A.ts.length : Int) := hb.2
      have hb0 : 0 ≤ id := hb.1
      clear h v c3 i1 i2 ok hw hw' e ha tf v2 d2 hb l1 l2
      generalize A.ts.length = n at *
      generalize A.ab.length = m at *
      go_enter Try.func21, Try.ntmps21
      go_wp2_with fail
      refine (unhide CT).mono ?_
      clear CT
      rintro e w1 ⟨rfl, rfl⟩
      go_wp2_with fail
      refine (unhide CH).mono ?_
      clear CH
      rintro e w1 ⟨rfl, rfl⟩
      go_wp2_with fail
      go_ret
      exact ⟨rfl, unhide HX⟩
    · have ha' : hasL A.ab id = false := by simpa using ha
      have e : wakeS A id = (false, A) := by unfold wakeS; rw [if_neg hw, if_neg ha]
      rw [e]
      rw [ha'] at CH
      have HX : Hid (∃ F', Sc w s F' ps A ∧ Wd F F' w w) := ⟨F, h, Wd.refl _ _⟩
      clear h v c3 i1 i2 ok hw hw' e ha ha' l1 l2
      generalize A.ab.length = m at *
      go_enter Try.func21, Try.ntmps21
      go_wp2_with fail
      refine (unhide CT).mono ?_
      clear CT
      rintro e w1 ⟨rfl, rfl⟩
      go_wp2_with fail
      refine (unhide CH).mono ?_
      clear CH
      rintro e w1 ⟨rfl, rfl⟩
      go_wp2_with fail
      go_ret
      exact ⟨rfl, unhide HX⟩

end Go.Proofs.Ytenbmfhhmbfgoaa
