
/- The queue's row, and its Less and Swap. -/
import Derived.Test.YthcilobmoeihbaaPilA
import Derived.RangeFuncBox
namespace Go.Proofs.Ythcilobmoeihbaa
open Go.RowKit

/-- the queue's own row -/
def OwnP (w : World) (v : Value) (ms : List (Int × Int)) : Prop := w.ownsRow 0 60 2 v ms.length (itC ms)
theorem OwnP.nil (w : World) : OwnP w (.slice none 0 0) [] := World.ownsRow_nil _ _ _ _
theorem OwnP.form {w : World} {v : Value} {ms : List (Int × Int)} (h : OwnP w v ms) {i : Nat} (hi : i < ms.length) : ∃ g cap, v = .slice (some ⟨g, 0, none⟩) ms.length cap ∧ g < w.heap.size ∧ ms.length ≤ cap := by
  obtain ⟨_, ⟨_, h0⟩ | ⟨g, cap, cur, rfl, _, hh, hcap, _⟩⟩ := h
  · omega
  · exact ⟨g, cap, rfl, (Array.getElem?_eq_some_iff.1 hh).1, hcap⟩
theorem OwnP.at {w : World} {g n cap : Nat} {ms : List (Int × Int)} (h : OwnP w (.slice (some ⟨g, 0, none⟩) n cap) ms) {i : Nat} (hi : i < ms.length) : w.cell? ⟨g, i * 2, none⟩ = some (.int .i64 (atL (0, 0) ms i).1) ∧ w.cell? ⟨g, i * 2 + 1, none⟩ = some (.int .i64 (atL (0, 0) ms i).2) := by
  obtain ⟨_, ⟨h1, _⟩ | ⟨g', cap', cur, e, _, hh, hcap, _, _, ht⟩⟩ := h
  · cases h1
  · cases e
    have hc : ∀ j, j < ms.length * 2 → w.cell? ⟨g, j, none⟩ = (itC ms)[j]? := fun j hj => by
      rw [← ht, List.getElem?_take, if_pos hj, Array.getElem?_toList]
      simp [World.cell?, hh]
    obtain ⟨h1, h2⟩ := itC_at ms i hi
    exact ⟨by rw [hc _ (by omega), h1]; rfl, by rw [hc _ (by omega), h2]; rfl⟩
theorem OwnP.frozen {w : World} {g n cap : Nat} {ms : List (Int × Int)} (h : OwnP w (.slice (some ⟨g, 0, none⟩) n cap) ms) (k : Nat) : w.frozen? ⟨g, k, none⟩ = false := by
  obtain ⟨_, ⟨h1, _⟩ | ⟨g', cap', cur, e, _, hh, _⟩⟩ := h
  · cases h1
  · cases e
    simp [World.frozen?, hh]
theorem OwnP.keep {w w' : World} {v : Value} {ms : List (Int × Int)} (h : OwnP w v ms) (k : Kp w w') : OwnP w' v ms := by
  obtain ⟨h0, h | ⟨g, cap, cur, rfl, hg, hh, r⟩⟩ := h
  · exact ⟨h0, .inl h⟩
  · exact ⟨h0, .inr ⟨g, cap, cur, rfl, hg, by rw [k.block g (Array.getElem?_eq_some_iff.1 hh).1]; exact hh, r⟩⟩

set_option maxRecDepth 20000 in
set_option maxHeartbeats 4000000 in
theorem less_any (g n cap : Nat) (ms : List (Int × Int)) (i j : Nat) (w : World) (h : OwnP w (.slice (some ⟨g, 0, none⟩) n cap) ms) (hg : g < w.heap.size) (hn : ms.length = n) (hi : i < n) (hj : j < n) :
    Calls Try.prog 43 #[.slice (some ⟨g, 0, none⟩) n cap, .int .i64 (i : Int), .int .i64 (j : Int)] w fun e w' => e = .returned (.bool (ltI (atL (0, 0) ms i) (atL (0, 0) ms j))) ∧ Kp w w' := by
  obtain ⟨i0, i1⟩ := h.at (i := i) (by omega)
  obtain ⟨j0, j1⟩ := h.at (i := j) (by omega)
  generalize atL (0, 0) ms i = x at *
  generalize atL (0, 0) ms j = y at *
  have hiI : (i : Int) < (n : Int) := by omega
  have hjI : (j : Int) < (n : Int) := by omega
  have CC := hide (fun w0 (k0 : Kp w w0) => (ahead_any x y w0).mono (R' := fun e w' => e = .returned (.bool (ltI x y)) ∧ Hid (Kp w w') ∧ w'.cell? ⟨g, i * 2, none⟩ = some (.int .i64 x.1) ∧ w'.cell? ⟨g, i * 2 + 1, none⟩ = some (.int .i64 x.2) ∧ w'.cell? ⟨g, j * 2, none⟩ = some (.int .i64 y.1) ∧ w'.cell? ⟨g, j * 2 + 1, none⟩ = some (.int .i64 y.2)) (by
    rintro e w' ⟨rfl, k'⟩
    have k1 := k0.trans k'
    exact ⟨rfl, k1, (Below.cell k1 hg).trans i0, (Below.cell k1 hg).trans i1, (Below.cell k1 hg).trans j0, (Below.cell k1 hg).trans j1⟩))
  clear h hn
  go_enter Try.func43, Try.ntmps43
  go_wp2_with fail
  go_region_held3 (fun w' => w'.cell? ⟨g, i * 2, none⟩ = some (.int .i64 x.1) ∧ w'.cell? ⟨g, i * 2 + 1, none⟩ = some (.int .i64 x.2) ∧ w'.cell? ⟨g, j * 2, none⟩ = some (.int .i64 y.1) ∧ w'.cell? ⟨g, j * 2 + 1, none⟩ = some (.int .i64 y.2)) (go_keep)
    (first
      | (go_at_call 45; refine ((unhide CC) _ ?_).mono ?_; (first | (exact unhide (by assumption)) | exact Kp.drew w | exact Kp.refl w); rintro e w3 ⟨rfl, K3, e0, e1, e2, e3⟩))
  all_goals (
    clear e0 e1 e2 e3
    go_wp2
    go_ret
    exact ⟨rfl, unhide K3⟩)

theorem owns_set {w : World} {base : Nat} {e : TypeId} {size g n cap : Nat} {xs : List Value} (h : w.ownsRow base e size (.slice (some ⟨g, 0, none⟩) n cap) n xs) (k : Nat) (u : Value) : (w.setCell ⟨g, k, none⟩ u).ownsRow base e size (.slice (some ⟨g, 0, none⟩) n cap) n (xs.set k u) := by
  obtain ⟨hl, ⟨h1, _⟩ | ⟨g', cap', cur, e', hb, hh, h2, h3, h4, ht⟩⟩ := h
  · cases h1
  · cases e'
    refine ⟨by simpa using hl, .inr ⟨g, cap, cur.setIfInBounds k u, rfl, hb, ?_, h2, h3, by simpa using h4, ?_⟩⟩
    · simp [World.setCell, Array.getElem?_modify, hh]
    · rw [← ht]
      simp [List.take_set]
theorem itC_set (ms : List (Int × Int)) (i : Nat) (p : Int × Int) : itC (ms.set i p) = ((itC ms).set (i * 2) (.int .i64 p.1)).set (i * 2 + 1) (.int .i64 p.2) := by
  induction ms generalizing i with
  | nil => rfl
  | cons q r ih =>
    cases i with
    | zero => rfl
    | succ i =>
      rw [show (i + 1) * 2 = i * 2 + 1 + 1 by omega]
      simp only [List.set_cons_succ, itC, ih i]
theorem OwnP.set {w : World} {g n cap : Nat} {ms : List (Int × Int)} (h : OwnP w (.slice (some ⟨g, 0, none⟩) n cap) ms) (hn : ms.length = n) (i : Nat) (p : Int × Int) : OwnP ((w.setCell ⟨g, i * 2, none⟩ (.int .i64 p.1)).setCell ⟨g, i * 2 + 1, none⟩ (.int .i64 p.2)) (.slice (some ⟨g, 0, none⟩) n cap) (ms.set i p) := by
  unfold OwnP at h ⊢
  rw [itC_set, List.length_set]
  subst hn
  exact owns_set (owns_set h _ _) _ _

set_option maxRecDepth 20000 in
set_option maxHeartbeats 4000000 in
theorem swap_any (g n cap : Nat) (ms : List (Int × Int)) (i j : Nat) (w : World) (h : OwnP w (.slice (some ⟨g, 0, none⟩) n cap) ms) (hn : ms.length = n) (hi : i < n) (hj : j < n) :
    Calls Try.prog 44 #[.slice (some ⟨g, 0, none⟩) n cap, .int .i64 (i : Int), .int .i64 (j : Int)] w fun e w' => e = .returned (.tuple #[]) ∧ OwnP w' (.slice (some ⟨g, 0, none⟩) n cap) (swpL (0, 0) ms i j) ∧ Kx g w w' := by
  obtain ⟨i0, i1⟩ := h.at (i := i) (by omega)
  obtain ⟨j0, j1⟩ := h.at (i := j) (by omega)
  have fi0 := h.frozen (i * 2)
  have fi1 := h.frozen (i * 2 + 1)
  have fj0 := h.frozen (j * 2)
  have fj1 := h.frozen (j * 2 + 1)
  have hiI : (i : Int) < (n : Int) := by omega
  have hjI : (j : Int) < (n : Int) := by omega
  have HO1 := hide ((h.set hn i (atL (0, 0) ms j)).set (by simpa using hn) j (atL (0, 0) ms i))
  have e0 : (ms.set i (atL (0, 0) ms j)).set j (atL (0, 0) ms i) = swpL (0, 0) ms i j := rfl
  rw [e0] at HO1
  have HK := hide ((((Kx.refl g w).set (i * 2) (.int .i64 (atL (0, 0) ms j).1)).set (i * 2 + 1) (.int .i64 (atL (0, 0) ms j).2)).set (j * 2) (.int .i64 (atL (0, 0) ms i).1) |>.set (j * 2 + 1) (.int .i64 (atL (0, 0) ms i).2))
  clear h e0
  by_cases hij : i = j
  · subst hij
    go_enter Try.func44, Try.ntmps44
    go_wp2_with fail
    go_region
    go_wp2
    refine bodyPost_end (v := .tuple #[]) (results_none Try.results44 _ _ _) rfl ⟨rfl, unhide HO1, (unhide HK).kp (Kp.drew _)⟩
  · have hji : ¬ j = i := fun e => hij e.symm
    have n1 : ¬ i * 2 = j * 2 + 1 := by omega
    have n2 : ¬ i * 2 + 1 = j * 2 := by omega
    have n3 : ¬ j * 2 = i * 2 + 1 := by omega
    have n4 : ¬ j * 2 + 1 = i * 2 := by omega
    go_enter Try.func44, Try.ntmps44
    go_wp2_with fail
    go_region
    go_wp2
    refine bodyPost_end (v := .tuple #[]) (results_none Try.results44 _ _ _) rfl ⟨rfl, unhide HO1, (unhide HK).kp (Kp.drew _)⟩

end Go.Proofs.Ythcilobmoeihbaa
