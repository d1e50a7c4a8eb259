
/- Literal hooks; hooks that came in; the document's own case, as the laws of hook ask for it first. -/
import Derived.Test.YtliddjpcbhdplaaHokH
import Derived.Test.YtliddjpcbhdplaaOpn
namespace Go.Proofs.Ytliddjpcbhdplaa
open Go.RowKit Go.ChangeShapes

theorem list_num9 : ∀ {ds L : List Nat}, ds.map cn = L → L.all (fun x => !nanW x) = true → ds = L
  | [], [], _, _ => rfl
  | x :: ds, y :: L, h, hn => by
    simp only [List.map_cons, List.cons.injEq] at h
    simp only [List.all_cons, Bool.and_eq_true, Bool.not_eq_true'] at hn
    rw [is_num h.1 rfl hn.1, list_num9 h.2 hn.2]
  | [], _ :: _, h, _ => by simp at h
  | _ :: _, [], h, _ => by simp at h

def hkCells : List Hk → List Value
  | [] => []
  | h :: t => .int .i64 h.k :: .float .f64 h.x :: hkCells t
theorem hkCells_at : ∀ (hs : List Hk) (i : Nat), i < hs.length → (hkCells hs)[i * 2]? = some (.int .i64 (hs.getD i hnil).k) ∧ (hkCells hs)[i * 2 + 1]? = some (.float .f64 (hs.getD i hnil).x)
  | [], i, h => by simp at h
  | h :: t, 0, _ => ⟨rfl, rfl⟩
  | h :: t, i + 1, hi => by
    have := hkCells_at t i (by simpa using hi)
    rw [show (i + 1) * 2 = i * 2 + 2 by omega, show i * 2 + 2 + 1 = i * 2 + 1 + 2 by omega]
    simpa [hkCells] using this
def okH (h : Hk) : Bool := decide (-9223372036854775808 ≤ h.k) && decide (h.k ≤ 9223372036854775807) && decide (h.x < 18446744073709551616)
theorem lit_hooks (w : World) (hs : List Hk) (c : Array Value) (B n m : Nat) (hc : c = (hkCells hs).toArray) (hB : B = w.heap.size) (hn : hs.length = n) (hl : n ≤ 1000000) (hw : hs.all okH = true) :
    Hooks (w.alloc (.cells c 91)) (.slice (some ⟨B, 0, none⟩) n m) hs := by
  subst hc hB hn
  have hb : (w.alloc (.cells (hkCells hs).toArray 91)).heap[w.heap.size]? = some (.cells (hkCells hs).toArray 91) := by simp only [World.alloc, Array.getElem?_push_size]
  generalize w.alloc (.cells (hkCells hs).toArray 91) = W at hb ⊢
  generalize w.heap.size = B at hb ⊢
  have hcell : ∀ j v, (hkCells hs)[j]? = some v → W.cell? ⟨B, j, none⟩ = some v := by
    intro j v hj
    simp [World.cell?, hb, hj]
  refine ⟨hl, _, m, rfl, fun _ => ⟨B, 0, rfl, (Array.getElem?_eq_some_iff.1 hb).1, fun i hi => ?_⟩⟩
  have := hkCells_at hs i hi
  rw [Nat.zero_add]
  have e : hs.getD i hnil = hs[i] := by simp [hi]
  have ho := List.all_eq_true.1 hw _ (List.getElem_mem hi)
  rw [← e] at ho
  unfold okH at ho
  simp only [Bool.and_eq_true, decide_eq_true_eq] at ho
  exact ⟨hcell _ _ this.1, hcell _ _ this.2, ⟨ho.1.1, ho.1.2⟩, ho.2⟩

/-- hooks that came in -/
def InHooks (w : World) (a : Option Addr) (len cap : Nat) : Prop :=
  (a = none ∧ len = 0 ∧ cap = 0) ∨ ∃ x, a = some x ∧ len ≤ cap ∧ cap ≤ maxLen ∧ (0 < cap → ∃ b off, x = ⟨b, off, none⟩ ∧ b < w.heap.size ∧ ∀ i, i < cap → ∃ h : Hk, HkAt w b (off + i * 2) h)
theorem InHooks.max {w : World} {a : Option Addr} {len cap : Nat} (h : InHooks w a len cap) : len ≤ 9223372036854775807 ∧ len ≤ cap ∧ cap ≤ 9223372036854775807 := by
  rcases h with ⟨_, rfl, rfl⟩ | ⟨x, _, h1, h2, _⟩
  · omega
  · unfold maxLen at h2; omega
theorem InHooks.hooks {w : World} {a : Option Addr} {len cap : Nat} (h : InHooks w a len cap) (hl : len ≤ 1000000) : ∃ hs, hs.length = len ∧ Hooks w (.slice a len cap) hs := by
  rcases h with ⟨rfl, rfl, rfl⟩ | ⟨x, rfl, h1, h2, h3⟩
  · exact ⟨[], rfl, Hooks.nil _ _ _⟩
  · by_cases h0 : len = 0
    · subst h0
      exact ⟨[], rfl, Hooks.nil _ _ _⟩
    · obtain ⟨b, off, rfl, hb, hc⟩ := h3 (by omega)
      refine ⟨(List.range len).map (fun i => if hi : i < cap then Classical.choose (hc i hi) else hnil), by simp, by simpa using hl, _, cap, by simp, fun _ => ⟨b, off, rfl, hb, fun i hi => ?_⟩⟩
      have hi' : i < len := by simpa using hi
      have e : ((List.range len).map (fun i => if hi : i < cap then Classical.choose (hc i hi) else hnil)).getD i hnil = Classical.choose (hc i (by omega)) := by
        simp [hi', show i < cap by omega]
      rw [e]
      exact Classical.choose_spec (hc i (by omega))
theorem InHooks.keep {w w' : World} {a : Option Addr} {len cap : Nat} (h : InHooks w a len cap) (k : Kp w w') : InHooks w' a len cap := by
  rcases h with h | ⟨x, rfl, h1, h2, h3⟩
  · exact .inl h
  · refine .inr ⟨x, rfl, h1, h2, fun hp => ?_⟩
    obtain ⟨b, off, rfl, hb, hc⟩ := h3 hp
    refine ⟨b, off, rfl, Nat.lt_of_lt_of_le hb k.size, fun i hi => ?_⟩
    obtain ⟨h, hh⟩ := hc i hi
    exact ⟨h, hh.keep hb k⟩

end Go.Proofs.Ytliddjpcbhdplaa
