
/- Literal hooks; hooks that came in; the document's own case, as the laws of hook ask for it first. -/
import Derived.Test.YtlfjclnocbohbaaHokH
import Derived.Test.YtlfjclnocbohbaaOpn
namespace Go.Proofs.Ytlfjclnocbohbaa
open Go.RowKit Go.ChangeShapes

theorem list_num9 : ∀ {ds L : List Nat}, ds.map cn = L → L.all (fun x => !nanW x) = true → ds = L
  | [], [], _, _ => rfl
  | x :: ds, y :: L, h, hn => by
    simp only [List.map_cons, List.cons.injEq] at h
    simp only [List.all_cons, Bool.and_eq_true, Bool.not_eq_true'] at hn
    rw [is_num h.1 rfl hn.1, list_num9 h.2 hn.2]
  | [], _ :: _, h, _ => by simp at h
  | _ :: _, [], h, _ => by simp at h

def hkCells : List Hk → List Value
  | [] => []
  | h :: t => .int .i64 h.k :: .float .f64 h.x :: hkCells t
theorem hkCells_at : ∀ (hs : List Hk) (i : Nat), i < hs.length → (hkCells hs)[i * 2]? = some (.int .i64 (hs.getD i hnil).k) ∧ (hkCells hs)[i * 2 + 1]? = some (.float .f64 (hs.getD i hnil).x)
  | [], i, h => by simp at h
  | h :: t, 0, _ => ⟨rfl, rfl⟩
  | h :: t, i + 1, hi => by
    have := hkCells_at t i (by simpa using hi)
    rw [show (i + 1) * 2 = i * 2 + 2 by omega, show i * 2 + 2 + 1 = i * 2 + 1 + 2 by omega]
    simpa [hkCells] using this
def okH (h : Hk) : Bool := decide (-9223372036854775808 ≤ h.k) && decide (h.k ≤ 9223372036854775807) && decide (h.x < 18446744073709551616)
theorem lit_hooks (w : World) (hs : List Hk) (c : Array Value) (B n m : Nat) (hc : c = (hkCells hs).toArray) (hB : B = w.heap.size) (hn : hs.length = n) (hl : n ≤ 1000000) (hw : hs.all okH = true) :
    Hooks (w.alloc (.cells c 52)) (.slice (some ⟨B, 0, none⟩) n m) hs := by
  subst hc hB hn
  have hb : (w.alloc (.cells (hkCells hs).toArray 52)).heap[w.heap.size]? = some (.cells (hkCells hs).toArray 52) := by simp only [World.alloc, Array.getElem?_push_size]
  generalize w.alloc (.cells (hkCells hs).toArray 52) = W at hb ⊢
  generalize w.heap.size = B at hb ⊢
  have hcell : ∀ j v, (hkCells hs)[j]? = some v → W.cell? ⟨B, j, none⟩ = some v := by
    intro j v hj
    simp [World.cell?, hb, hj]
  refine ⟨hl, _, m, rfl, fun _ => ⟨B, 0, rfl, (Array.getElem?_eq_some_iff.1 hb).1, fun i hi => ?_⟩⟩
  have := hkCells_at hs i hi
  rw [Nat.zero_add]
  have e : hs.getD i hnil = hs[i] := by simp [hi]
  have ho := List.all_eq_true.1 hw _ (List.getElem_mem hi)
  rw [← e] at ho
  unfold okH at ho
  simp only [Bool.and_eq_true, decide_eq_true_eq] at ho
  exact ⟨hcell _ _ this.1, hcell _ _ this.2, ⟨ho.1.1, ho.1.2⟩, ho.2⟩

/-- hooks that came in -/
def InHooks (w : World) (a : Option Addr) (len cap : Nat) : Prop :=
  (a = none ∧ len = 0 ∧ cap = 0) ∨ ∃ x, a = some x ∧ len ≤ cap ∧ cap ≤ maxLen ∧ (0 < cap → ∃ b off, x = ⟨b, off, none⟩ ∧ b < w.heap.size ∧ ∀ i, i < cap → ∃ h : Hk, HkAt w b (off + i * 2) h)
theorem InHooks.max {w : World} {a : Option Addr} {len cap : Nat} (h : InHooks w a len cap) : len ≤ 9223372036854775807 ∧ len ≤ cap ∧ cap ≤ 9223372036854775807 := by
  rcases h with ⟨_, rfl, rfl⟩ | ⟨x, _, h1, h2, _⟩
  · omega
  · unfold maxLen at h2; omega
theorem InHooks.hooks {w : World} {a : Option Addr} {len cap : Nat} (h : InHooks w a len cap) (hl : len ≤ 1000000) : ∃ hs, hs.length = len ∧ Hooks w (.slice a len cap) hs := by
  rcases h with ⟨rfl, rfl, rfl⟩ | ⟨x, rfl, h1, h2, h3⟩
  · exact ⟨[], rfl, Hooks.nil _ _ _⟩
  · by_cases h0 : len = 0
    · subst h0
      exact ⟨[], rfl, Hooks.nil _ _ _⟩
    · obtain ⟨b, off, rfl, hb, hc⟩ := h3 (by omega)
      refine ⟨(List.range len).map (fun i => if hi : i < cap then Classical.choose (hc i hi) else hnil), by simp, by simpa using hl, _, cap, by simp, fun _ => ⟨b, off, rfl, hb, fun i hi => ?_⟩⟩
      have hi' : i < len := by simpa using hi
      have e : ((List.range len).map (fun i => if hi : i < cap then Classical.choose (hc i hi) else hnil)).getD i hnil = Classical.choose (hc i (by omega)) := by
        simp [hi', show i < cap by omega]
      rw [e]
      exact Classical.choose_spec (hc i (by omega))
theorem InHooks.keep {w w' : World} {a : Option Addr} {len cap : Nat} (h : InHooks w a len cap) (k : Kp w w') : InHooks w' a len cap := by
  rcases h with h | ⟨x, rfl, h1, h2, h3⟩
  · exact .inl h
  · refine .inr ⟨x, rfl, h1, h2, fun hp => ?_⟩
    obtain ⟨b, off, rfl, hb, hc⟩ := h3 hp
    refine ⟨b, off, rfl, Nat.lt_of_lt_of_le hb k.size, fun i hi => ?_⟩
    obtain ⟨h, hh⟩ := hc i hi
    exact ⟨h, hh.keep hb k⟩

set_option maxHeartbeats 4000000 in
theorem awake9_any (w : World) : Calls Try.prog 11 #[] w fun e w' => e = .returned (.bool true) ∧ Kp w w' := by
  have hq : (FloatKind.f64.format.order 4611686018427387904 4611686018427387904 == some Ordering.eq) = true := by decide +kernel
  go_enter Try.func11, Try.ntmps11
  go_wp2_with fail
  have A1 := lit_hooks w [⟨1, 4611686018427387904⟩] #[.int .i64 1, .float .f64 4611686018427387904] w.heap.size 1 1 rfl rfl rfl (by decide) (by decide)
  have k1 := Kp.alloc w (.cells #[.int .i64 1, .float .f64 4611686018427387904] 52)
  have s1 : (w.alloc (.cells #[.int .i64 1, .float .f64 4611686018427387904] 52)).heap.size = w.heap.size + 1 := by simp
  rw [← s1]
  generalize w.alloc (.cells #[.int .i64 1, .float .f64 4611686018427387904] 52) = u1 at *
  have A2 := lit_ints u1 3 [1] #[.int .i64 1] u1.heap.size 1 rfl rfl rfl (by unfold I64; decide) (by decide)
  have k2 := Kp.alloc u1 (.cells #[.int .i64 1] 3)
  have s2 : (u1.alloc (.cells #[.int .i64 1] 3)).heap.size = u1.heap.size + 1 := by simp
  rw [← s2]
  generalize u1.alloc (.cells #[.int .i64 1] 3) = u2 at *
  have A3 := lit_flts u2 23 [4607182418800017408] #[.float .f64 4607182418800017408] u2.heap.size 1 rfl rfl rfl (by unfold W64; decide) (by decide)
  have k3 := Kp.alloc u2 (.cells #[.float .f64 4607182418800017408] 23)
  generalize u2.alloc (.cells #[.float .f64 4607182418800017408] 23) = u3 at *
  have P1 := hide (A1.keep (k2.trans k3))
  have P2 := hide (A2.keep k3)
  have P3 := hide A3
  have K3 := hide (k1.trans (k2.trans k3))
  clear A1 A2 A3 k1 k2 k3 s1 s2
  refine (do_all _ [⟨1, 4611686018427387904⟩] _ _ [1] [4607182418800017408] u3 (unhide P1) (unhide P2) (unhide P3)).mono ?_
  rw [show hoS [⟨1, 4611686018427387904⟩] [1] [4607182418800017408] = [1] by decide +kernel, show hoE [⟨1, 4611686018427387904⟩] [1] [4607182418800017408] = 0 by decide +kernel, show hoD [⟨1, 4611686018427387904⟩] [1] [4607182418800017408] = [4611686018427387904] by decide +kernel]
  rintro e w4 ⟨ds, ⟨a1, c1, a2, c2, rfl, i1, f1, -, -⟩, hc, k4⟩
  obtain rfl := list_num9 hc (by decide +kernel)
  have F4 := hide f1
  have K4 := hide ((unhide K3).trans k4)
  clear hc i1 f1 k4 P1 P2 P3 K3
  go_upto_region 2 with fail
  have X5 := hide (Bx.made w4 (.slice a1 1 c1) (.slice a2 1 c2))
  have ka := Kp.alloc w4 (.cells #[.slice a1 1 c1, .slice a2 1 c2] 31)
  have K5 := hide ((unhide K4).trans ka)
  have F5 := hide ((unhide F4).keep ka)
  clear ka K4 F4
  generalize w4.alloc (.cells #[.slice a1 1 c1, .slice a2 1 c2] 31) = w5 at *
  generalize w4.heap.size = Y at *
  obtain ⟨b, off, rfl, -, hc⟩ := flts_at' (unhide F5) (by decide)
  have hc0 := hc 0 (by decide)
  simp only [List.getD_cons_zero, Nat.add_zero] at hc0
  obtain ⟨x0, x1, -, -, -⟩ := (unhide X5).o
  clear hc
  go_wp2_with fail
  refine (mayH_run _ [] w5 (Hooks.nil _ _ _)).mono ?_
  rw [show mayH [] = true by decide +kernel]
  rintro e w6 ⟨rfl, k6⟩
  have K6 := hide ((unhide K5).trans k6)
  clear k6 x0 x1 hc0
  go_wp2_with fail
  have A7 := lit_hooks w6 [⟨5, 0⟩] #[.int .i64 5, .float .f64 0] w6.heap.size 1 1 rfl rfl rfl (by decide) (by decide)
  have k7 := Kp.alloc w6 (.cells #[.int .i64 5, .float .f64 0] 52)
  have P7 := hide A7
  have K7 := hide ((unhide K6).trans k7)
  clear A7 k7
  generalize w6.alloc (.cells #[.int .i64 5, .float .f64 0] 52) = w7 at *
  refine (mayH_run _ [⟨5, 0⟩] w7 (unhide P7)).mono ?_
  rw [show mayH [⟨5, 0⟩] = false by decide +kernel]
  rintro e w8 ⟨rfl, k8⟩
  have K8 := hide ((unhide K7).trans k8)
  clear k8
  go_wp2
  go_ret
  exact ⟨rfl, unhide K8⟩

end Go.Proofs.Ytlfjclnocbohbaa
