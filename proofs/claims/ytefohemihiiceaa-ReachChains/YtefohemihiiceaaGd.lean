/- Texts of our own that others begin with, in one: HokB, HokC, HokD, HokE, HokF, HokG, HokH, HokI. -/
import Derived.Test.YtefohemihiiceaaHokA
import Derived.Deep.DeepCutAuto
import Derived.Deep.RegionHeldLaw
import Derived.Test.YtefohemihiiceaaGa

/- The contract of the document's HookMay. -/
namespace Go.Proofs.Ytefohemihiiceaa
open Go.RowKit

/-- laid into a box while hooks are asked -/
theorem wr_parts {k : Int} {x : Nat} (b : Bool) (h : wrB ⟨k, x⟩ = b) : (k < 1 ∧ b = true) ∨ (4 < k ∧ b = true) ∨ (k = 1 ∧ b = false) ∨ (k = 2 ∧ b = !geB x) ∨ ((k = 3 ∨ k = 4) ∧ b = (DD.order x 0 != some .eq)) := by
  by_cases h1 : k = 1
  · subst h1
    rw [wrB_1 rfl] at h
    exact .inr (.inr (.inl ⟨rfl, h.symm⟩))
  by_cases h2 : k = 2
  · subst h2
    rw [wrB_2 rfl] at h
    exact .inr (.inr (.inr (.inl ⟨rfl, h.symm⟩)))
  by_cases h3 : k = 3 ∨ k = 4
  · rw [wrB_34 h3] at h
    exact .inr (.inr (.inr (.inr ⟨h3, h.symm⟩)))
  rw [wrB_other (h := ⟨k, x⟩) (by show ¬ (k = 1 ∨ k = 2 ∨ k = 3 ∨ k = 4); omega)] at h
  by_cases h4 : k < 1
  · exact .inl ⟨h4, h.symm⟩
  · exact .inr (.inl ⟨by omega, h.symm⟩)

end Go.Proofs.Ytefohemihiiceaa

/- Contracts of the steps of hooks. -/
namespace Go.Proofs.Ytefohemihiiceaa
open Go.RowKit

/-- a hook as it is handed over -/
def hkV (h : Hk) : Value := .agg #[.int .i64 h.k, .float .f64 h.x]

/-- what a step hands back -/
def stE (h : Hk) (d : List Nat) : Int := if h.k = 4 ∧ anyB endB d = true then 8 else 0
def stS (h : Hk) (s : List Int) (d : List Nat) : List Int := if h.k = 4 ∧ anyB endB d = true then [] else s
def stD (h : Hk) (d : List Nat) : List Nat := if h.k = 4 ∧ anyB endB d = true then [] else d.map (hkC h)
theorem st_ok {h : Hk} {s : List Int} {d : List Nat} (e : h.k ≠ 4 ∨ anyB endB d = false) : stE h d = 0 ∧ stS h s d = s ∧ stD h d = d.map (hkC h) := by
  have q : ¬ (h.k = 4 ∧ anyB endB d = true) := by
    rintro ⟨a, b⟩
    rcases e with e | e
    · exact e a
    · rw [e] at b; cases b
  exact ⟨if_neg q, if_neg q, if_neg q⟩
theorem st_bad {h : Hk} {s : List Int} {d : List Nat} (e : h.k = 4) (b : anyB endB d = true) : stE h d = 8 ∧ stS h s d = [] ∧ stD h d = [] := ⟨if_pos ⟨e, b⟩, if_pos ⟨e, b⟩, if_pos ⟨e, b⟩⟩

/-- the contract of all four -/
def Steps (g : Nat) (h : Hk) : Prop := ∀ (sv dv : Value) (s : List Int) (d : List Nat) (w : World), Ints w sv s → Flts w dv d → Roomy dv → mayT s d = true →
  Calls Try.prog g #[.agg #[.int .i64 h.k, .float .f64 h.x], .agg #[sv, dv]] w fun e w' => ∃ ds, HandR e w' (stS h s d) ds (stE h d) ∧ ds.map cn = stD h d ∧ Kp w w'

theorem two_pairs (t : TypeId) (w : World) (a b x y u v : Value) : ∃ W, W = ((w.alloc (.cells #[a, b] t)).alloc (.cells #[x, y] 44)).alloc (.cells #[u, v] 44) ∧ Px t W w.heap.size a b ∧ Bx W (w.heap.size + 1) x y ∧ Bx W (w.heap.size + 2) u v ∧ Kp w W := by
  obtain ⟨W, hW, x1, x2, k⟩ := boxes_in (w.alloc (.cells #[a, b] t)) x y u v
  have e1 : (w.alloc (Obj.cells #[a, b] t)).heap.size = w.heap.size + 1 := by simp
  rw [e1] at x1 x2
  exact ⟨W, hW, (Px.made t w a b).keep k, x1, x2, (Kp.alloc w _).trans k⟩

end Go.Proofs.Ytefohemihiiceaa

/- Contracts of the four steps of hooks. -/
namespace Go.Proofs.Ytefohemihiiceaa
open Go.RowKit

theorem map_hk {h : Hk} {d ds : List Nat} {Q : Nat → Nat → Prop} (hl : ds.length = d.length) (hq : ∀ j, j < d.length → Q (d.getD j 0) (ds.getD j 0)) (hQ : ∀ x r, Q x r → cn r = hkC h x) : ds.map cn = d.map (hkC h) := by
  apply List.ext_getElem
  · simp [hl]
  · intro i h1 h2
    have hi : i < d.length := by simpa using h2
    have := hQ _ _ (hq i hi)
    simpa [hi, hl] using this
/-- a pair laid into the box of the result, and an error -/
theorem lay_pair {w w1 w2 : World} {R : Nat} {x y : Value} (k1 : Kp w w1) (k2 : Kp w1 w2) (hb : Bx w1 R x y) (hR : w.heap.size ≤ R) {s : List Int} {ds : List Nat} {a1 : Option Addr} {n1 c1 G c : Nat}
    (o : Own w2 3 w1.heap.size (.slice a1 n1 c1) s) (hG : w1.heap.size ≤ G) (og : OwnG w2 71 G ds.length c ds) (hm : mayT s ds = true) (hs : ∀ x ∈ s, I64 x) (hw : ∀ x ∈ ds, W64 x) :
    HandR (.returned (.tuple #[.agg #[.slice a1 n1 c1, .slice (some ⟨G, 0, none⟩) ds.length c], .int .i64 0])) ((w2.setCell ⟨R, 0, none⟩ (.slice a1 n1 c1)).setCell ⟨R, 1, none⟩ (.slice (some ⟨G, 0, none⟩) ds.length c)) s ds 0 ∧
      Kp w ((w2.setCell ⟨R, 0, none⟩ (.slice a1 n1 c1)).setCell ⟨R, 1, none⟩ (.slice (some ⟨G, 0, none⟩) ds.length c)) := by
  have f := Fin.mk' o hG og k1 k2 hb hR
  exact ⟨HandR.fin f hm hs hw, f.kp⟩
theorem mayT_same {s : List Int} {d ds : List Nat} (h : mayT s d = true) (hl : ds.length = d.length) : mayT s ds = true := by
  have hm := mayT_may h
  rw [mayT_yes hm] at h ⊢
  rw [hl]
  exact h

end Go.Proofs.Ytefohemihiiceaa

/- Contracts of step and Do. -/
namespace Go.Proofs.Ytefohemihiiceaa
open Go.RowKit

/-- of numbers after some hooks: the next one -/
theorem st_next {hs : List Hk} {j : Nat} {c0 ds : List Nat} (hj : j < hs.length) (h : hkL (hs.take j) c0 = some (ds.map cn)) :
    hkL (hs.take (j + 1)) c0 = if (hs.getD j hnil).k = 4 ∧ anyB endB ds = true then none else some (ds.map (hkC (hs.getD j hnil))) := by
  rw [hkL_step hj, h]
  show oneH _ _ = _
  unfold oneH
  rw [anyB_cn, List.map_map]
  have e : (hkC (hs.getD j hnil) ∘ cn) = hkC (hs.getD j hnil) := funext fun x => hkC_cn _ x
  rw [e]

end Go.Proofs.Ytefohemihiiceaa

/- The contract of Do: hooks and a tensor that may be. -/
namespace Go.Proofs.Ytefohemihiiceaa
open Go.RowKit

theorem Bx.sls {w : World} {O b off n c n' c' : Nat} {a a' : Option Addr} {v : Value} (hb : Bx w O (.slice a n c) (.slice a' n' c')) (h : w.cell? ⟨b, off, none⟩ = some v) (hv : ∀ a n c, v ≠ .slice a n c) : b ≠ O := by
  rintro rfl
  unfold Bx at hb
  simp only [World.cell?, hb] at h
  match off, h with
  | 0, h => simp at h; exact hv _ _ _ h.symm
  | 1, h => simp at h; exact hv _ _ _ h.symm
  | off + 2, h => simp at h
theorem Ints.setBx9 {w : World} {O n c n' c' : Nat} {a a' : Option Addr} {v : Value} {xs : List Int} (h : Ints w v xs) (hb : Bx w O (.slice a n c) (.slice a' n' c')) (u u' : Value) : Ints ((w.setCell ⟨O, 0, none⟩ u).setCell ⟨O, 1, none⟩ u') v xs := by
  obtain ⟨h1, h2, h0, p, cap, rfl, h3⟩ := h
  refine ⟨h1, h2, h0, p, cap, rfl, fun hp => ?_⟩
  obtain ⟨b, off, rfl, hbl, hc⟩ := h3 hp
  have hne : ¬ b = O := hb.sls (hc 0 hp) (by intro a n c e; cases e)
  exact ⟨b, off, rfl, by simpa using hbl, fun i hi => ((cell_other hne _ _).trans (cell_other hne _ _)).trans (hc i hi)⟩
theorem Flts.setBx9 {w : World} {O n c n' c' : Nat} {a a' : Option Addr} {v : Value} {xs : List Nat} (h : Flts w v xs) (hb : Bx w O (.slice a n c) (.slice a' n' c')) (u u' : Value) : Flts ((w.setCell ⟨O, 0, none⟩ u).setCell ⟨O, 1, none⟩ u') v xs := by
  obtain ⟨h1, h2, h0, p, cap, rfl, h3⟩ := h
  refine ⟨h1, h2, h0, p, cap, rfl, fun hp => ?_⟩
  obtain ⟨b, off, rfl, hbl, hc⟩ := h3 hp
  have hne : ¬ b = O := hb.sls (hc 0 hp) (by intro a n c e; cases e)
  exact ⟨b, off, rfl, by simpa using hbl, fun i hi => ((cell_other hne _ _).trans (cell_other hne _ _)).trans (hc i hi)⟩
theorem Bx.setO9 {w : World} {R O : Nat} {x y : Value} (h : Bx w R x y) (hne : R ≠ O) (u u' : Value) : Bx ((w.setCell ⟨O, 0, none⟩ u).setCell ⟨O, 1, none⟩ u') R x y := by
  unfold Bx at h ⊢
  exact ((Below.heap_setCell _ ⟨O, 1, none⟩ u' R hne).trans (Below.heap_setCell w ⟨O, 0, none⟩ u R hne)).trans h

end Go.Proofs.Ytefohemihiiceaa

/- Contracts of the document's Hook where it refuses; what its loops keep. -/
namespace Go.Proofs.Ytefohemihiiceaa
open Go.RowKit

theorem info_flt9 : (Try.prog.info? 71).map (fun i => (i.zero, i.size, i.bytes)) = some (some (.float .f64 0), 1, 8) := by kernel_rfl
/-- 'append(nil, s...)' as one step of a region that draws; S: what abides -/
theorem step_nilF9 {ops : Array Oper} {o : Oper} {a : Act} {w : World} {K : Act → World → Prop} {Q : Exit → Act → World → Prop} {E : Prop} (S : World → Prop)
    (hg : o.guard = none) (s x : Operand) (hop : o.op = Op.call { callee := Callee.builtin Builtin.append, args := #[s, x], argTypes := #[42, 42] })
    (u : Value) (ys : List Nat) (hs : a.eval s = .slice none 0 0) (hx : a.eval x = u) (w0 : World) (kp : Kp w0 w) (hu : Flts w0 u ys) (hroom : ys.length ≤ 1000000) (hS : ∀ w1, Kp w0 w1 → S w1)
    (h : ∀ b n c w', Hid (OwnF w' 71 w0.heap.size (.slice b n c) ys) → Hid (Kp w w') → Hid (Kp w0 w') → S w' → K (a.put o.dst (.slice b n c)) w') :
    if Region.wanted o (yielded ops a.tmps) = true then Oper.wp Try.prog o a w K Q else E := by
  have hw : Region.wanted o (yielded ops a.tmps) = true := by simp [Region.wanted, hg]
  rw [if_pos hw]
  obtain ⟨v', w', hrun, h1, h2⟩ := run_append_flts (P := Try.prog) w w.heap.size 42 o.type 71 info_flt9 Try.underlying42 (.slice none 0 0) u [] ys (OwnF.nil _ _ _) (hu.keep kp) (by simp; omega) (Nat.le_refl _)
  have k2 : Kp w w' := (Kp.refl w).of_grown h2 (fun k hk => (OwnF.nil w 71 w.heap.size).block k hk)
  rw [List.nil_append] at h1
  obtain ⟨b, n, c, rfl⟩ := h1.sl
  unfold Oper.wp
  simp [execOp, hop, resolve, invoke, builtin, hs, hx, hrun, Result.andThen]
  exact h b n c w' (h1.weak kp.size) k2 (kp.trans k2) (hS _ (kp.trans k2))

/-- one number of a row changed, the next one in turn -/
theorem rnd {w5 wi w' : World} {G n c k r : Nat} {ms ds : List Nat} {y : Hk} (OG : OwnG wi 71 G n c (ms ++ ds.drop k)) (hm : ms.length = k) (hk : k < n) (hd : ds.length = n) (HM : ∀ x ∈ ms, W64 x) (HR : ∀ j, j < k → cn (ms.getD j 0) = hkC y (ds.getD j 0))
    (KR : Kx G w5 wi) (kp : Kp wi w') (hr : cn r = hkC y (ds.getD k 0)) (hw : W64 r) :
    (ms ++ [r]).length = k + 1 ∧ OwnG (w'.setCell ⟨G, k, none⟩ (.float .f64 r)) 71 G n c ((ms ++ [r]) ++ ds.drop (k + 1)) ∧ (∀ x ∈ ms ++ [r], W64 x) ∧ (∀ j, j < k + 1 → cn ((ms ++ [r]).getD j 0) = hkC y (ds.getD j 0)) ∧ Kx G w5 (w'.setCell ⟨G, k, none⟩ (.float .f64 r)) := by
  refine ⟨by simp [hm], ?_, ?_, ?_, (KR.kp kp).set k _⟩
  · have h := (OG.keep kp).set k r
    have e : (ms ++ ds.drop k).set k r = (ms ++ [r]) ++ ds.drop (k + 1) := by
      rw [List.set_append_right _ _ (by omega), hm, Nat.sub_self, List.drop_eq_getElem_cons (show k < ds.length by omega)]
      simp only [List.set_cons_zero, List.append_assoc, List.singleton_append]
    rw [e] at h
    exact h
  · intro x hx
    rcases List.mem_append.1 hx with h | h
    · exact HM x h
    · rw [List.mem_singleton.1 h]
      exact hw
  · intro j hj
    by_cases e : j = k
    · subst e
      have : (ms ++ [r]).getD j 0 = r := by
        rw [List.getD_eq_getElem?_getD, List.getElem?_append_right (by omega), hm, Nat.sub_self]; rfl
      rw [this]
      exact hr
    · have : (ms ++ [r]).getD j 0 = ms.getD j 0 := by
        rw [List.getD_eq_getElem?_getD, List.getElem?_append_left (by omega), ← List.getD_eq_getElem?_getD]
      rw [this]
      exact HR j (by omega)
theorem cell_k {wi : World} {G n c k : Nat} {ms ds : List Nat} (OG : OwnG wi 71 G n c (ms ++ ds.drop k)) (hm : ms.length = k) (hk : k < n) : wi.cell? ⟨G, k, none⟩ = some (.float .f64 (ds.getD k 0)) := by
  have h := OG.cell hk
  have hx : (ms ++ ds.drop k).getD k 0 = ds.getD k 0 := by
    rw [List.getD_eq_getElem?_getD, List.getElem?_append_right (by omega), hm, Nat.sub_self, List.getElem?_drop, Nat.add_zero, ← List.getD_eq_getElem?_getD]
  rw [hx] at h
  exact h

end Go.Proofs.Ytefohemihiiceaa

/- The contract of the document's Hook: hooks and a tensor that may be. -/
namespace Go.Proofs.Ytefohemihiiceaa
open Go.RowKit

end Go.Proofs.Ytefohemihiiceaa

/- Literal hooks; hooks that came in; the document's own case, as the laws of hook ask for it first. -/
namespace Go.Proofs.Ytefohemihiiceaa
open Go.RowKit Go.ChangeShapes

theorem list_num9 : ∀ {ds L : List Nat}, ds.map cn = L → L.all (fun x => !nanW x) = true → ds = L
  | [], [], _, _ => rfl
  | x :: ds, y :: L, h, hn => by
    simp only [List.map_cons, List.cons.injEq] at h
    simp only [List.all_cons, Bool.and_eq_true, Bool.not_eq_true'] at hn
    rw [is_num h.1 rfl hn.1, list_num9 h.2 hn.2]
  | [], _ :: _, h, _ => by simp at h
  | _ :: _, [], h, _ => by simp at h

def hkCells : List Hk → List Value
  | [] => []
  | h :: t => .int .i64 h.k :: .float .f64 h.x :: hkCells t
theorem hkCells_at : ∀ (hs : List Hk) (i : Nat), i < hs.length → (hkCells hs)[i * 2]? = some (.int .i64 (hs.getD i hnil).k) ∧ (hkCells hs)[i * 2 + 1]? = some (.float .f64 (hs.getD i hnil).x)
  | [], i, h => by simp at h
  | h :: t, 0, _ => ⟨rfl, rfl⟩
  | h :: t, i + 1, hi => by
    have := hkCells_at t i (by simpa using hi)
    rw [show (i + 1) * 2 = i * 2 + 2 by omega, show i * 2 + 2 + 1 = i * 2 + 1 + 2 by omega]
    simpa [hkCells] using this
def okH (h : Hk) : Bool := decide (-9223372036854775808 ≤ h.k) && decide (h.k ≤ 9223372036854775807) && decide (h.x < 18446744073709551616)
theorem lit_hooks (w : World) (hs : List Hk) (c : Array Value) (B n m : Nat) (hc : c = (hkCells hs).toArray) (hB : B = w.heap.size) (hn : hs.length = n) (hl : n ≤ 1000000) (hw : hs.all okH = true) :
    Hooks (w.alloc (.cells c 73)) (.slice (some ⟨B, 0, none⟩) n m) hs := by
  subst hc hB hn
  have hb : (w.alloc (.cells (hkCells hs).toArray 73)).heap[w.heap.size]? = some (.cells (hkCells hs).toArray 73) := by simp only [World.alloc, Array.getElem?_push_size]
  generalize w.alloc (.cells (hkCells hs).toArray 73) = W at hb ⊢
  generalize w.heap.size = B at hb ⊢
  have hcell : ∀ j v, (hkCells hs)[j]? = some v → W.cell? ⟨B, j, none⟩ = some v := by
    intro j v hj
    simp [World.cell?, hb, hj]
  refine ⟨hl, _, m, rfl, fun _ => ⟨B, 0, rfl, (Array.getElem?_eq_some_iff.1 hb).1, fun i hi => ?_⟩⟩
  have := hkCells_at hs i hi
  rw [Nat.zero_add]
  have e : hs.getD i hnil = hs[i] := by simp [hi]
  have ho := List.all_eq_true.1 hw _ (List.getElem_mem hi)
  rw [← e] at ho
  unfold okH at ho
  simp only [Bool.and_eq_true, decide_eq_true_eq] at ho
  exact ⟨hcell _ _ this.1, hcell _ _ this.2, ⟨ho.1.1, ho.1.2⟩, ho.2⟩

/-- hooks that came in -/
def InHooks (w : World) (a : Option Addr) (len cap : Nat) : Prop :=
  (a = none ∧ len = 0 ∧ cap = 0) ∨ ∃ x, a = some x ∧ len ≤ cap ∧ cap ≤ maxLen ∧ (0 < cap → ∃ b off, x = ⟨b, off, none⟩ ∧ b < w.heap.size ∧ ∀ i, i < cap → ∃ h : Hk, HkAt w b (off + i * 2) h)
theorem InHooks.max {w : World} {a : Option Addr} {len cap : Nat} (h : InHooks w a len cap) : len ≤ 9223372036854775807 ∧ len ≤ cap ∧ cap ≤ 9223372036854775807 := by
  rcases h with ⟨_, rfl, rfl⟩ | ⟨x, _, h1, h2, _⟩
  · omega
  · unfold maxLen at h2; omega
theorem InHooks.hooks {w : World} {a : Option Addr} {len cap : Nat} (h : InHooks w a len cap) (hl : len ≤ 1000000) : ∃ hs, hs.length = len ∧ Hooks w (.slice a len cap) hs := by
  rcases h with ⟨rfl, rfl, rfl⟩ | ⟨x, rfl, h1, h2, h3⟩
  · exact ⟨[], rfl, Hooks.nil _ _ _⟩
  · by_cases h0 : len = 0
    · subst h0
      exact ⟨[], rfl, Hooks.nil _ _ _⟩
    · obtain ⟨b, off, rfl, hb, hc⟩ := h3 (by omega)
      refine ⟨(List.range len).map (fun i => if hi : i < cap then Classical.choose (hc i hi) else hnil), by simp, by simpa using hl, _, cap, by simp, fun _ => ⟨b, off, rfl, hb, fun i hi => ?_⟩⟩
      have hi' : i < len := by simpa using hi
      have e : ((List.range len).map (fun i => if hi : i < cap then Classical.choose (hc i hi) else hnil)).getD i hnil = Classical.choose (hc i (by omega)) := by
        simp [hi', show i < cap by omega]
      rw [e]
      exact Classical.choose_spec (hc i (by omega))
theorem InHooks.keep {w w' : World} {a : Option Addr} {len cap : Nat} (h : InHooks w a len cap) (k : Kp w w') : InHooks w' a len cap := by
  rcases h with h | ⟨x, rfl, h1, h2, h3⟩
  · exact .inl h
  · refine .inr ⟨x, rfl, h1, h2, fun hp => ?_⟩
    obtain ⟨b, off, rfl, hb, hc⟩ := h3 hp
    refine ⟨b, off, rfl, Nat.lt_of_lt_of_le hb k.size, fun i hi => ?_⟩
    obtain ⟨h, hh⟩ := hc i hi
    exact ⟨h, hh.keep hb k⟩

end Go.Proofs.Ytefohemihiiceaa
