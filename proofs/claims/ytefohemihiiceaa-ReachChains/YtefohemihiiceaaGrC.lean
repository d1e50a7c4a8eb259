
/- Laws for a loop that holds a range over a function: its marks; maps of ints as what they hold. -/
import Derived.Test.YtefohemihiiceaaGrB
import Derived.Deep.LoopGhost
namespace Go.Proofs.Ytefohemihiiceaa
open Go.RowKit Go.Shelf

/-- the marks among the deferred calls: each block is there, from B on, none twice -/
def Marks (B : Nat) (w : World) : List Deferred → Prop
  | [] => True
  | d :: ds => (∃ r, d = { target := .collected r, args := #[] } ∧ B ≤ r ∧ w.heap[r]? = some (.deferred (some [])) ∧ ∀ r', { target := .collected r', args := #[] } ∈ ds → r' ≠ r) ∧ Marks B w ds

/-- blocks for deferred calls lie as they lay -/
def KD (w w' : World) : Prop := w.heap.size ≤ w'.heap.size ∧ ∀ r : Nat, w.heap[r]? = some (.deferred (some [])) → w'.heap[r]? = some (.deferred (some []))
theorem KD.refl (w : World) : KD w w := ⟨Nat.le_refl _, fun _ h => h⟩
theorem KD.trans {a b c : World} (h : KD a b) (k : KD b c) : KD a c := ⟨Nat.le_trans h.1 k.1, fun r e => k.2 r (h.2 r e)⟩
theorem KD.kp {a b : World} (h : Kp a b) : KD a b := ⟨h.size, fun r e => (h.block r (Array.getElem?_eq_some_iff.1 e).1).trans e⟩
theorem KD.others {a b : World} (h : KeepsOthers a b) : KD a b := ⟨h.size, fun r e => h.same r _ e rfl⟩
theorem KD.from {a b : World} {B : Nat} (h : KeepsFrom B a b) (hB : ∀ r : Nat, a.heap[r]? = some (.deferred (some [])) → B ≤ r) : KD a b := ⟨h.size, fun r e => h.same r _ (hB r e) e rfl⟩
theorem KD.grown {a b : World} {row : Option Nat} (h : a.grownBy b row) (hr : ∀ k, row = some k → a.heap[k]? ≠ some (.deferred (some []))) : KD a b :=
  ⟨h.size, fun r e => (h.block r (Array.getElem?_eq_some_iff.1 e).1 (fun e' => hr r e'.symm e)).trans e⟩
theorem Marks.keep {B : Nat} {w w' : World} (h : KD w w') : ∀ {ds : List Deferred}, Marks B w ds → Marks B w' ds
  | [], _ => trivial
  | _ :: _, ⟨⟨r, e, hb, hr, hn⟩, ht⟩ => ⟨⟨r, e, hb, h.2 r hr, hn⟩, Marks.keep h ht⟩
theorem Marks.lt {B : Nat} {w : World} : ∀ {ds : List Deferred}, Marks B w ds → ∀ r, ({ target := .collected r, args := #[] } : Deferred) ∈ ds → r < w.heap.size
  | [], _, r, h => by cases h
  | _ :: _, ⟨⟨r', e, _, hr, _⟩, ht⟩, r, h => by
    rcases List.mem_cons.1 h with h | h
    · subst e
      cases h
      exact (Array.getElem?_eq_some_iff.1 hr).1
    · exact Marks.lt ht r h
theorem Marks.push {B : Nat} {w w' : World} {ds : List Deferred} (h : Marks B w ds) (k : KD w w') {D : Nat} (hB : B ≤ D) (hD : w.heap.size ≤ D) (hd : w'.heap[D]? = some (.deferred (some []))) : Marks B w' ({ target := .collected D, args := #[] } :: ds) :=
  ⟨⟨D, rfl, hB, hd, fun r' hr => by have := Marks.lt h r' hr; omega⟩, Marks.keep k h⟩

/-- a function that leaves through its marks -/
theorem leaves_marks {F : Fence} {n B : Nat} {P : Program} {fn : Func} {tmps : Array Value} {R : Ending → World → Prop} (J : World → Prop)
    (hJ : ∀ (W : World) (r : Nat), B ≤ r → W.heap[r]? = some (.deferred (some [])) → J W → J (W.putObj r (.deferred none))) (hfin : ∀ W, J W → ∃ v, (results fn tmps).run P W = .ok v W ∧ R (.returned v) W) :
    ∀ (ds : List Deferred) (w : World), Marks B w ds → J w → LeavesInM F n P fn tmps R ds .returning w
  | [], w, _, h => hfin w h
  | d :: ds, w, ⟨⟨r, e, hb, hr, hn⟩, ht⟩, h => by
    subst e
    refine ⟨by simp, .inl ⟨r, _, rfl, run_takeDeferred hr, ?_⟩⟩
    refine leaves_marks J hJ hfin ds _ ?_ (hJ w r hb hr h)
    have go : ∀ {es : List Deferred}, (∀ r', ({ target := .collected r', args := #[] } : Deferred) ∈ es → r' ≠ r) → Marks B w es → Marks B (w.putObj r (.deferred none)) es := by
      intro es
      induction es with
      | nil => intro _ _; trivial
      | cons d es ih =>
        rintro hne ⟨⟨r', rfl, hb', hr', hn'⟩, ht'⟩
        exact ⟨⟨r', rfl, hb', (World.putObj_heap_other (hne r' (by simp))).trans hr', hn'⟩, ih (fun q hq => hne q (by simp [hq])) ht'⟩
    exact go hn ht

theorem kp_putObj {w W : World} {r : Nat} (h : Kp w W) (hB : w.heap.size ≤ r) : Kp w (W.putObj r (.deferred none)) :=
  Kp.of_grown h (grownBy_putObj' W r _) (fun k e => by cases e; exact hB)
theorem cell_putObj {W : World} {r : Nat} {p : Addr} {v : Value} (h : W.cell? p = some v) (hr : W.heap[r]? = some (.deferred (some []))) : (W.putObj r (.deferred none)).cell? p = some v :=
  cell_kept h (grownBy_putObj' W r _) (fun k e => by cases e; exact ⟨_, hr, rfl⟩)

/-- a map literal's entry is a store -/
theorem wpList_insert_own {H : Type} {P : Program} (w : World) {ops : Array Oper} {rest : List Oper} {o : Oper} {a : Act} {Q : Exit → Act → World → Prop}
    (hg : o.guard = none) (m x v : Operand) (t : TypeId) (hop : o.op = Op.insert t m x v)
    (k e : TypeId) (K : Maps.Keyed P k) (ht : P.underlying t = some (.map k e)) (R : Value → Option (DataW H × List MemPlace)) (b n : Nat) (D : DataW H)
    (hm : a.eval m = .map (some b)) (hown : w.ownsMap P k R b n D) (hn : n < maxLen) (key val : Value) (kl : Lit) (hx : a.eval x = key) (hv : a.eval v = val) (hkey : keyOf P k key = some kl)
    (d : DataW H) (ps : List MemPlace) (hval : R val = some (d, ps))
    (hK : ∀ w', w'.ownsMap P k R b (n + 1) (D.put kl d) → w.grownBy w' (some b) → wpList P ops Q rest (a.put o.dst undef) w') :
    wpList P ops Q (o :: rest) a w := by
  refine wpList_plain hg fun K' hK' => ?_
  obtain ⟨w', hrun, r1, r2⟩ := hown.update K ht hn hkey hval
  unfold Oper.wp
  simp [execOp, hop, hm, hx, hv, hrun, Result.andThen]
  exact hK' _ _ (hK w' r1 r2)

/-- what a step within a round leaves: whatever is no cells from B on, whatever lies below n₀, blocks for deferred calls -/
structure St (B n₀ : Nat) (W W' : World) : Prop where
  from_ : KeepsFrom B W W'
  below : Below n₀ W W'
  kd : KD W W'
theorem St.refl (B n₀ : Nat) (W : World) : St B n₀ W W := ⟨KeepsFrom.refl _ _, Below.refl _ _, KD.refl _⟩
theorem St.trans {B n₀ : Nat} {X Y Z : World} (h : St B n₀ X Y) (k : St B n₀ Y Z) : St B n₀ X Z := ⟨h.from_.trans k.from_, h.below.trans k.below, h.kd.trans k.kd⟩
theorem St.kp {B n₀ : Nat} {W W' : World} (hn : n₀ ≤ W.heap.size) (h : Kp W W') : St B n₀ W W' :=
  ⟨⟨h.size, fun k _ _ hk _ => (h.block k (Array.getElem?_eq_some_iff.1 hk).1).trans hk⟩, h.mono hn, KD.kp h⟩
theorem St.set {B n₀ : Nat} (W : World) {b : Nat} (hb : n₀ ≤ b) (v : Value) : St B n₀ W (W.setCell ⟨b, 0, none⟩ v) :=
  ⟨(KeepsOthers.setCell _ _ _).from _, (Below.refl _ _).setCell (p := ⟨b, 0, none⟩) hb _, KD.others (KeepsOthers.setCell _ _ _)⟩
theorem St.map {B n₀ : Nat} {W W' : World} {b : Nat} (hg : W.grownBy W' (some b)) (hb : n₀ ≤ b) (hB : b < B) (hs : n₀ ≤ W.heap.size) (hm : ∃ es ck, W.heap[b]? = some (.map es ck)) : St B n₀ W W' :=
  ⟨KeepsFrom.of_grownBy hg (fun j e => by cases e; exact hB), (Below.refl _ _).grown hg hs (fun k e => by cases e; exact hb), KD.grown hg (fun k e h => by cases e; obtain ⟨es, ck, hm⟩ := hm; rw [hm] at h; cases h)⟩
theorem St.row {B n₀ : Nat} {W W' : World} {v : Value} (hg : W.grownBy W' v.ownBlock) (hs : n₀ ≤ W.heap.size) (hv : ∀ k, v.ownBlock = some k → n₀ ≤ k ∧ ∃ c t f, W.heap[k]? = some (.cells c t f)) : St B n₀ W W' :=
  ⟨(KeepsOthers.of_grownBy hg (fun j o e hj => by obtain ⟨_, c, t, f, h⟩ := hv j e; rw [h] at hj; cases hj; rfl)).from _, (Below.refl _ _).grown hg hs (fun k e => (hv k e).1), KD.grown hg (fun k e h => by obtain ⟨_, c, t, f, h'⟩ := hv k e; rw [h'] at h; cases h)⟩
theorem St.keeps {B n₀ : Nat} {w W W' : World} (h : St B n₀ W W') (hn : w.heap.size = n₀) (k : Kp w W) : Kp w W' := by
  subst hn
  exact Below.trans k h.below
theorem ownFrom_kd {β : Type} {B : Nat} {w₀ : World} (hB : w₀.heap.size ≤ B) : OwnFrom B (fun (_ : β) W => KD w₀ W) :=
  fun _ X Y row hs hg hr => ⟨Nat.le_trans hs.1 hg.size, fun r h0 => by
    have hX := hs.2 r h0
    refine (hg.block r (Array.getElem?_eq_some_iff.1 hX).1 (fun e => ?_)).trans hX
    have h1 := (hr r e.symm).1
    have h2 := (Array.getElem?_eq_some_iff.1 h0).1
    omega⟩
theorem Own.cells {w : World} {e : TypeId} {base : Nat} {v : Value} {xs : List Int} (h : Own w e base v xs) : ∀ k, v.ownBlock = some k → base ≤ k ∧ ∃ c t f, w.heap[k]? = some (.cells c t f) := by
  obtain ⟨_, h | ⟨g, cap, cur, rfl, hg, hh, _⟩⟩ := h
  · obtain ⟨rfl, _⟩ := h
    intro k hk
    cases hk
  · intro k hk
    cases hk
    exact ⟨hg, _, _, _, hh⟩
theorem Own.grown {w w' : World} {row : Option Nat} {e : TypeId} {base : Nat} {v : Value} {xs : List Int} (h : Own w e base v xs) (g : w.grownBy w' row) (hne : v.ownBlock = none ∨ v.ownBlock ≠ row) : Own w' e base v xs := World.ownsRow.kept h g hne
/-- an own row that is not empty, written out -/
theorem Own.form {w : World} {e : TypeId} {base : Nat} {v : Value} {xs : List Int} (h : Own w e base v xs) : ∃ b k, v = .slice b xs.length k := by
  rcases h.2 with ⟨h1, h2⟩ | ⟨q, cap, cur, h1, _⟩
  · exact ⟨none, 0, by rw [h1, h2]⟩
  · exact ⟨_, _, h1⟩
theorem Own.last {w : World} {e : TypeId} {base : Nat} {v : Value} {xs : List Int} {x : Int} (h : Own w e base v (xs ++ [x])) : ∃ gb cap, v = .slice (some ⟨gb, 0, none⟩) (xs.length + 1) cap ∧ w.cell? ⟨gb, xs.length, none⟩ = some (.int .i64 x) ∧ Own w e base (.slice (some ⟨gb, 0, none⟩) xs.length cap) xs ∧ xs.length + 1 ≤ cap ∧ base ≤ gb := by
  obtain ⟨h0, h1 | ⟨g, cap, cur, rfl, hg, hh, r1, r2, r3, r4⟩⟩ := h
  · obtain ⟨_, h1⟩ := h1
    simp at h1
  · refine ⟨g, cap, by simp, ?_, ⟨by simp, .inr ⟨g, cap, cur, rfl, hg, hh, ?_, r2, r3, ?_⟩⟩, by simpa using r1, hg⟩
    · have h2 := congrArg (fun l => l[xs.length]?) r4
      simp only [List.length_append, List.length_singleton, Nat.mul_one, List.getElem?_take, Nat.lt_succ_self, if_true, List.map_append, List.map_cons, List.map_nil, Array.getElem?_toList] at h2
      rw [List.getElem?_append_right (by simp)] at h2
      simp at h2
      simp [World.cell?, hh, h2]
    · simp at r1; omega
    · have h2 := congrArg (List.take xs.length) r4
      simp only [List.length_append, List.length_singleton, Nat.mul_one, List.take_take, List.map_append] at h2
      rw [Nat.min_eq_left (by omega), List.take_append_of_le_length (by simp)] at h2
      simpa [List.take_of_length_le] using h2

end Go.Proofs.Ytefohemihiiceaa
