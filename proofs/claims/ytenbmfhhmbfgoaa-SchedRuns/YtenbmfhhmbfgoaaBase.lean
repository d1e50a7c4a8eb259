
/- What a call leaves of memory, slices of integers as lists, blocks of the call's own; no program in it. -/
import Derived.WalkKit
import Derived.WalkSpells
import Derived.WalkLawsBesides
namespace Go.Proofs.Ytenbmfhhmbfgoaa
open Go.RowKit

theorem hide {p : Prop} (h : p) : Hid p := h
theorem unhide {p : Prop} (h : Hid p) : p := h
/-- nothing that was there has turned -/
def Kp (w w' : World) : Prop := Below w.heap.size w w'
theorem Kp.refl (w : World) : Kp w w := Below.refl _ _
theorem Kp.trans {a b c : World} (h : Kp a b) (k : Kp b c) : Kp a c := Below.trans h (Below.mono k h.size)
theorem Kp.size {a b : World} (h : Kp a b) : a.heap.size ≤ b.heap.size := Below.size h
theorem Kp.alloc (w : World) (o : Obj) : Kp w (w.alloc o) := (Below.refl _ _).alloc (Nat.le_refl _) o
theorem Kp.drew (w : World) : Kp w w.drew := (Below.refl _ _).drew
theorem Kp.drewN (w : World) : ∀ n, Kp w (w.drewN n)
  | 0 => Kp.refl w
  | n + 1 => by
    have h := Kp.drewN w n
    exact ⟨h.os, h.tape, h.output, h.size, h.block⟩
theorem Kp.set {a b : World} (h : Kp a b) {B i : Nat} (hB : a.heap.size ≤ B) (v : Value) : Kp a (b.setCell ⟨B, i, none⟩ v) := Below.setCell h hB v

theorem ret_bool {a b : Bool} (h : a = b) : Ending.returned (.bool a) = .returned (.bool b) := by rw [h]
theorem ret_int {k : IntKind} {a b : Int} (h : a = b) : Ending.returned (.int k a) = .returned (.int k b) := by rw [h]
theorem ret_two {k l : IntKind} {a b c d : Int} (h : a = b) (h' : c = d) : Ending.returned (.tuple #[.int k a, .int l c]) = .returned (.tuple #[.int k b, .int l d]) := by rw [h, h']
theorem ret_vi {v : Value} {l : IntKind} {c d : Int} (h' : c = d) : Ending.returned (.tuple #[v, .int l c]) = .returned (.tuple #[v, .int l d]) := by rw [h']

/-- an int of Go's -/
def I64 (x : Int) : Prop := -9223372036854775808 ≤ x ∧ x ≤ 9223372036854775807

/-- the slice value v reads as the numbers xs -/
structure Ints (w : World) (v : Value) (xs : List Int) : Prop where
  wf : ∀ x ∈ xs, I64 x
  room : xs.length * 8 ≤ 140737488351232
  nonil : ∀ n c, v = .slice none n c → n = 0 ∧ c = 0
  val : ∃ a cap, v = .slice a xs.length cap ∧ (0 < xs.length → ∃ b off, a = some ⟨b, off, none⟩ ∧ b < w.heap.size ∧ ∀ i, i < xs.length → w.cell? ⟨b, off + i, none⟩ = some (.int .i64 (xs.getD i 0)))

theorem Ints.nil (w : World) : Ints w (.slice none 0 0) [] := ⟨by simp, by simp, by intro n c h; cases h; exact ⟨rfl, rfl⟩, none, 0, rfl, by simp⟩

theorem Ints.keep {w w' : World} {v : Value} {xs : List Int} (h : Ints w v xs) (k : Kp w w') : Ints w' v xs := by
  obtain ⟨h1, h2, h0, a, cap, rfl, h3⟩ := h
  refine ⟨h1, h2, h0, a, cap, rfl, fun hp => ?_⟩
  obtain ⟨b, off, rfl, hb, hc⟩ := h3 hp
  exact ⟨b, off, rfl, by have := k.size; omega, fun i hi => (Below.cell k (p := ⟨b, off + i, none⟩) hb).trans (hc i hi)⟩

theorem Ints.opn {w : World} {v : Value} {xs : List Int} {n : Nat} (h : Ints w v xs) (hn : xs.length = n) : ∃ a cap, v = .slice a n cap ∧ Hid (0 < n → ∃ b off, a = some ⟨b, off, none⟩ ∧ b < w.heap.size ∧ ∀ i, i < n → w.cell? ⟨b, off + i, none⟩ = some (.int .i64 (xs.getD i 0))) := by
  subst hn
  exact h.val

theorem Ints.getD {w : World} {v : Value} {xs : List Int} (h : Ints w v xs) {k : Nat} (hk : k < xs.length) : -9223372036854775808 ≤ xs.getD k 0 ∧ xs.getD k 0 ≤ 9223372036854775807 := by
  have e : xs.getD k 0 = xs[k] := by simp [hk]
  rw [e]
  exact h.wf _ (List.getElem_mem hk)

/-- block B holds the numbers ys, and is not frozen -/
def Blk (w : World) (e : TypeId) (B : Nat) (ys : List Int) : Prop := w.heap[B]? = some (.cells (ys.map (Value.int .i64)).toArray e)

theorem Blk.lt {w : World} {e : TypeId} {B : Nat} {ys : List Int} (h : Blk w e B ys) : B < w.heap.size := by
  unfold Blk at h
  exact (Array.getElem?_eq_some_iff.1 h).1

theorem Blk.cell {w : World} {e : TypeId} {B : Nat} {ys : List Int} (h : Blk w e B ys) {i : Nat} (hi : i < ys.length) : w.cell? ⟨B, i, none⟩ = some (.int .i64 (ys.getD i 0)) := by
  unfold Blk at h
  simp [World.cell?, h, hi]

theorem Blk.frozen {w : World} {e : TypeId} {B : Nat} {ys : List Int} (h : Blk w e B ys) (i : Nat) : w.frozen? ⟨B, i, none⟩ = false := by
  unfold Blk at h
  simp [World.frozen?, h]

theorem Blk.set {w : World} {e : TypeId} {B : Nat} {ys : List Int} (h : Blk w e B ys) (i : Nat) (x : Int) : Blk (w.setCell ⟨B, i, none⟩ (.int .i64 x)) e B (ys.set i x) := by
  unfold Blk at h ⊢
  simp [World.setCell, Array.getElem?_modify, h, List.map_set]

theorem Blk.keep {w w' : World} {e : TypeId} {B : Nat} {ys : List Int} (h : Blk w e B ys) (k : Kp w w') : Blk w' e B ys := by
  unfold Blk
  rw [k.block B h.lt]
  exact h

theorem Blk.made (w : World) (e : TypeId) (n : Nat) : Blk (w.alloc (.cells (madeCells #[.int .i64 0] n) e)) e w.heap.size (List.replicate n 0) := by
  unfold Blk
  simp only [World.alloc, Array.getElem?_push_size]
  congr 2
  apply Array.ext
  · simp [madeCells]
  · intro i h1 h2
    simp [madeCells, Nat.mod_one]

theorem Blk.ints {w : World} {e : TypeId} {B n cap : Nat} {ys : List Int} (h : Blk w e B ys) (hn : ys.length = n) (hw : ∀ x ∈ ys, I64 x) (hr : n * 8 ≤ 140737488351232) : Ints w (.slice (some ⟨B, 0, none⟩) n cap) ys := by
  refine ⟨hw, by omega, (by intro n c h; cases h), some ⟨B, 0, none⟩, cap, by rw [hn], fun _ => ⟨B, 0, rfl, h.lt, fun i hi => ?_⟩⟩
  rw [Nat.zero_add]
  exact h.cell hi

theorem getD_set_same {ys : List Int} {i : Nat} {x : Int} (h : i < ys.length) : (ys.set i x).getD i 0 = x := by simp [h]

theorem fill_down {k : Nat} {x : Int} {r : List Int} : (List.replicate (k + 1) 0 ++ r).set k x = List.replicate k 0 ++ x :: r := by
  rw [List.replicate_succ', List.append_assoc, List.set_append_right _ _ (by simp)]
  simp

theorem fill_up {k : Nat} {x : Int} {l r : List Int} (hl : l.length = k) : (l ++ 0 :: r).set k x = (l ++ [x]) ++ r := by
  subst hl
  rw [List.set_append_right _ _ (by simp)]
  simp

/-- of what was there only block B may have turned -/
def Kx (B : Nat) (w w' : World) : Prop := w.grownBy w' (some B)
theorem Kx.refl (B : Nat) (w : World) : Kx B w w := ⟨rfl, rfl, rfl, Nat.le_refl _, fun _ _ _ => rfl⟩
theorem Kx.size {B : Nat} {a b : World} (h : Kx B a b) : a.heap.size ≤ b.heap.size := World.grownBy.size h
theorem Kx.set {B : Nat} {a b : World} (h : Kx B a b) (i : Nat) (v : Value) : Kx B a (b.setCell ⟨B, i, none⟩ v) :=
  ⟨h.os, h.tape, h.output, by simpa using h.size, fun k hk hne => (Below.heap_setCell b ⟨B, i, none⟩ v k (fun e => hne (by rw [e]))).trans (h.block k hk hne)⟩
theorem Kx.kp {B : Nat} {a b c : World} (h : Kx B a b) (k : Kp b c) : Kx B a c :=
  ⟨k.os.trans h.os, k.tape.trans h.tape, k.output.trans h.output, Nat.le_trans h.size k.size, fun i hi hne => (k.block i (Nat.lt_of_lt_of_le hi h.size)).trans (h.block i hi hne)⟩
theorem Kx.after {B : Nat} {a b c : World} (h : Kp a b) (k : Kx B b c) (hB : a.heap.size ≤ B) : Kp a c :=
  ⟨k.os.trans h.os, k.tape.trans h.tape, k.output.trans h.output, Nat.le_trans h.size k.size, fun i hi => (k.block i (Nat.lt_of_lt_of_le hi h.size) (fun e => by cases e; omega)).trans (h.block i hi)⟩
theorem Kx.cell {B : Nat} {a b : World} (h : Kx B a b) {p : Addr} (hp : p.block < a.heap.size) (hne : p.block ≠ B) : b.cell? p = a.cell? p :=
  World.cell?_of_block (w := a) (h.block p.block hp (fun e => hne (by cases e; rfl)))

/-- the slice, if it has an array, has one that was not there -/
def Fresh (w : World) (u : Value) : Prop := ∀ ad n c, u = .slice (some ad) n c → w.heap.size ≤ ad.block
theorem Fresh.nil (w : World) (n c : Nat) : Fresh w (.slice none n c) := by intro ad n c h; cases h
theorem Fresh.mk {w : World} {b o n c : Nat} (h : w.heap.size ≤ b) : Fresh w (.slice (some ⟨b, o, none⟩) n c) := by intro ad n' c' e; cases e; exact h
theorem Fresh.back {w w' : World} {u : Value} (h : Fresh w' u) (k : Kp w w') : Fresh w u := fun ad n c e => Nat.le_trans k.size (h ad n c e)
theorem Fresh.ne {w : World} {b o n c : Nat} (h : Fresh w (.slice (some ⟨b, o, none⟩) n c)) {B : Nat} (hB : B < w.heap.size) : b ≠ B := by
  have := h _ _ _ rfl
  simp at this
  omega

/-- the call's own slice of ints: it may be appended to -/
def Own (w : World) (e : TypeId) (base : Nat) (v : Value) (xs : List Int) : Prop := w.ownsRow base e 1 v xs.length (xs.map (Value.int .i64))

theorem Own.ints {w : World} {e : TypeId} {base : Nat} {v : Value} {xs : List Int} (h : Own w e base v xs) (hw : ∀ x ∈ xs, I64 x) (hr : xs.length * 8 ≤ 140737488351232) : Ints w v xs := by
  obtain ⟨_, h | ⟨g, cap, cur, rfl, _, hh, _, _, _, ht⟩⟩ := h
  · obtain ⟨rfl, h0⟩ := h
    have : xs = [] := List.eq_nil_of_length_eq_zero h0
    subst this
    exact Ints.nil w
  · refine ⟨hw, hr, (by intro n c h; cases h), some ⟨g, 0, none⟩, cap, rfl, fun _ => ⟨g, 0, rfl, (Array.getElem?_eq_some_iff.1 hh).1, fun i hi => ?_⟩⟩
    have e1 : cur[i]? = some (.int .i64 (xs.getD i 0)) := by
      have h2 := congrArg (fun l => l[i]?) ht
      simp only [Nat.mul_one, List.getElem?_take, hi, if_true, List.getElem?_map, Array.getElem?_toList] at h2
      rw [h2]
      simp [hi]
    simp [World.cell?, hh, e1]

theorem Own.fresh {w w0 : World} {e : TypeId} {base : Nat} {v : Value} {xs : List Int} (h : Own w e base v xs) (hb : w0.heap.size ≤ base) : Fresh w0 v := by
  obtain ⟨_, h | ⟨g, cap, cur, rfl, hg, _⟩⟩ := h
  · obtain ⟨rfl, _⟩ := h
    exact Fresh.nil _ _ _
  · exact Fresh.mk (by omega)

theorem Own.keep {w w' : World} {e : TypeId} {base : Nat} {v : Value} {xs : List Int} (h : Own w e base v xs) (k : Kp w w') : Own w' e base v xs := by
  obtain ⟨h0, h | ⟨g, cap, cur, rfl, hg, hh, r⟩⟩ := h
  · exact ⟨h0, .inl h⟩
  · exact ⟨h0, .inr ⟨g, cap, cur, rfl, hg, by rw [k.block g (Array.getElem?_eq_some_iff.1 hh).1]; exact hh, r⟩⟩

theorem Own.nil (w : World) (e : TypeId) (base : Nat) : Own w e base (.slice none 0 0) [] := World.ownsRow_nil _ _ _ _

/-- a literal slice is the call's own -/
theorem Own.lit (w : World) (e : TypeId) (ys : List Int) (c : Array Value) (B n base : Nat) (hc : c = (ys.map (Value.int .i64)).toArray) (hB : B = w.heap.size) (hn : ys.length = n) (hb : base ≤ w.heap.size) (hm : n ≤ maxLen) :
    Own (w.alloc (.cells c e)) e base (.slice (some ⟨B, 0, none⟩) n n) ys := by
  subst hc hB hn
  refine ⟨by simp, .inr ⟨w.heap.size, ys.length, (ys.map (Value.int .i64)).toArray, rfl, hb, ?_, Nat.le_refl _, hm, by simp, by simp [List.take_of_length_le]⟩⟩
  simp only [World.alloc, Array.getElem?_push_size]

theorem lit_ints (w : World) (e : TypeId) (ys : List Int) (c : Array Value) (B n : Nat) (hc : c = (ys.map (Value.int .i64)).toArray) (hB : B = w.heap.size) (hn : ys.length = n) (hw : ∀ x ∈ ys, I64 x) (hr : n * 8 ≤ 140737488351232) :
    Ints (w.alloc (.cells c e)) (.slice (some ⟨B, 0, none⟩) n n) ys := by
  subst hc hB
  refine Blk.ints (e := e) ?_ hn hw hr
  unfold Blk
  simp only [World.alloc, Array.getElem?_push_size]

theorem Kp.of_grown {a w w' : World} {row : Option Nat} (h : Kp a w) (g : w.grownBy w' row) (hr : ∀ k, row = some k → a.heap.size ≤ k) : Kp a w' :=
  ⟨g.os.trans h.os, g.tape.trans h.tape, g.output.trans h.output, Nat.le_trans h.size g.size, fun i hi => (g.block i (Nat.lt_of_lt_of_le hi h.size) (fun e => by have := hr i e.symm; omega)).trans (h.block i hi)⟩

theorem Own.block {w : World} {e : TypeId} {base : Nat} {v : Value} {xs : List Int} (h : Own w e base v xs) (k : Nat) (hk : v.ownBlock = some k) : base ≤ k := by
  obtain ⟨_, h | ⟨g, cap, cur, rfl, hg, _⟩⟩ := h
  · obtain ⟨rfl, _⟩ := h
    cases hk
  · cases hk
    exact hg

/-- 'append(own, s...)' -/
theorem wpList_append_ints {P : Program} (w : World) {ops : Array Oper} {rest : List Oper} {o : Oper} {a : Act} {Q : Exit → Act → World → Prop}
    (hgd : o.guard = none) (s x : Operand) (t : TypeId) (ho : o.op = .call { callee := .builtin .append, args := #[s, x], argTypes := #[t, t] })
    (base : Nat) (e : TypeId) (hin : (P.info? e).map (fun i => (i.zero, i.size, i.bytes)) = some (some (.int .i64 0), 1, 8)) (ht : P.underlying t = some (.slice e))
    (v u : Value) (xs ys : List Int) (hs : a.eval s = v) (hx : a.eval x = u) (hv : Own w e base v xs) (hu : Ints w u ys)
    (hroom : (xs.length + ys.length) * 8 ≤ 140737488351232) (hbase : base ≤ w.heap.size)
    (h : ∀ v' w', Own w' e base v' (xs ++ ys) → w.grownBy w' v.ownBlock → wpList P ops Q rest (a.put o.dst v') w') : wpList P ops Q (o :: rest) a w := by
  obtain ⟨i0, hi, hz0, hz1, hz2⟩ := info_parts hin
  obtain ⟨ao, cap, hval, hcells⟩ := hu.val
  subst hval
  match ao, hx, hcells, hu with
  | none, hx, _, hu =>
    obtain ⟨h1, h2⟩ := hu.nonil _ _ rfl
    have : ys = [] := List.eq_nil_of_length_eq_zero h1
    subst this
    subst h2
    refine wpList_plain hgd fun K hK => ?_
    have hrun := run_append_owned_none (P := P) w base t o.type e i0 1 ht hi v xs.length (xs.map (Value.int .i64)) hv
    unfold Oper.wp
    simp only [List.length_nil] at hx
    simp [execOp, ho, resolve, invoke, builtin, hs, hx, hrun, Result.andThen]
    refine hK _ _ (h v w ?_ (World.grownBy.refl _ _))
    rw [List.append_nil]
    exact hv
  | some ad, hx, hcells, hu =>
    refine wpList_append_own w hgd s x t ho base e i0 (.int .i64 0) 1 8 ht hi hz0 hz1 hz2 rfl (by decide) v xs.length (xs.map (Value.int .i64)) hs hv ad ys.length cap (ys.map (Value.int .i64)) hx (by simp) ?_ (ints_oneCell _ _) (by unfold maxLen; omega) (by omega) hbase ?_
    · intro j u hj
      have hjl : j < ys.length := by
        have := (List.getElem?_eq_some_iff.1 hj).1
        simpa using this
      obtain ⟨b, off, e1, _, hc⟩ := hcells (by omega)
      cases e1
      have := hc j hjl
      rw [List.getElem?_map] at hj
      have e2 : ys[j]? = some (ys.getD j 0) := by simp [hjl]
      rw [e2] at hj
      cases hj
      by_cases h0 : j = 0
      · subst h0; simpa [Addr.add] using this
      · simpa [Addr.add, h0] using this
    · intro v' w' h1 h2 _
      refine h v' w' ?_ h2
      unfold Own
      rw [List.length_append, List.map_append]
      exact h1

end Go.Proofs.Ytenbmfhhmbfgoaa
