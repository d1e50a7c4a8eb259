
/- The document's scheduler in memory: its tasks, its rows, and how they turn. -/
import Derived.Test.YtenbmfhhmbfgoaaSchRa
namespace Go.Proofs.Ytenbmfhhmbfgoaa
open Go.RowKit

def MS (w : World) (M : Nat) (pv tv : Value) (K : Nat) (ov : Value) : Prop := w.heap[M]? = some (.cells #[pv, tv, .int .i64 (K : Int), ov] 33 (0, 0))
section
variable {w w' : World} {M K : Nat} {pv tv ov : Value}
theorem MS.lt (h : MS w M pv tv K ov) : M < w.heap.size := (Array.getElem?_eq_some_iff.1 h).1
theorem MS.cells (h : MS w M pv tv K ov) : w.cell? ⟨M, 0, none⟩ = some pv ∧ w.cell? ⟨M, 1, none⟩ = some tv ∧ w.cell? ⟨M, 2, none⟩ = some (.int .i64 (K : Int)) ∧ w.cell? ⟨M, 3, none⟩ = some ov := by
  unfold MS at h
  simp [World.cell?, h]
theorem MS.frozen (h : MS w M pv tv K ov) (i : Nat) : w.frozen? ⟨M, i, none⟩ = false := by
  unfold MS at h
  simp [World.frozen?, h]
theorem MS.of (h : MS w M pv tv K ov) (e : w'.heap[M]? = w.heap[M]?) : MS w' M pv tv K ov := by unfold MS; rw [e]; exact h
theorem MS.setK (h : MS w M pv tv K ov) (k : Nat) : MS (w.setCell ⟨M, 2, none⟩ (.int .i64 (k : Int))) M pv tv k ov := by
  unfold MS at h ⊢
  simp [World.setCell, Array.getElem?_modify, h]
theorem MS.setT (h : MS w M pv tv K ov) (v : Value) : MS (w.setCell ⟨M, 1, none⟩ v) M pv v K ov := by
  unfold MS at h ⊢
  simp [World.setCell, Array.getElem?_modify, h]
theorem MS.setO (h : MS w M pv tv K ov) (v : Value) : MS (w.setCell ⟨M, 3, none⟩ v) M pv tv K v := by
  unfold MS at h ⊢
  simp [World.setCell, Array.getElem?_modify, h]
end
def TK (w : World) (B : Nat) (Lv : Value) (n : Nat) (st : Int) (wk : Bool) : Prop := w.heap[B]? = some (.cells #[Lv, .int .i64 (n : Int), .int .i64 st, .bool wk] 50 (0, 0))
section
variable {w w' : World} {B n : Nat} {Lv : Value} {st : Int} {wk : Bool}
theorem TK.lt (h : TK w B Lv n st wk) : B < w.heap.size := (Array.getElem?_eq_some_iff.1 h).1
theorem TK.cells (h : TK w B Lv n st wk) : w.cell? ⟨B, 0, none⟩ = some Lv ∧ w.cell? ⟨B, 1, none⟩ = some (.int .i64 (n : Int)) ∧ w.cell? ⟨B, 2, none⟩ = some (.int .i64 st) ∧ w.cell? ⟨B, 3, none⟩ = some (.bool wk) := by
  unfold TK at h
  simp [World.cell?, h]
theorem TK.frozen (h : TK w B Lv n st wk) (i : Nat) : w.frozen? ⟨B, i, none⟩ = false := by
  unfold TK at h
  simp [World.frozen?, h]
theorem TK.of (h : TK w B Lv n st wk) (e : w'.heap[B]? = w.heap[B]?) : TK w' B Lv n st wk := by unfold TK; rw [e]; exact h
theorem TK.setAt (h : TK w B Lv n st wk) (m : Nat) : TK (w.setCell ⟨B, 1, none⟩ (.int .i64 (m : Int))) B Lv m st wk := by
  unfold TK at h ⊢
  simp [World.setCell, Array.getElem?_modify, h]
theorem TK.setSt (h : TK w B Lv n st wk) (s : Int) : TK (w.setCell ⟨B, 2, none⟩ (.int .i64 s)) B Lv n s wk := by
  unfold TK at h ⊢
  simp [World.setCell, Array.getElem?_modify, h]
theorem TK.setWk (h : TK w B Lv n st wk) (b : Bool) : TK (w.setCell ⟨B, 3, none⟩ (.bool b)) B Lv n st b := by
  unfold TK at h ⊢
  simp [World.setCell, Array.getElem?_modify, h]
end
theorem own_ne_blk {w : World} {B : Nat} {cs : Array Value} {t : TypeId} (h : w.heap[B]? = some (.cells cs t (0, 0))) {b : Nat} {e : TypeId} {z m : Nat} {v : Value} {xs : List Value} (ho : w.ownsRow b e z v m xs) (hne : e ≠ t) : v.ownBlock ≠ some B := by
  intro hk
  obtain ⟨c1, q1⟩ := own_typed ho hk
  rw [h] at q1
  simp at q1
  exact hne q1.2.symm
theorem MS.ne_tk {w : World} {M K B n : Nat} {pv tv ov Lv : Value} {st : Int} {wk : Bool} (h : MS w M pv tv K ov) (t : TK w B Lv n st wk) : B ≠ M := by
  rintro rfl
  have := (show w.heap[B]? = _ from h).symm.trans t
  simp at this

def pV (b : Nat) : Value := .pointer (some ⟨b, 0, none⟩)
def upd {α : Type} (f : Nat → α) (i : Nat) (v : α) : Nat → α := fun j => if j = i then v else f j
structure MM (W0 w : World) (M : Nat) (pv : Value) (Bs : List Nat) (Lv : Nat → Value) (K : Nat) (told : List Int) (an : Nat → Nat) (st : Nat → Int) (wk : Nat → Bool) (tv ov : Value) (G : Nat → Prop) : Prop where
  ms : MS w M pv tv K ov
  pr : w.ownsRow 0 51 1 tv Bs.length (Bs.map pV)
  ow : Own w 3 0 ov told
  tk : ∀ i, i < Bs.length → TK w (Bs.getD i 0) (Lv i) (an i) (st i) (wk i)
  nd : Bs.Nodup
  gM : G M
  gB : ∀ i, i < Bs.length → G (Bs.getD i 0)
  gt : ∀ k, tv.ownBlock = some k → G k
  go : ∀ k, ov.ownBlock = some k → G k
  lt : ∀ k, G k → k < w.heap.size
  new : ∀ k, G k → W0.heap.size ≤ k
section
variable {W0 w w' : World} {M : Nat} {pv : Value} {Bs : List Nat} {Lv : Nat → Value} {K : Nat} {told : List Int} {an : Nat → Nat} {st : Nat → Int} {wk : Nat → Bool} {tv ov : Value} {G : Nat → Prop}
theorem MM.of (h : MM W0 w M pv Bs Lv K told an st wk tv ov G) (hb : ∀ k, G k → w'.heap[k]? = w.heap[k]?) (hs : w.heap.size ≤ w'.heap.size) : MM W0 w' M pv Bs Lv K told an st wk tv ov G :=
  ⟨h.ms.of (hb M h.gM), own_same h.pr (fun k e => hb k (h.gt k e)), own_same h.ow (fun k e => hb k (h.go k e)), fun i hi => (h.tk i hi).of (hb _ (h.gB i hi)), h.nd, h.gM, h.gB, h.gt, h.go, fun k e => Nat.lt_of_lt_of_le (h.lt k e) hs, h.new⟩
theorem MM.keep (h : MM W0 w M pv Bs Lv K told an st wk tv ov G) (k : Kp w w') : MM W0 w' M pv Bs Lv K told an st wk tv ov G := h.of (fun q e => k.block q (h.lt q e)) k.size
theorem MM.wide (h : MM W0 w M pv Bs Lv K told an st wk tv ov G) {H H' : Nat → Prop} (d : Wd H H' w w') (n : ∀ k, G k → ¬ H k) : MM W0 w' M pv Bs Lv K told an st wk tv ov G := h.of (fun q e => d.block q (h.lt q e) (n q e)) d.size
/-- a cell of the scheduler's own block was written -/
theorem MM.cellM (h : MM W0 w M pv Bs Lv K told an st wk tv ov G) {c : Nat} {u : Value} {K' : Nat} (hm : MS (w.setCell ⟨M, c, none⟩ u) M pv tv K' ov) : MM W0 (w.setCell ⟨M, c, none⟩ u) M pv Bs Lv K' told an st wk tv ov G ∧ Wd G G w (w.setCell ⟨M, c, none⟩ u) := by
  have k := grown_cell w M c u
  refine ⟨⟨hm, own_cell h.pr u (own_ne_blk h.ms h.pr (by decide)), own_cell h.ow u (own_ne_blk h.ms h.ow (by decide)), fun i hi => (h.tk i hi).of (k.block _ (h.tk i hi).lt (by intro e; cases e; exact h.ms.ne_tk (h.tk i hi) rfl)), h.nd, h.gM, h.gB, h.gt, h.go, fun q e => Nat.lt_of_lt_of_le (h.lt q e) k.size, h.new⟩, k.os, k.tape, k.output, k.size, fun i hi n => k.block i hi (by intro e; cases e; exact n h.gM), fun _ e => .inl e⟩
/-- a cell of a task was written -/
theorem MM.cellT (h : MM W0 w M pv Bs Lv K told an st wk tv ov G) {i : Nat} (hi : i < Bs.length) {B : Nat} (hB : Bs.getD i 0 = B) {c : Nat} {u : Value} {n : Nat} {s : Int} {b : Bool} (ht : TK (w.setCell ⟨B, c, none⟩ u) B (Lv i) n s b) : MM W0 (w.setCell ⟨B, c, none⟩ u) M pv Bs Lv K told (upd an i n) (upd st i s) (upd wk i b) tv ov G ∧ Wd G G w (w.setCell ⟨B, c, none⟩ u) := by
  subst hB
  have k := grown_cell w (Bs.getD i 0) c u
  have t := h.tk i hi
  refine ⟨⟨h.ms.of (k.block _ h.ms.lt (by intro e; injection e with e; exact h.ms.ne_tk t e.symm)), own_cell h.pr u (own_ne_blk t h.pr (by decide)), own_cell h.ow u (own_ne_blk t h.ow (by decide)), fun j hj => ?_, h.nd, h.gM, h.gB, h.gt, h.go, fun q e => Nat.lt_of_lt_of_le (h.lt q e) k.size, h.new⟩, k.os, k.tape, k.output, k.size, fun q hq n => k.block q hq (by intro e; injection e with e; exact n (e ▸ h.gB i hi)), fun _ e => .inl e⟩
  by_cases e : j = i
  · subst e
    unfold upd
    rw [if_pos rfl, if_pos rfl, if_pos rfl]
    exact ht
  · unfold upd
    rw [if_neg e, if_neg e, if_neg e]
    exact (h.tk j hj).of (k.block _ (h.tk j hj).lt (by intro e2; injection e2 with e2; exact e (getD_inj h.nd hj hi e2)))
theorem MM.congr {an' : Nat → Nat} {st' : Nat → Int} {wk' : Nat → Bool} (h : MM W0 w M pv Bs Lv K told an st wk tv ov G) (e1 : ∀ i, i < Bs.length → an' i = an i) (e2 : ∀ i, i < Bs.length → st' i = st i) (e3 : ∀ i, i < Bs.length → wk' i = wk i) : MM W0 w M pv Bs Lv K told an' st' wk' tv ov G :=
  ⟨h.ms, h.pr, h.ow, fun i hi => by rw [e1 i hi, e2 i hi, e3 i hi]; exact h.tk i hi, h.nd, h.gM, h.gB, h.gt, h.go, h.lt, h.new⟩
/-- one more was told -/
theorem MM.push (h : MM W0 w M pv Bs Lv K told an st wk tv ov G) {g n cap : Nat} {ts : List Int} (ho : Own w' 3 0 (.slice (some ⟨g, 0, none⟩) n cap) ts) (k : w.grownBy w' ov.ownBlock) (hg : ov.ownBlock = some g ∨ w.heap.size ≤ g) (hW : W0.heap.size ≤ w.heap.size) :
    MM W0 (w'.setCell ⟨M, 3, none⟩ (.slice (some ⟨g, 0, none⟩) n cap)) M pv Bs Lv K ts an st wk tv (.slice (some ⟨g, 0, none⟩) n cap) (Fo G g) ∧ Wd G (Fo G g) w (w'.setCell ⟨M, 3, none⟩ (.slice (some ⟨g, 0, none⟩) n cap)) := by
  have neM := own_ne_blk h.ms h.ow (by decide)
  have ms1 := h.ms.of (k.block M h.ms.lt (fun e => neM e.symm))
  have gl := World.ownsRow.lt ho g rfl
  have k2 := grown_cell w' M 3 (.slice (some ⟨g, 0, none⟩) n cap)
  have pr1 := own_wide h.pr k (fun q e => own_apart h.ow h.pr (by decide) e)
  refine ⟨⟨ms1.setO _, own_cell pr1 _ (own_ne_blk ms1 pr1 (by decide)), own_cell ho _ (own_ne_blk ms1 ho (by decide)), fun i hi => ?_, h.nd, .inl h.gM, fun i hi => .inl (h.gB i hi), fun q e => .inl (h.gt q e), fun q e => by cases e; exact .inr rfl, ?_, ?_⟩, ?_⟩
  · have t := h.tk i hi
    have t1 := t.of (k.block _ t.lt (fun e => own_ne_blk t h.ow (by decide) e.symm))
    exact t1.of (k2.block _ t1.lt (by intro e; injection e with e; exact ms1.ne_tk t1 e))
  · rintro q (e | e)
    · exact Nat.lt_of_lt_of_le (h.lt q e) (Nat.le_trans k.size k2.size)
    · rw [e]; exact Nat.lt_of_lt_of_le gl.2 k2.size
  · rintro q (e | e)
    · exact h.new q e
    · rw [e]
      rcases hg with e | e
      · exact h.new g (h.go g e)
      · omega
  · exact wd_two k (fun q e => h.go q e) h.gM hg
end

end Go.Proofs.Ytenbmfhhmbfgoaa
