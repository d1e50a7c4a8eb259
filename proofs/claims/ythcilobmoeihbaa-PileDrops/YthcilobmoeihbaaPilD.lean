
/- The queue's Push; the queue as a heap. -/
import Derived.Test.YthcilobmoeihbaaPilC
import Derived.Test.YthcilobmoeihbaaHepD
namespace Go.Proofs.Ythcilobmoeihbaa
open Go.RowKit

theorem OwnP.block_ne {w : World} {v u : Value} {ms : List (Int × Int)} {P : Nat} (h : OwnP w v ms) (hp : Boxed w P 56 u) : some P ≠ v.ownBlock := hp.not_row (by decide) h

theorem push_after {w w9 : World} {o : Obj} {P g c n : Nat} {v : Value} {ms ks : List (Int × Int)} (hp : Boxed w P 56 v) (h : OwnP w v ms)
    (F : OwnP w9 (.slice (some ⟨g, 0, none⟩) n c) ks ∧ (w.alloc o).drew.grownBy w9 v.ownBlock ∧ (v.ownBlock = some g ∨ (w.alloc o).drew.heap.size ≤ g)) :
    w9.cell? ⟨P, 0, none⟩ = some v ∧ w9.frozen? ⟨P, 0, none⟩ = false ∧ Hid (Boxed (w9.setCell ⟨P, 0, none⟩ (.slice (some ⟨g, 0, none⟩) n c)) P 56 (.slice (some ⟨g, 0, none⟩) n c) ∧ OwnP (w9.setCell ⟨P, 0, none⟩ (.slice (some ⟨g, 0, none⟩) n c)) (.slice (some ⟨g, 0, none⟩) n c) ks ∧ K2x P v.ownBlock w (w9.setCell ⟨P, 0, none⟩ (.slice (some ⟨g, 0, none⟩) n c)) ∧ (v.ownBlock = some g ∨ w.heap.size ≤ g)) := by
  obtain ⟨F1, F2, F3⟩ := F
  generalize (.slice (some ⟨g, 0, none⟩) n c : Value) = u at *
  have hne := h.block_ne hp
  have ka : w.grownBy (w.alloc o) none := World.grownBy_alloc w o none
  have hp0 : Boxed (w.alloc o).drew P 56 v := boxed_kp (hp.alloc o) (Kp.drew _)
  have hp9 := hp0.kept F2 hne
  refine ⟨hp9.cell, hp9.frozen, hp9.set u, World.ownsRow.kept F1 (grownBy_setCell' w9 P u) (.inr (F1.block_ne hp9).symm), ?_, ?_⟩
  · have k1 : K2x P v.ownBlock w (w.alloc o).drew := K2x.of_kp ((Kp.alloc w o).trans (Kp.drew _))
    exact (k1.trans (K2x.of_grown F2)).trans (K2x.of_kx ((Kx.refl P w9).set 0 u))
  · rcases F3 with e | e
    · exact .inl e
    · exact .inr (Nat.le_trans ka.size e)
theorem as_entry (v : Value) (w : World) : Sem.run Try.prog (Instr.typeAssert (.iface 60 v) 20 60 false) w = .ok v w := by kernel_rfl

set_option maxRecDepth 20000 in
set_option maxHeartbeats 4000000 in
theorem qpush_any (P : Nat) (a : Option Addr) (n cap : Nat) (ms : List (Int × Int)) (x : Int × Int) (w : World) (hp : Boxed w P 56 (.slice a n cap)) (h : OwnP w (.slice a n cap) ms) (hn : ms.length = n) (hr : n + 1 ≤ 1000000000) :
    Calls Try.prog 50 #[.pointer (some ⟨P, 0, none⟩), boxE x] w fun e w' => e = .returned (.tuple #[]) ∧ ∃ g c, Boxed w' P 56 (.slice (some ⟨g, 0, none⟩) (n + 1) c) ∧ OwnP w' (.slice (some ⟨g, 0, none⟩) (n + 1) c) (ms ++ [x]) ∧ K2x P (Value.ownBlock (.slice a n cap)) w w' ∧ ((Value.ownBlock (.slice a n cap)) = some g ∨ w.heap.size ≤ g) := by
  have c0 := hp.cell
  have f0 := hp.frozen
  have hlt := hp.lt
  have HP := hide hp
  have HO := hide h
  unfold boxE
  have hta := as_entry
  clear h hp
  go_enter Try.func50, Try.ntmps50
  go_upto_region 0 with fail
  go_region_law (first
    | (go_loud (refine step_push rfl (.tmp 7) (.tmp 10) rfl (.slice a n cap) n ms x w.heap.size 1 hn (by first | rfl | simp [Act.eval] | simp [Act.eval, Act.put]) (by first | rfl | simp [Act.eval] | simp [Act.eval, Act.put]) (World.ownsRow.alloc (unhide HO) _) hr (cell_lit2 _ _ _ _ _ rfl).1 (cell_lit2 _ _ _ _ _ rfl).2 ?_; intro g c9 w9 F9; have A9 := push_after (unhide HP) (unhide HO) (unhide F9); clear F9; obtain ⟨c1, f1, A9⟩ := A9)))
  all_goals (refine bodyPost_end (v := .tuple #[]) (results_none Try.results50 _ _ _) rfl ⟨rfl, g, c9, unhide A9⟩)

/-- the queue in a pile's box, its row the one that was there or a new one -/
structure QAt (N P : Nat) (g : Option Nat) (w : World) (ms : List (Int × Int)) : Prop where
  room : ms.length ≤ 1000000000
  n : N ≤ w.heap.size
  val : ∃ a cap, Boxed w P 56 (.slice a ms.length cap) ∧ OwnP w (.slice a ms.length cap) ms ∧ (Value.ownBlock (.slice a ms.length cap) = g ∨ Value.ownBlock (.slice a ms.length cap) = none ∨ ∃ k, Value.ownBlock (.slice a ms.length cap) = some k ∧ N ≤ k)
/-- of what was there before N only the box and the old row may have turned -/
def Rq (N P : Nat) (g : Option Nat) (w w' : World) : Prop := w'.os = w.os ∧ w'.tape = w.tape ∧ w'.output = w.output ∧ w.heap.size ≤ w'.heap.size ∧ ∀ k, k < N → k ≠ P → some k ≠ g → w'.heap[k]? = w.heap[k]?
theorem Rq.of {N P : Nat} {g u : Option Nat} {w w' : World} (h : K2x P u w w') (hN : N ≤ w.heap.size) (hu : u = g ∨ u = none ∨ ∃ k, u = some k ∧ N ≤ k) : Rq N P g w w' := by
  obtain ⟨h1, h2, h3, h4, h5⟩ := h
  refine ⟨h1, h2, h3, h4, fun k hk n1 n2 => h5 k (by omega) n1 ?_⟩
  rcases hu with rfl | rfl | ⟨q, rfl, hq⟩
  · exact n2
  · simp
  · simp; omega
theorem K2x.of_kg {P g : Nat} {w w' : World} (h : Kx g w w') : K2x P (some g) w w' := ⟨h.os, h.tape, h.output, h.size, fun k hk _ h2 => h.block k hk h2⟩
theorem boxed_kx {w w' : World} {B g : Nat} {t : TypeId} {v : Value} (h : Boxed w B t v) (k : Kx g w w') (hne : B ≠ g) : Boxed w' B t v := h.kept k (by simpa using hne)

theorem found_len (p : Addr) (w : World) (v : Value) (h : w.cell? p = some v) : Found 58 (.pointer (some p)) "Len" w 42 v := by
  refine ⟨?_, fun args w' => Try.call42 args w'⟩
  have hi : (Try.t58.methods.find? (·.name == "Len")).map (fun m => (m.path, m.func)) = some (#[], some (42, false)) := by kernel_rfl
  simp only [Option.map_eq_some_iff, Prod.mk.injEq] at hi
  obtain ⟨m, hm, hp, hf⟩ := hi
  have hk : ∀ (nm : String) (w : World), Sem.run Try.prog (Builtin.ssaWrapNilChk_ #[58] 58 #[.pointer (some p), strVal "", strVal nm]) w = .ok (.pointer (some p)) w := fun _ _ => rfl
  have ha : Sem.run Try.prog (asAddr (.pointer (some p))) w = .ok p w := rfl
  have key : ∀ n, Sem.run Try.prog (method (n + 1) 58 (.pointer (some p)) "Len") w = .ok (42, v) w := fun n => by
    rw [method]
    simp [hm, hp, hf, follow, receiverAt, Place.get, loadVar, hk, ha, h]
  exact key _
theorem found_less (p : Addr) (w : World) (v : Value) (h : w.cell? p = some v) : Found 58 (.pointer (some p)) "Less" w 43 v := by
  refine ⟨?_, fun args w' => Try.call43 args w'⟩
  have hi : (Try.t58.methods.find? (·.name == "Less")).map (fun m => (m.path, m.func)) = some (#[], some (43, false)) := by kernel_rfl
  simp only [Option.map_eq_some_iff, Prod.mk.injEq] at hi
  obtain ⟨m, hm, hp, hf⟩ := hi
  have hk : ∀ (nm : String) (w : World), Sem.run Try.prog (Builtin.ssaWrapNilChk_ #[58] 58 #[.pointer (some p), strVal "", strVal nm]) w = .ok (.pointer (some p)) w := fun _ _ => rfl
  have ha : Sem.run Try.prog (asAddr (.pointer (some p))) w = .ok p w := rfl
  have key : ∀ n, Sem.run Try.prog (method (n + 1) 58 (.pointer (some p)) "Less") w = .ok (43, v) w := fun n => by
    rw [method]
    simp [hm, hp, hf, follow, receiverAt, Place.get, loadVar, hk, ha, h]
  exact key _
theorem found_swap (p : Addr) (w : World) (v : Value) (h : w.cell? p = some v) : Found 58 (.pointer (some p)) "Swap" w 44 v := by
  refine ⟨?_, fun args w' => Try.call44 args w'⟩
  have hi : (Try.t58.methods.find? (·.name == "Swap")).map (fun m => (m.path, m.func)) = some (#[], some (44, false)) := by kernel_rfl
  simp only [Option.map_eq_some_iff, Prod.mk.injEq] at hi
  obtain ⟨m, hm, hp, hf⟩ := hi
  have hk : ∀ (nm : String) (w : World), Sem.run Try.prog (Builtin.ssaWrapNilChk_ #[58] 58 #[.pointer (some p), strVal "", strVal nm]) w = .ok (.pointer (some p)) w := fun _ _ => rfl
  have ha : Sem.run Try.prog (asAddr (.pointer (some p))) w = .ok p w := rfl
  have key : ∀ n, Sem.run Try.prog (method (n + 1) 58 (.pointer (some p)) "Swap") w = .ok (44, v) w := fun n => by
    rw [method]
    simp [hm, hp, hf, follow, receiverAt, Place.get, loadVar, hk, ha, h]
  exact key _
theorem found_push (p : Addr) (w : World) : Found 58 (.pointer (some p)) "Push" w 50 (.pointer (some p)) := ⟨by kernel_rfl, fun args w' => Try.call50 args w'⟩
theorem found_pop (p : Addr) (w : World) : Found 58 (.pointer (some p)) "Pop" w 49 (.pointer (some p)) := ⟨by kernel_rfl, fun args w' => Try.call49 args w'⟩

theorem own_block (g n cap : Nat) : Value.ownBlock (.slice (some ⟨g, 0, none⟩) n cap) = some g := rfl

/-- the queue in its box is a heap that can be asked and changed -/
theorem heapQ (N P : Nat) (g : Option Nat) : Heapy2 58 (.pointer (some ⟨P, 0, none⟩)) (0, 0) ltI (QAt N P g) (Rq N P g) boxE where
  ord := ordI
  refl w := ⟨rfl, rfl, rfl, Nat.le_refl _, fun _ _ _ _ => rfl⟩
  trans h k := by
    obtain ⟨h1, h2, h3, h4, h5⟩ := h
    obtain ⟨k1, k2, k3, k4, k5⟩ := k
    exact ⟨k1.trans h1, k2.trans h2, k3.trans h3, Nat.le_trans h4 k4, fun i hi n1 n2 => (k5 i hi n1 n2).trans (h5 i hi n1 n2)⟩
  room h := h.room
  less {w xs} h := by
    obtain ⟨a, cap, hb, ho, hu⟩ := h.val
    refine ⟨_, _, found_less _ w _ hb.cell, fun i j hi hj => ?_⟩
    obtain ⟨q, c', e, hq, _⟩ := ho.form hi
    injection e with e1 e2 e3
    subst e1 e3
    refine (less_any q xs.length cap xs i j w ho hq rfl hi hj).mono ?_
    rintro e w' ⟨rfl, k⟩
    exact ⟨rfl, ⟨h.room, Nat.le_trans h.n k.size, _, _, boxed_kp hb k, ho.keep k, hu⟩, Rq.of (K2x.of_kp k) h.n hu⟩
  swap {w xs} h := by
    obtain ⟨a, cap, hb, ho, hu⟩ := h.val
    refine ⟨_, _, found_swap _ w _ hb.cell, fun i j hi hj => ?_⟩
    obtain ⟨q, c', e, hq, _⟩ := ho.form hi
    injection e with e1 e2 e3
    subst e1 e3
    refine (swap_any q xs.length cap xs i j w ho rfl hi hj).mono ?_
    rintro e w' ⟨rfl, o, k⟩
    have hne : P ≠ q := fun e => ho.block_ne hb (by rw [e]; rfl)
    refine ⟨rfl, ⟨by rw [swpL_length]; exact h.room, Nat.le_trans h.n k.size, some ⟨q, 0, none⟩, cap, ?_, ?_, ?_⟩, Rq.of (K2x.of_kg k) h.n hu⟩
    · rw [swpL_length]; exact boxed_kx hb k hne
    · rw [swpL_length]; exact o
    · rw [swpL_length]; exact hu
  len {w xs} h := by
    obtain ⟨a, cap, hb, ho, hu⟩ := h.val
    refine ⟨_, _, found_len _ w _ hb.cell, (qlen_any a xs.length cap w).mono ?_⟩
    rintro e w' ⟨rfl, rfl⟩
    exact ⟨rfl, h, ⟨rfl, rfl, rfl, Nat.le_refl _, fun _ _ _ _ => rfl⟩⟩
  push {w xs} h hr := by
    obtain ⟨a, cap, hb, ho, hu⟩ := h.val
    refine ⟨_, _, found_push _ w, fun x => (qpush_any P a xs.length cap xs x w hb ho rfl hr).mono ?_⟩
    rintro e w' ⟨rfl, q, c, hb', ho', k, hq⟩
    have hl : (xs ++ [x]).length = xs.length + 1 := by simp
    refine ⟨rfl, ⟨by omega, Nat.le_trans h.n k.size, some ⟨q, 0, none⟩, c, by rw [hl]; exact hb', by rw [hl]; exact ho', ?_⟩, Rq.of k h.n hu⟩
    rcases hq with e | e
    · rw [own_block, ← e]; exact hu
    · exact .inr (.inr ⟨q, rfl, Nat.le_trans h.n e⟩)
  pop {w xs x} h := by
    obtain ⟨a, cap, hb, ho, hu⟩ := h.val
    obtain ⟨q, c', e, hq, _⟩ := ho.form (i := 0) (by simp)
    injection e with e1 e2 e3
    subst e1 e3
    have hl : (xs ++ [x]).length = xs.length + 1 := by simp
    have hrm := h.room
    rw [hl] at hb ho hu hrm
    refine ⟨_, _, found_pop _ w, (qpop_any P q xs.length cap xs x w hb ho rfl (by omega)).mono ?_⟩
    rintro e w' ⟨rfl, hb', ho', k⟩
    exact ⟨rfl, ⟨by omega, Nat.le_trans h.n k.size, some ⟨q, 0, none⟩, cap, hb', ho', hu⟩, Rq.of (g := g) (u := g) (K2x.of_kx k) h.n (.inl rfl)⟩

end Go.Proofs.Ythcilobmoeihbaa
