
/- Lists of tensors; contracts of what fold asks of one tensor, and of the folds at each place. -/
import Derived.Test.YtlfjclnocbohbaaHnd
import Derived.Test.YtlfjclnocbohbaaTenD
import Derived.Test.YtlfjclnocbohbaaRealC
import Derived.Test.YtlfjclnocbohbaaOpn
namespace Go.Proofs.Ytlfjclnocbohbaa
open Go.RowKit

/-- a tensor in plain mathematics: its shape, its numbers -/
structure Tn where
  s : List Int
  d : List Nat
def tnil : Tn := ⟨[], []⟩

/-- at that place of block b a tensor lies -/
def TenAt (w : World) (b o : Nat) (t : Tn) : Prop :=
  ∃ p c p' c', w.cell? ⟨b, o, none⟩ = some (.slice p t.s.length c) ∧ w.cell? ⟨b, o + 1, none⟩ = some (.slice p' t.d.length c') ∧ Ints w (.slice p t.s.length c) t.s ∧ Flts w (.slice p' t.d.length c') t.d
theorem TenAt.keep {w w' : World} {b o : Nat} {t : Tn} (h : TenAt w b o t) (hb : b < w.heap.size) (k : Kp w w') : TenAt w' b o t := by
  obtain ⟨p, c, p', c', h1, h2, h3, h4⟩ := h
  exact ⟨p, c, p', c', (Below.cell k (p := ⟨b, o, none⟩) hb).trans h1, (Below.cell k (p := ⟨b, o + 1, none⟩) hb).trans h2, h3.keep k, h4.keep k⟩

/-- the slice value v reads as the tensors ts -/
structure Tens (w : World) (v : Value) (ts : List Tn) : Prop where
  room : ts.length ≤ 1000000
  val : ∃ a cap, v = .slice a ts.length cap ∧ (0 < ts.length → ∃ b off, a = some ⟨b, off, none⟩ ∧ b < w.heap.size ∧ ∀ i, i < ts.length → TenAt w b (off + i * 2) (ts.getD i tnil))
theorem Tens.keep {w w' : World} {v : Value} {ts : List Tn} (h : Tens w v ts) (k : Kp w w') : Tens w' v ts := by
  obtain ⟨h1, a, cap, rfl, h2⟩ := h
  refine ⟨h1, a, cap, rfl, fun hp => ?_⟩
  obtain ⟨b, off, rfl, hb, hc⟩ := h2 hp
  exact ⟨b, off, rfl, Nat.lt_of_lt_of_le hb k.size, fun i hi => (hc i hi).keep hb k⟩
theorem Tens.one {w w' : World} {a : Option Addr} {n c : Nat} {ts : List Tn} (h : Tens w (.slice a n c) ts) (k : Kp w w') {i : Nat} (hi : i < ts.length) : ∃ b off, a = some ⟨b, off, none⟩ ∧ b < w'.heap.size ∧ TenAt w' b (off + i * 2) (ts.getD i tnil) := by
  obtain ⟨_, a', cap, e, h2⟩ := h
  cases e
  obtain ⟨b, off, rfl, hb, hc⟩ := h2 (by omega)
  exact ⟨b, off, rfl, Nat.lt_of_lt_of_le hb k.size, (hc i hi).keep hb k⟩

theorem BlkF.setO {w : World} {e : TypeId} {B G : Nat} {ys : List Nat} (h : BlkF w e G ys) (hne : ¬ B = G) (i : Nat) (v : Value) : BlkF (w.setCell ⟨B, i, none⟩ v) e G ys := by
  unfold BlkF at h ⊢
  exact (Below.heap_setCell w ⟨B, i, none⟩ v G (fun e => hne e.symm)).trans h

set_option maxHeartbeats 400000 in
theorem vacant_any (p p' : Option Addr) (n c n' c' : Nat) (w : World) (hn : n' ≤ 9223372036854775807) :
    Calls Try.prog 42 #[.agg #[.slice p n c, .slice p' n' c']] w fun e w' => e = .returned (.bool (decide (n' = 0))) ∧ Kp w w' := by
  have E : Hid (decide (n' = 0) = ((n' : Int) == 0)) := by
    unfold Hid
    by_cases h : n' = 0
    · subst h; rfl
    · rw [decide_eq_false h]
      exact (beq_eq_false_iff_ne.2 (by omega)).symm
  go_enter Try.func42, Try.ntmps42
  go_wp2
  go_ret
  exact ⟨ret_bool (unhide E).symm, Kp.alloc _ _⟩

/-- is it a tensor of that shape? -/
def ofB (s : List Int) (t : Tn) : Bool := mayT t.s t.d && sameB t.s s
theorem ofB_no {s : List Int} {t : Tn} (h : mayT t.s t.d = false) : ofB s t = false := by unfold ofB; rw [h]; rfl
theorem ofB_yes {s : List Int} {t : Tn} (h : mayT t.s t.d = true) : ofB s t = sameB t.s s := by unfold ofB; rw [h]; rfl
theorem ofB_may {s : List Int} {t : Tn} (h : ofB s t = true) : mayT t.s t.d = true ∧ t.s = s := by
  unfold ofB at h
  simp only [Bool.and_eq_true] at h
  exact ⟨h.1, of_decide_eq_true h.2⟩

set_option maxHeartbeats 1000000 in
theorem isof_any (v sv dv : Value) (s : List Int) (t : Tn) (w : World) (h : Ints w v s) (hs : Ints w sv t.s) (hd : Flts w dv t.d) :
    Calls Try.prog 27 #[v, .agg #[sv, dv]] w fun e w' => e = .returned (.bool (ofB s t)) ∧ Kp w w' := by
  have H := hide h
  have HS := hide hs
  have HD := hide hd
  obtain ⟨p, c, rfl, -⟩ := hs.val
  obtain ⟨p', c', rfl, -⟩ := hd.val
  clear h hs hd
  go_enter Try.func27, Try.ntmps27
  go_wp2_with fail
  obtain ⟨W, hW, x1, k0⟩ := box_in w (.slice p t.s.length c) (.slice p' t.d.length c')
  rw [← hW]
  clear hW
  have X1 := hide x1
  have K0 := hide k0
  obtain ⟨c0, c1, -, -, -⟩ := x1.o
  clear x1 k0
  generalize w.heap.size = B at X1 c0 c1 ⊢
  try go_wp2_with fail
  refine (mayT_any _ _ t.s t.d W ((unhide HS).keep (unhide K0)) ((unhide HD).keep (unhide K0))).mono ?_
  rintro e w1 ⟨rfl, k1⟩
  clear c0 c1
  obtain ⟨c0, c1, -, -, -⟩ := ((unhide X1).keep k1).o
  have K1 := hide ((unhide K0).trans k1)
  clear k1 X1 K0
  cases hm : mayT t.s t.d
  · have E := hide (ofB_no (s := s) hm)
    clear hm
    go_wp2
    go_ret
    exact ⟨ret_bool (unhide E).symm, unhide K1⟩
  · have E := hide (ofB_yes (s := s) hm)
    clear hm
    go_wp2_with fail
    refine (same_any _ _ t.s s w1 ((unhide HS).keep (unhide K1)) ((unhide H).keep (unhide K1))).mono ?_
    rintro e w2 ⟨rfl, k2⟩
    have K2 := hide ((unhide K1).trans k2)
    clear k2 c0 c1
    generalize sameB t.s s = q at *
    go_wp2
    go_ret
    exact ⟨ret_bool (unhide E).symm, unhide K2⟩

/-- what the tensors have at a place -/
def colL (ts : List Tn) (j : Nat) : List Nat := ts.map (fun t => t.d.getD j 0)
theorem colL_length (ts : List Tn) (j : Nat) : (colL ts j).length = ts.length := by simp [colL]
theorem colL_getD (ts : List Tn) (j k : Nat) : (colL ts j).getD k 0 = (ts.getD k tnil).d.getD j 0 := by
  by_cases h : k < ts.length
  · simp [colL, h]
  · have h1 : ts.getD k tnil = tnil := by simp [Nat.le_of_not_lt h]
    have h2 : (colL ts j).getD k 0 = 0 := by simp [colL, Nat.le_of_not_lt h]
    rw [h1, h2]
    rfl
theorem Tens.w64 {w : World} {v : Value} {ts : List Tn} (h : Tens w v ts) (j : Nat) : ∀ x ∈ colL ts j, W64 x := by
  intro x hx
  obtain ⟨t, ht, rfl⟩ := List.mem_map.1 hx
  obtain ⟨i, hi, rfl⟩ := List.getElem_of_mem ht
  obtain ⟨_, a, c, rfl, h2⟩ := h
  obtain ⟨b, off, _, _, hc⟩ := h2 (by omega)
  obtain ⟨p, c, p', c', _, _, _, hf⟩ := hc i hi
  have e : ts.getD i tnil = ts[i] := by simp [hi]
  rw [e] at hf
  exact getD_w64 hf.wf j
theorem takeN_snoc {xs : List Nat} {k : Nat} (hk : k < xs.length) : xs.take (k + 1) = xs.take k ++ [xs.getD k 0] := by
  have e : xs.getD k 0 = xs[k] := by simp [hk]
  rw [e, List.take_append_getElem]
theorem col_set {xs hs : List Nat} {k : Nat} (hk : k < xs.length) (hl : hs.length = xs.length) : (xs.take k ++ hs.drop k).set k (xs.getD k 0) = xs.take (k + 1) ++ hs.drop (k + 1) := by
  have l1 : (xs.take k).length = k := by rw [List.length_take]; omega
  rw [List.set_append_right _ _ (by omega), l1, Nat.sub_self, List.drop_eq_getElem_cons (show k < hs.length by omega), List.set_cons_zero, takeN_snoc hk, List.append_assoc]
  rfl

end Go.Proofs.Ytlfjclnocbohbaa
