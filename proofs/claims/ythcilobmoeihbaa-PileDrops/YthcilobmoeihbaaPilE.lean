
/- slices.IndexFunc and DeleteFunc over the queue's row, as Drop calls them. -/
import Derived.Test.YthcilobmoeihbaaPilC
import Derived.Lib.SliceRun
import Derived.BigQuiet
namespace Go.Proofs.Ythcilobmoeihbaa
open Go.RowKit

set_option maxHeartbeats 1000000 in
theorem drop1_any (x : Int × Int) (id : Int) (B : Nat) (w : World) (hc : w.cell? ⟨B, 0, none⟩ = some (.int .i64 id)) :
    Calls Try.prog 21 #[.agg #[.int .i64 x.1, .int .i64 x.2], .pointer (some ⟨B, 0, none⟩)] w fun e w' => e = .returned (.bool (x.1 == id)) ∧ Kp w w' := by
  have hlt := World.block_lt_of_cell? w _ hc
  have hne : B ≠ w.heap.size := Nat.ne_of_lt hlt
  have HK := hide (Kp.alloc w (.cells #[.int .i64 x.1, .int .i64 x.2] 60))
  go_enter Try.func21, Try.ntmps21
  go_wp2
  go_ret
  exact ⟨rfl, unhide HK⟩

/-- the first one with that id -/
def FirstId (id : Int) (ms : List (Int × Int)) (i : Int) : Prop := (i = -1 ∧ ∀ j, j < ms.length → (atL (0, 0) ms j).1 ≠ id) ∨ ∃ q : Nat, i = (q : Int) ∧ q < ms.length ∧ (atL (0, 0) ms q).1 = id ∧ ∀ j, j < q → (atL (0, 0) ms j).1 ≠ id

set_option maxRecDepth 20000 in
set_option maxHeartbeats 4000000 in
theorem ixf_any (B g n cap : Nat) (id : Int) (ms : List (Int × Int)) (w : World) (h : OwnP w (.slice (some ⟨g, 0, none⟩) n cap) ms) (hn : ms.length = n) (hr : n ≤ 1000000000) (hc : w.cell? ⟨B, 0, none⟩ = some (.int .i64 id)) :
    Calls Try.prog 25 #[.slice (some ⟨g, 0, none⟩) n cap, .func (.func 21) #[] #[.pointer (some ⟨B, 0, none⟩)]] w fun e w' => ∃ i, e = .returned (.int .i64 i) ∧ FirstId id ms i ∧ Kp w w' := by
  have hlt := World.block_lt_of_cell? w _ hc
  have H := hide h
  have HC := hide hc
  clear h hc
  have hcall := Try.call21
  go_enter Try.func25, Try.ntmps25
  go_wp2
  go_loopw [8] (fun i wr => ∃ k : Nat, k ≤ n ∧ i = .int .i64 k ∧ Hid (∀ j, j < k → (atL (0, 0) ms j).1 ≠ id) ∧ Hid (Kp w wr)) (fun i _ => n - (intOf i).toNat)
  case atStart => exact ⟨0, Nat.zero_le _, rfl, by unfold Hid; omega, Kp.refl _⟩
  case round =>
    obtain ⟨k, hk, rfl, HA, KR⟩ := hrel
    by_cases hlt2 : k < n
    · obtain ⟨c0, c1⟩ := ((unhide H).keep (unhide KR)).at (i := k) (by omega)
      have hkI : (k : Int) < (n : Int) := by omega
      have HD := hide (fun x => drop1_any x id B wr ((Below.cell (unhide KR) (p := ⟨B, 0, none⟩) hlt).trans (unhide HC)))
      have HB : Hid ((atL (0, 0) ms k).1 ≠ id → ∀ j, j < k + 1 → (atL (0, 0) ms j).1 ≠ id) := by
        intro hx j hj
        by_cases e : j = k
        · subst e; exact hx
        · exact unhide HA j (by omega)
      have HT : Hid ((atL (0, 0) ms k).1 = id → FirstId id ms k) := fun hx => .inr ⟨k, rfl, by omega, hx, unhide HA⟩
      generalize atL (0, 0) ms k = y at *
      by_cases hx : y.1 = id
      · have HX := hide (unhide HT hx)
        have hxB : (y.1 == id) = true := by simp [hx]
        clear hx HT HB
        go_wp2_with fail
        refine (unhide HD y).mono ?_
        rw [hxB]
        clear hxB
        rintro e w2 ⟨rfl, k2⟩
        have K2 := hide ((unhide KR).trans k2)
        clear k2
        go_wp2
        go_ret
        exact ⟨_, rfl, unhide HX, unhide K2⟩
      · have HX := hide (unhide HB hx)
        have hxB : (y.1 == id) = false := by simp [hx]
        clear hx HT HB
        go_wp2_with fail
        refine (unhide HD y).mono ?_
        rw [hxB]
        clear hxB
        rintro e w2 ⟨rfl, k2⟩
        have K2 := hide ((unhide KR).trans k2)
        clear k2
        go_wp2
        go_roundw
        case rel => exact ⟨k + 1, by omega, by go_num, unhide HX, unhide K2⟩
        case measure => simp [intOf]; omega
    · have HF : Hid (FirstId id ms (-1)) := .inl ⟨rfl, fun j hj => unhide HA j (by omega)⟩
      go_wp2
      go_ret
      exact ⟨_, rfl, unhide HF, unhide KR⟩

/-- what lies behind the first ones is cleared -/
theorem run_clearE (w : World) (g i n cap : Nat) (ms : List (Int × Int)) (h : OwnP w (.slice (some ⟨g, 0, none⟩) n cap) ms) (hn : ms.length = n) (hi : i < n) (c : Nat) :
    ∃ w', (∀ ty, Sem.run Try.prog (Builtin.clear_ #[54] ty #[.slice (some ⟨g, i * 2, none⟩) (n - i) c]) w = .ok (.tuple #[]) w') ∧ OwnP w' (.slice (some ⟨g, 0, none⟩) i cap) (ms.take i) ∧ Kx g w w' := by
  obtain ⟨hl, ⟨h1, _⟩ | ⟨g', cap', cur, e', hb, hh, h2, h3, h4, ht⟩⟩ := h
  · cases h1
  · injection e' with e1 e2 e3
    cases e1
    subst e3
    rw [hn] at hl h2 ht
    have hz : (Builtin.zeroCells (Value.agg #[.int .i64 0, .int .i64 0]).cells (n - i)).size = (n - i) * 2 := by rw [size_zeroCells]; rfl
    have hfit : i * 2 + 0 + (Builtin.zeroCells (Value.agg #[.int .i64 0, .int .i64 0]).cells (n - i)).toList.length ≤ cur.size := by
      rw [Array.length_toList, hz, h4]
      omega
    have hone : ∀ v ∈ (Builtin.zeroCells (Value.agg #[.int .i64 0, .int .i64 0]).cells (n - i)).toList, v.oneCell' = true := by
      intro v hv
      obtain ⟨q, hq, rfl⟩ := List.getElem_of_mem hv
      have e : ∀ q', q' < 2 → (#[Value.int .i64 0, .int .i64 0] : Array Value)[q']!.oneCell' = true := by
        intro q' h
        match q', h with
        | 0, _ => rfl
        | 1, _ => rfl
      simp only [Builtin.zeroCells, Array.getElem_toList, Array.getElem_map, Array.getElem_range]
      exact e _ (Nat.mod_lt _ (by decide))
    have hst := run_storeCells_at Try.prog g (i * 2) 60 _ 0 cur w hh hfit hone
    generalize hcs : (cur.toList.take (i * 2 + 0) ++ (Builtin.zeroCells (Value.agg #[.int .i64 0, .int .i64 0]).cells (n - i)).toList ++ cur.toList.drop (i * 2 + 0 + (Builtin.zeroCells (Value.agg #[.int .i64 0, .int .i64 0]).cells (n - i)).toList.length)).toArray = cs at hst
    refine ⟨w.setRow g cs, fun ty => ?_, ⟨by rw [itC_length], .inr ⟨g, cap, _, ?_, Nat.zero_le _, setRow_heap w g cur _ _ _ hh, ?_, h3, ?_, ?_⟩⟩, ⟨rfl, rfl, rfl, by simp, fun k hk hne => setRow_other w g k _ (fun e => hne (by rw [e]))⟩⟩
    · obtain ⟨m, hm⟩ : ∃ m, n - i = m + 1 := ⟨n - i - 1, by omega⟩
      rw [hm] at hst ⊢
      simp [Builtin.clear_, run_underlying Try.underlying54, hst]
    · rw [List.length_take, Nat.min_eq_left (by omega)]
    · rw [List.length_take, Nat.min_eq_left (by omega)]; omega
    · rw [← hcs]
      simp only [List.size_toArray, List.length_append, List.length_take, List.length_drop, Array.length_toList, hz, h4]
      omega
    · rw [List.length_take, Nat.min_eq_left (by omega)]
      have e : itC (ms.take i) = (itC ms).take (i * 2) := by
        have h5 := itC_append (ms.take i) (ms.drop i)
        rw [List.take_append_drop] at h5
        rw [h5, List.take_left' (by rw [itC_length, List.length_take, Nat.min_eq_left (by omega)])]
      rw [e, ← ht, List.take_take, Nat.min_eq_left (by omega), ← hcs]
      simp only [Nat.add_zero, List.append_assoc]
      rw [List.take_append_of_le_length (by simp; omega), List.take_take, Nat.min_self]

/-- all but those with that id -/
def keepI (id : Int) (ms : List (Int × Int)) : List (Int × Int) := ms.filter (fun x => x.1 != id)
theorem keepI_le (id : Int) (ms : List (Int × Int)) : (keepI id ms).length ≤ ms.length := List.length_filter_le _ _
theorem keepI_all {id : Int} : ∀ {ms : List (Int × Int)}, (∀ j, j < ms.length → (atL (0, 0) ms j).1 ≠ id) → keepI id ms = ms
  | [], _ => rfl
  | x :: r, h => by
    have h0 := h 0 (by simp)
    have hr := keepI_all (ms := r) (fun j hj => h (j + 1) (by simpa using hj))
    unfold keepI at hr ⊢
    have e : (x.1 != id) = true := by simpa [atL] using h0
    rw [List.filter_cons_of_pos (by exact e), hr]
theorem take_at {ms : List (Int × Int)} {k : Nat} (h : k < ms.length) : ms.take (k + 1) = ms.take k ++ [atL (0, 0) ms k] := by
  rw [List.take_succ_eq_append_getElem h]
  simp [atL, List.getD, h]
theorem drop_at {ms : List (Int × Int)} {k : Nat} (h : k < ms.length) : ms.drop k = atL (0, 0) ms k :: ms.drop (k + 1) := by
  rw [List.drop_eq_getElem_cons h]
  simp [atL, List.getD, h]
/-- the row while those with that id are struck, the first k looked at -/
def DelSt (id : Int) (ms : List (Int × Int)) (k : Nat) (cs : List (Int × Int)) : Prop := ∃ mid, cs = keepI id (ms.take k) ++ mid ++ ms.drop k ∧ 0 < mid.length ∧ cs.length = ms.length
theorem DelSt.start {id : Int} {ms : List (Int × Int)} {q : Nat} (hq : q < ms.length) (he : (atL (0, 0) ms q).1 = id) (hb : ∀ j, j < q → (atL (0, 0) ms j).1 ≠ id) : keepI id (ms.take (q + 1)) = ms.take q ∧ DelSt id ms (q + 1) ms := by
  have e1 : keepI id (ms.take q) = ms.take q := keepI_all (fun j hj => by
    have hj' : j < q := by simp at hj; omega
    have := hb j hj'
    unfold atL at this ⊢
    rwa [show (ms.take q).getD j (0, 0) = ms.getD j (0, 0) by simp [List.getD, hj']])
  have e : keepI id (ms.take (q + 1)) = ms.take q := by
    rw [take_at hq]
    unfold keepI at e1 ⊢
    rw [List.filter_append, e1]
    simp [he]
  refine ⟨e, [atL (0, 0) ms q], ?_, by simp, rfl⟩
  rw [e, ← take_at hq, List.take_append_drop]
theorem DelSt.lens {id : Int} {ms cs : List (Int × Int)} {k : Nat} (h : DelSt id ms k cs) (hk : k ≤ ms.length) : (keepI id (ms.take k)).length < k ∧ cs.length = ms.length := by
  obtain ⟨mid, rfl, h1, h2⟩ := h
  simp at h2
  exact ⟨by omega, by simp; omega⟩
theorem DelSt.read {id : Int} {ms cs : List (Int × Int)} {k : Nat} (h : DelSt id ms k cs) (hk : k < ms.length) : atL (0, 0) cs k = atL (0, 0) ms k := by
  obtain ⟨mid, rfl, h1, h2⟩ := h
  have hl : (keepI id (ms.take k) ++ mid).length = k := by simp at h2 ⊢; omega
  rw [drop_at hk]
  unfold atL
  rw [List.getD_eq_getElem?_getD, List.getElem?_append_right (by omega), hl, Nat.sub_self]
  rfl
theorem DelSt.gone {id : Int} {ms cs : List (Int × Int)} {k : Nat} (h : DelSt id ms k cs) (hk : k < ms.length) (he : (atL (0, 0) ms k).1 = id) : keepI id (ms.take (k + 1)) = keepI id (ms.take k) ∧ DelSt id ms (k + 1) cs := by
  obtain ⟨mid, rfl, h1, h2⟩ := h
  have e : keepI id (ms.take (k + 1)) = keepI id (ms.take k) := by
    rw [take_at hk]
    unfold keepI
    rw [List.filter_append]
    simp [he]
  refine ⟨e, mid ++ [atL (0, 0) ms k], ?_, by simp, h2⟩
  rw [e, drop_at hk]
  simp
theorem DelSt.kept {id : Int} {ms cs : List (Int × Int)} {k : Nat} (h : DelSt id ms k cs) (hk : k < ms.length) (he : (atL (0, 0) ms k).1 ≠ id) : (keepI id (ms.take (k + 1))).length = (keepI id (ms.take k)).length + 1 ∧ DelSt id ms (k + 1) (cs.set (keepI id (ms.take k)).length (atL (0, 0) ms k)) := by
  obtain ⟨mid, rfl, h1, h2⟩ := h
  have e : keepI id (ms.take (k + 1)) = keepI id (ms.take k) ++ [atL (0, 0) ms k] := by
    rw [take_at hk]
    unfold keepI
    rw [List.filter_append]
    have e2 : ((atL (0, 0) ms k).1 != id) = true := by simpa using he
    rw [List.filter_cons_of_pos (by exact e2)]
    rfl
  obtain ⟨m0, mid1, rfl⟩ : ∃ m0 mid1, mid = m0 :: mid1 := by
    cases mid with
    | nil => simp at h1
    | cons a b => exact ⟨a, b, rfl⟩
  refine ⟨by rw [e]; simp, mid1 ++ [atL (0, 0) ms k], ?_, by simp, by rw [List.length_set]; exact h2⟩
  rw [e, drop_at hk, List.append_assoc, List.set_append_right _ _ (Nat.le_refl _), Nat.sub_self]
  simp
theorem DelSt.fin {id : Int} {ms cs : List (Int × Int)} (h : DelSt id ms ms.length cs) : cs.take (keepI id ms).length = keepI id ms := by
  obtain ⟨mid, rfl, h1, h2⟩ := h
  rw [List.take_length, List.append_assoc, List.take_left' rfl]

end Go.Proofs.Ythcilobmoeihbaa
