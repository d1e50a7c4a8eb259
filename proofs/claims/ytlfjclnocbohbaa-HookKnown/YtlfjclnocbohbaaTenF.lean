
/- Contracts of the map of a tensor's numbers: the loop behind the deferred call, and what is outside of it. -/
import Derived.Test.YtlfjclnocbohbaaTenE
import Derived.Defers
import Derived.Recover
import Derived.Laws.Pointers
namespace Go.Proofs.Ytlfjclnocbohbaa
open Go.RowKit

theorem caught_idle (p : Addr) (w : World) :
    CallsD Try.prog 74 #[.pointer (some p)] .returning w fun e u' w' => e = .returned (.tuple #[]) ∧ u' = .returning ∧ w' = w := by
  refine callsD_of_wpS Try.func74 rfl fun c₀ cs hu => ?_
  apply wpS_seq
  apply wpS_region
  simp [wpOpsS, go_sem, recoverD, hu, Try.ntmps74, Exit.thenS]
  refine wpS_cond (t := false) (by simp [Act.eval, Array.replicate]) ?_
  simp only [Bool.false_eq_true, if_false]
  refine wpS_of_wp (wp_skip ?_)
  cases c₀
  simp_all [bodyPostS, results, Try.results74]

/-- the call's own slice of numbers in block G -/
structure OwnG (w : World) (e : TypeId) (G n c : Nat) (xs : List Nat) : Prop where
  len : xs.length = n
  room : n ≤ c ∧ c ≤ maxLen
  blk : ∃ cur : Array Value, w.heap[G]? = some (.cells cur e) ∧ cur.size = c ∧ cur.toList.take n = xs.map (Value.float .f64)

theorem OwnF.g {w : World} {e : TypeId} {base : Nat} {v : Value} {xs : List Nat} (h : OwnF w e base v xs) (hp : 0 < xs.length) : ∃ G c, base ≤ G ∧ v = .slice (some ⟨G, 0, none⟩) xs.length c ∧ OwnG w e G xs.length c xs := by
  obtain ⟨h0, ⟨_, h⟩ | ⟨g, cap, cur, rfl, hg, hh, h1, h2, h3, h4⟩⟩ := h
  · omega
  · exact ⟨g, cap, hg, rfl, rfl, ⟨h1, h2⟩, cur, hh, by simpa using h3, by simpa using h4⟩
theorem OwnG.own {w : World} {e : TypeId} {G n c : Nat} {xs : List Nat} (h : OwnG w e G n c xs) {base : Nat} (hb : base ≤ G) : OwnF w e base (.slice (some ⟨G, 0, none⟩) n c) xs := by
  obtain ⟨rfl, ⟨h1, h2⟩, cur, hh, h3, h4⟩ := h
  exact ⟨by simp, .inr ⟨G, c, cur, rfl, hb, hh, h1, h2, by simpa using h3, by simpa using h4⟩⟩
theorem OwnG.lt {w : World} {e : TypeId} {G n c : Nat} {xs : List Nat} (h : OwnG w e G n c xs) : G < w.heap.size := by
  obtain ⟨_, _, cur, hh, _⟩ := h
  exact (Array.getElem?_eq_some_iff.1 hh).1
theorem OwnG.frozen {w : World} {e : TypeId} {G n c : Nat} {xs : List Nat} (h : OwnG w e G n c xs) (i : Nat) : w.frozen? ⟨G, i, none⟩ = false := by
  obtain ⟨_, _, cur, hh, _⟩ := h
  simp [World.frozen?, hh]
theorem OwnG.cell {w : World} {e : TypeId} {G n c : Nat} {xs : List Nat} (h : OwnG w e G n c xs) {i : Nat} (hi : i < n) : w.cell? ⟨G, i, none⟩ = some (.float .f64 (xs.getD i 0)) := by
  obtain ⟨rfl, _, cur, hh, h3, h4⟩ := h
  have e1 : cur[i]? = some (.float .f64 (xs.getD i 0)) := by
    have h2 := congrArg (fun l => l[i]?) h4
    simp only [List.getElem?_take, hi, if_true, List.getElem?_map, Array.getElem?_toList] at h2
    rw [h2]
    simp [hi]
  simp [World.cell?, hh, e1]
theorem OwnG.keep {w w' : World} {e : TypeId} {G n c : Nat} {xs : List Nat} (h : OwnG w e G n c xs) (k : Kp w w') : OwnG w' e G n c xs := by
  have hl := h.lt
  obtain ⟨h0, h1, cur, hh, h3, h4⟩ := h
  exact ⟨h0, h1, cur, by rw [k.block G hl]; exact hh, h3, h4⟩
theorem OwnG.set {w : World} {e : TypeId} {G n c : Nat} {xs : List Nat} (h : OwnG w e G n c xs) (i : Nat) (x : Nat) : OwnG (w.setCell ⟨G, i, none⟩ (.float .f64 x)) e G n c (xs.set i x) := by
  obtain ⟨h0, h1, cur, hh, h3, h4⟩ := h
  refine ⟨by simpa using h0, h1, cur.setIfInBounds i (.float .f64 x), ?_, by simpa using h3, ?_⟩
  · simp [World.setCell, Array.getElem?_modify, hh]
  · rw [Array.toList_setIfInBounds, List.take_set, h4, List.map_set]
theorem OwnG.flts {w : World} {e : TypeId} {G n c : Nat} {xs : List Nat} (h : OwnG w e G n c xs) (hw : ∀ x ∈ xs, W64 x) (hr : n * 8 ≤ 140737488351232) : Flts w (.slice (some ⟨G, 0, none⟩) n c) xs := by
  have := (h.own (Nat.le_refl _)).flts hw (by rw [h.len]; exact hr)
  exact this

theorem OwnG.setOther {w : World} {e : TypeId} {G n c : Nat} {xs : List Nat} (h : OwnG w e G n c xs) {B : Nat} (hB : ¬ B = G) (i : Nat) (u : Value) : OwnG (w.setCell ⟨B, i, none⟩ u) e G n c xs := by
  obtain ⟨h0, h1, cur, hh, h3, h4⟩ := h
  exact ⟨h0, h1, cur, (Below.heap_setCell w ⟨B, i, none⟩ u G (fun e => hB e.symm)).trans hh, h3, h4⟩
theorem Kp.kx {G : Nat} {a b c : World} (h : Kp a b) (k : Kx G b c) : Kx G a c :=
  ⟨k.os.trans h.os, k.tape.trans h.tape, k.output.trans h.output, Nat.le_trans h.size k.size, fun i hi hne => (k.block i (Nat.lt_of_lt_of_le hi h.size) hne).trans (h.block i hi)⟩
theorem Kx.setNew {G : Nat} {a b : World} (h : Kx G a b) {B : Nat} (hB : a.heap.size ≤ B) (i : Nat) (v : Value) : Kx G a (b.setCell ⟨B, i, none⟩ v) :=
  ⟨h.os, h.tape, h.output, by simpa using h.size, fun k hk hne => (Below.heap_setCell b ⟨B, i, none⟩ v k (fun e => by simp at e; omega)).trans (h.block k hk hne)⟩

theorem Bx.keepx {w w' : World} {B G : Nat} {x y : Value} (h : Bx w B x y) (k : Kx G w w') (hne : ¬ B = G) : Bx w' B x y := by
  unfold Bx
  rw [k.block B h.lt (fun e => hne (by cases e; rfl))]
  exact h

set_option maxHeartbeats 1000000 in
theorem mapped_any (g : Nat) (caps : Array Value) (R : Nat → Nat → Prop) (a0 : Option Addr) (n0 c0 G n c : Nat) (d : List Nat) (w : World) (hg : OwnG w 23 G n c d) (hn : n ≤ 1000000) (hw : ∀ x ∈ d, W64 x)
    (hcall : ∀ args w, Sem.run Try.prog (callFunc g args) w = .ok (.enter g args) w)
    (hf : Hid (∀ x w1, W64 x → Calls Try.prog g (caps ++ #[.float .f64 x]) w1 fun e w2 => ∃ r, e = .returned (.float .f64 r) ∧ (R x r ∧ W64 r) ∧ Kp w1 w2)) :
    Calls Try.prog 68 #[.agg #[.slice a0 n0 c0, .slice (some ⟨G, 0, none⟩) n c], .func (.func g) caps #[]] w fun e w' => ∃ ds, e = .returned (.agg #[.slice a0 n0 c0, .slice (some ⟨G, 0, none⟩) n c]) ∧
      OwnG w' 23 G n c ds ∧ (∀ x ∈ ds, W64 x) ∧ (∀ j, j < n → R (d.getD j 0) (ds.getD j 0)) ∧ Kx G w w' := by
  have hmf : ∀ (fn : Fn) (first cap : Array Value) (w : World), (Instr.makeFunc fn first cap).run Try.prog w = .ok (.func fn first cap) w := fun _ _ _ _ => rfl
  have hst : ∀ (a : Addr) (x : Nat) (w : World), (store a (.float .f64 x)).run Try.prog w = stored Try.prog w a (.float .f64 x) .plain := fun a x w => run_store _ w a _ _ rfl
  have HG := hide hg
  have HW := hide hw
  clear hg hw
  have x1 := (Bx.made w (.slice a0 n0 c0) (.slice (some ⟨G, 0, none⟩) n c)).keep (Kp.alloc _ (Obj.cells #[Value.slice none 0 0, Value.slice none 0 0] 31))
  obtain ⟨p0, p1, -, -, -⟩ := x1.o
  go_enter_defers Try.func68, Try.ntmps68
  go_wp2_with fail
  have x2 := Bx.made (w.alloc (Obj.cells #[.slice a0 n0 c0, .slice (some ⟨G, 0, none⟩) n c] 31)) (.slice none 0 0) (.slice none 0 0)
  have k0 := (Kp.alloc w (Obj.cells #[.slice a0 n0 c0, .slice (some ⟨G, 0, none⟩) n c] 31)).trans (Kp.alloc _ (Obj.cells #[Value.slice none 0 0, Value.slice none 0 0] 31))
  have e1 : (w.alloc (Obj.cells #[.slice a0 n0 c0, .slice (some ⟨G, 0, none⟩) n c] 31)).heap.size = w.heap.size + 1 := by simp
  rw [e1] at x2
  clear e1
  have hGB : ¬ w.heap.size = G := by have := (unhide HG).lt; omega
  have hGR : ¬ w.heap.size + 1 = G := by have := (unhide HG).lt; omega
  have hBS : w.heap.size ≤ w.heap.size := Nat.le_refl _
  have hRS : w.heap.size ≤ w.heap.size + 1 := Nat.le_succ _
  generalize w.heap.size + 1 = R' at x2 hGR hRS ⊢
  generalize hB : w.heap.size = B at x1 p0 p1 hGB ⊢
  clear hB
  generalize ((w.alloc (Obj.cells #[.slice a0 n0 c0, .slice (some ⟨G, 0, none⟩) n c] 31)).alloc (Obj.cells #[Value.slice none 0 0, Value.slice none 0 0] 31)) = W at *
  have X1 := hide x1
  have X2 := hide x2
  have K0 := hide k0
  have GW := hide ((unhide HG).keep k0)
  have hl := (unhide HG).len
  clear x1 x2 k0 p0 p1 hBS HG
  go_loopw [11] (fun i wr => ∃ (k : Nat) (ms : List Nat), k ≤ n ∧ i = .int .i64 k ∧ ms.length = k ∧ Hid (OwnG wr 23 G n c (ms ++ d.drop k)) ∧ Hid (∀ x ∈ ms, W64 x) ∧ Hid (∀ j, j < k → R (d.getD j 0) (ms.getD j 0)) ∧ Hid (Kx G W wr)) (fun i _ => n - (intOf i).toNat)
  case atStart => exact ⟨0, [], Nat.zero_le _, rfl, rfl, by simpa using GW, by simp [Hid], by unfold Hid; omega, Kx.refl _ _⟩
  case round wr =>
    obtain ⟨k, ms, hk, rfl, hm, OG, HM, HR, KR⟩ := hrel
    by_cases hlt : k < n
    · have y1 : Bx wr B (.slice a0 n0 c0) (.slice (some ⟨G, 0, none⟩) n c) := (unhide X1).keepx (unhide KR) hGB
      have hx : (ms ++ d.drop k).getD k 0 = d.getD k 0 := by
        rw [List.getD_eq_getElem?_getD, List.getElem?_append_right (by omega), hm, Nat.sub_self, List.getElem?_drop, Nat.add_zero, ← List.getD_eq_getElem?_getD]
      have hck := (unhide OG).cell hlt
      rw [hx] at hck
      have hz := (unhide OG).frozen k
      have WX : Hid (W64 (d.getD k 0)) := by
        have : d.getD k 0 = d[k] := by simp [show k < d.length by omega]
        unfold Hid
        rw [this]
        exact unhide HW _ (List.getElem_mem _)
      have CC := hide (fun w0 (kp : Kp wr w0) => (hf.out (d.getD k 0) w0 (unhide WX)).mono (R' := fun e w' => ∃ r, e = .returned (.float .f64 r) ∧ Hid (R (d.getD k 0) r ∧ W64 r) ∧ Hid (Kp wr w') ∧ w'.cell? ⟨B, 1, none⟩ = some (.slice (some ⟨G, 0, none⟩) n c) ∧ w'.cell? ⟨G, k, none⟩ = some (.float .f64 (d.getD k 0)) ∧ w'.frozen? ⟨G, k, none⟩ = false) (by
        rintro e w' ⟨r, rfl, hr, k'⟩
        refine ⟨r, rfl, hr, kp.trans k', (y1.keep (kp.trans k')).c1, ?_, ((unhide OG).keep (kp.trans k')).frozen k⟩
        have := ((unhide OG).keep (kp.trans k')).cell hlt
        rw [hx] at this
        exact this))
      have c1 := y1.c1
      clear hx y1
      have HR' : Hid (∀ r, R (d.getD k 0) r → ∀ j, j < k + 1 → R (d.getD j 0) ((ms ++ [r]).getD j 0)) := by
        intro r hr j hj
        by_cases e : j = k
        · subst e
          have : (ms ++ [r]).getD j 0 = r := by
            rw [List.getD_eq_getElem?_getD, List.getElem?_append_right (by omega), hm, Nat.sub_self]; rfl
          rw [this]
          exact hr
        · have : (ms ++ [r]).getD j 0 = ms.getD j 0 := by
            rw [List.getD_eq_getElem?_getD, List.getElem?_append_left (by omega), ← List.getD_eq_getElem?_getD]
          rw [this]
          exact unhide HR j (by omega)
      have HD : Hid (∀ r, (ms ++ d.drop k).set k r = (ms ++ [r]) ++ d.drop (k + 1)) := by
        intro r
        rw [List.set_append_right _ _ (by omega), hm, Nat.sub_self, List.drop_eq_getElem_cons (show k < d.length by omega)]
        simp only [List.set_cons_zero, List.append_assoc, List.singleton_append]
      have HL : Hid (∀ r, (ms ++ [r]).length = k + 1) := by intro r; simp [hm]
      have hkn : (k : Int) < (n : Int) := by omega
      generalize d.getD k 0 = x at *
      go_wp2_with fail
      refine wp_region_noPanic ?_
      go_region_with
        (first | (refine ((unhide CC) _ ?_).mono ?_; (first | (exact unhide (by assumption)) | exact Kp.drew wr); rintro e w2 ⟨r, rfl, RR, K2, e1, e2, e3⟩))
      all_goals (
        refine NoPanic.normal ?_
        have OG' := hide (((unhide OG).keep (unhide K2)).set k r)
        rw [unhide HD r] at OG'
        have KR' := hide (((unhide KR).kp (unhide K2)).set k (.float .f64 r))
        have HM' : Hid (∀ x ∈ ms ++ [r], W64 x) := by
          intro y hy
          rcases List.mem_append.1 hy with h | h
          · exact unhide HM y h
          · rw [List.mem_singleton.1 h]
            exact (unhide RR).2
        have HR2 := hide (unhide HR' r (unhide RR).1)
        clear e1 e2 e3 hck hz c1
        generalize w2.setCell { block := G, off := k } (Value.float FloatKind.f64 r) = w3 at *)
      all_goals (
        go_wp2
        go_roundw
        case rel => exact ⟨k + 1, ms ++ [r], by omega, by go_num, unhide HL r, unhide OG', unhide HM', unhide HR2, unhide KR'⟩
        case measure => simp [intOf]; omega)
    · have hkn : k = n := by omega
      have y1 := ((unhide X1).keepx (unhide KR) hGB).o
      have y2 := (unhide X2).keepx (unhide KR) hGR
      have Y2 := hide y2
      obtain ⟨b0, b1, -, -, -⟩ := y1
      obtain ⟨d0, d1, d2, d3, -⟩ := y2.o
      clear y2
      have z := (unhide Y2).set (.slice a0 n0 c0) (.slice (some ⟨G, 0, none⟩) n c)
      have OF : Hid (OwnG ((wr.setCell ⟨R', 0, none⟩ (.slice a0 n0 c0)).setCell ⟨R', 1, none⟩ (.slice (some ⟨G, 0, none⟩) n c)) 23 G n c ms) := by
        have h := unhide OG
        rw [List.drop_of_length_le (by omega), List.append_nil] at h
        exact (h.setOther hGR 0 _).setOther hGR 1 _
      have KF : Hid (Kx G w ((wr.setCell ⟨R', 0, none⟩ (.slice a0 n0 c0)).setCell ⟨R', 1, none⟩ (.slice (some ⟨G, 0, none⟩) n c))) :=
        (((unhide K0).kx (unhide KR)).setNew hRS 0 _).setNew hRS 1 _
      have HR3 : Hid (∀ j, j < n → R (d.getD j 0) (ms.getD j 0)) := fun j hj => unhide HR j (by omega)
      obtain ⟨z0, z1, -, -, -⟩ := z.o
      clear z
      go_wp2
      generalize ((wr.setCell ⟨R', 0, none⟩ (Value.slice a0 n0 c0)).setCell ⟨R', 1, none⟩ (.slice (some ⟨G, 0, none⟩) n c)) = w3 at *
      refine leaves_cons (f := 74) (args := #[.pointer (some ⟨R', 0, none⟩)]) (by simp) (by simp [go_sem]) ?_
      refine (caught_idle ⟨R', 0, none⟩ _).mono ?_
      rintro e u' w'' ⟨rfl, rfl, rfl⟩
      refine ⟨.agg #[.slice a0 n0 c0, .slice (some ⟨G, 0, none⟩) n c], ?_, ms, rfl, unhide OF, unhide HM, unhide HR3, unhide KF⟩
      simp [results, Try.results68, go_sem, z0, z1]

end Go.Proofs.Ytlfjclnocbohbaa
