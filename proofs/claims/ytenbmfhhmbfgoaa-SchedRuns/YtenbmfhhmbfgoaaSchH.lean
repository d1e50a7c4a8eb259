
/- A scheduler: New, Go and Waiting. -/
import Derived.Test.YtenbmfhhmbfgoaaSchG
namespace Go.Proofs.Ytenbmfhhmbfgoaa
open Go.RowKit

theorem infoT : (Try.prog.info? 66).map (fun i => (i.zero, i.size, i.bytes)) = some (some (.agg #[.nilFunc, .bool false]), 2, 16) := by kernel_rfl
theorem infoU : (Try.prog.info? 5).map (fun i => (i.zero, i.size, i.bytes)) = some (some (.int .u8 0), 1, 1) := by kernel_rfl

/-- one task more behind the tasks' row: where it lies then -/
theorem run_pushT (w : World) (v : Value) (ms : List (Value × Bool)) (f : Value) (B c : Nat) (h : OwnT w v ms) (hr : ms.length + 1 ≤ 1000000) (hf : f.oneCell' = true)
    (h0 : w.cell? ⟨B, 0, none⟩ = some f) (h1 : w.cell? ⟨B, 1, none⟩ = some (.bool false)) :
    ∃ g cap w', (∀ ty, Sem.run Try.prog (Builtin.append_ #[60, 60] ty #[v, .slice (some ⟨B, 0, none⟩) 1 c]) w = .ok (.slice (some ⟨g, 0, none⟩) (ms.length + 1) cap) w') ∧ OwnT w' (.slice (some ⟨g, 0, none⟩) (ms.length + 1) cap) (ms ++ [(f, false)]) ∧ w.grownBy w' v.ownBlock ∧ (v.ownBlock = some g ∨ w.heap.size ≤ g) := by
  obtain ⟨i0, hi, hz0, hz1, hz2⟩ := info_parts infoT
  have hl : (tkC ms ++ tkC [(f, false)]).length = (ms.length + 1) * 2 := by rw [List.length_append, tkC_length, tkC_length]; simp; omega
  have hone : ∀ u ∈ tkC [(f, false)], u.oneCell' = true := by
    intro u hu
    simp only [tkC, List.mem_cons, List.not_mem_nil, or_false] at hu
    rcases hu with rfl | rfl
    · exact hf
    · rfl
  have hnews : ∀ j u, (tkC [(f, false)])[j]? = some u → w.cell? ((⟨B, 0, none⟩ : Addr).add j) = some u := by
    intro j u hj
    match j, hj with
    | 0, hj => cases hj; simpa [Addr.add] using h0
    | 1, hj => cases hj; simpa [Addr.add] using h1
    | j + 2, hj => simp [tkC] at hj
  have fin : ∀ v' w', w'.ownsRow w.heap.size 66 2 v' (ms.length + 1) (tkC ms ++ tkC [(f, false)]) → ∃ g cap, v' = .slice (some ⟨g, 0, none⟩) (ms.length + 1) cap ∧ w.heap.size ≤ g ∧ OwnT w' (.slice (some ⟨g, 0, none⟩) (ms.length + 1) cap) (ms ++ [(f, false)]) := by
    rintro v' w' ⟨h1, ⟨_, h2⟩ | ⟨g, cap, cur, rfl, hb, hh, rest⟩⟩
    · omega
    · refine ⟨g, cap, rfl, hb, ?_⟩
      unfold OwnT
      rw [tkC_append, List.length_append]
      exact ⟨hl, .inr ⟨g, cap, cur, rfl, Nat.zero_le _, hh, rest⟩⟩
  have h' := h
  obtain ⟨_, ⟨rfl, hn0⟩ | ⟨g, cap, cur, rfl, _, hh, hcap, _⟩⟩ := h
  · have e0 : ms = [] := List.eq_nil_of_length_eq_zero hn0
    subst e0
    obtain ⟨v', w', hr, r1, r2, _⟩ := run_append_own (P := Try.prog) w w.heap.size 60 0 66 i0 _ 2 16 Try.underlying60 hi hz0 hz1 hz2 rfl (by decide) (.slice none 0 0) 0 [] (World.ownsRow_nil w _ _ _) ⟨B, 0, none⟩ 1 c (tkC [(f, false)]) rfl hnews hone (by simp only [maxLen]; omega) (by omega) (Nat.le_refl _)
    obtain ⟨g, cap, rfl, hb, ho⟩ := fin v' w' r1
    exact ⟨g, cap, w', fun _ => hr, ho, r2, .inr hb⟩
  · by_cases hroom : ms.length + 1 ≤ cap
    · obtain ⟨w', hr, r1, r2⟩ := run_append_own_spare (P := Try.prog) w 0 60 0 66 i0 2 Try.underlying60 hi hz1 g ms.length cap (tkC ms) h' ⟨B, 0, none⟩ 1 c (tkC [(f, false)]) rfl hnews hone hroom
      refine ⟨g, cap, w', fun _ => hr, ?_, r2, .inl rfl⟩
      unfold OwnT
      rw [tkC_append, List.length_append]
      exact r1
    · obtain ⟨v', w', hr, r1, r2⟩ := run_append_arg_grows (P := Try.prog) w 60 0 66 i0 _ 2 16 Try.underlying60 hi hz0 hz1 hz2 rfl (by decide) ⟨g, 0, none⟩ ms.length cap (tkC ms) (tkC_length ms) (World.ownsRow.cells h' rfl) ⟨B, 0, none⟩ 1 c (tkC [(f, false)]) rfl hnews (by omega) (by simp only [maxLen]; omega) (by omega)
      obtain ⟨g', cap', rfl, hb, ho⟩ := fin v' w' r1
      exact ⟨g', cap', w', fun _ => hr, ho, ⟨r2.os, r2.tape, r2.output, r2.size, fun k hk _ => r2.block k hk (by simp)⟩, .inr hb⟩

theorem func_nil (fn : Fn) (first caps : Array Value) (w : World) : Sem.run Try.prog (binOp BinOp.eql 42 (Value.func fn first caps) Value.nilFunc) w = .ok (.bool false) w := by kernel_rfl
theorem nil_nil (w : World) : Sem.run Try.prog (binOp BinOp.eql 42 Value.nilFunc Value.nilFunc) w = .ok (.bool true) w := by kernel_rfl

def goS (A : SS) (f : Value) : SS := { A with ts := A.ts ++ [(wrapF f, false)], ab := insL (A.ts.length : Int) A.ab }
theorem SOk.go {ps : List Int} {A : SS} (h : SOk ps A) (f : Value) (hn : A.ts.length < 128) : SOk ps (goS A f) := by
  have hl : (A.ts ++ [(wrapF f, false)]).length = A.ts.length + 1 := by simp
  refine ⟨?_, h.lps, h.psb, insL_rise h.abr (fun e => ?_), fun x hx => ?_, h.wtr, fun x hx => ?_, fun x hx hx2 => ?_⟩
  · show (A.ts ++ [(wrapF f, false)]).length ≤ 128
    omega
  · have := h.abb _ e
    omega
  · show 0 ≤ x ∧ x < ((A.ts ++ [(wrapF f, false)]).length : Int)
    rw [hl]
    rcases insL_mem.1 hx with e | e
    · omega
    · have := h.abb x e
      omega
  · show 0 ≤ x ∧ x < ((A.ts ++ [(wrapF f, false)]).length : Int)
    rw [hl]
    have := h.wtb x hx
    omega
  · rcases insL_mem.1 hx2 with e | e
    · have := h.wtb x hx
      omega
    · exact h.dj x hx e

set_option maxRecDepth 20000 in
set_option maxHeartbeats 4000000 in
theorem go_any (s : Nat) (F : Nat → Prop) (ps : List Int) (A : SS) (g : Nat) (first caps : Array Value) (w : World) (h : Sc w s F ps A) (hn : A.ts.length < 128) :
    Calls Try.prog 12 #[.pointer (some ⟨s, 0, none⟩), .func (.func g) first caps] w fun e w' => e = .returned (.tuple #[.int .i64 (A.ts.length : Int), .int .i64 0]) ∧ ∃ F', Sc w' s F' ps (goS A (.func (.func g) first caps)) ∧ Wd F F' w w' := by
  have l1 := h.lab
  have ok := h.ok
  have i1 := i64_of ok.abb ok.lts
  obtain ⟨pv, tv, av, wv, v⟩ := h.opn
  obtain ⟨-, c1, c2, -, -, -, -⟩ := v.sb.cells
  have hlt := v.sb.lt
  obtain ⟨W, hW⟩ : ∃ W, W = w.alloc (.cells #[wrapF (.func (.func g) first caps), .bool false] 66) := ⟨_, rfl⟩
  have kW : Kp w W := by rw [hW]; exact Kp.alloc _ _
  have hWn : W.heap[w.heap.size]? = some (.cells #[wrapF (.func (.func g) first caps), .bool false] 66 (0, 0)) := by
    rw [hW]; simp only [World.alloc, Array.getElem?_push_size]
  have v1 : Sv W s F ps A pv tv av wv := v.wide (g := none) ⟨kW.os, kW.tape, kW.output, kW.size, fun i hi _ => kW.block i hi⟩ (by intro q e; cases e)
  obtain ⟨g1, cap1, W1, hrun, r1, r2, r3⟩ := run_pushT W tv A.ts (wrapF (.func (.func g) first caps)) w.heap.size 1 v1.tt (by omega) rfl (by simp [World.cell?, hWn]) (by simp [World.cell?, hWn])
  obtain ⟨F1, v2, d2⟩ := v1.put_ts r1 r2 r3
  obtain ⟨-, -, c2', -, -, -, -⟩ := v2.sb.cells
  have hs1 := v1.sb.keep r2 (fun e => own_ne_s v1.sb v1.tt (by decide) e)
  obtain ⟨-, q1, -, -, -, -, -⟩ := hs1.cells
  have qf := hs1.frozen 1
  have CP : Hid (Calls Try.prog 31 #[.pointer (some ⟨s, 2, none⟩), .int .i64 (A.ts.length : Int)] (W1.setCell ⟨s, 1, none⟩ (.slice (some ⟨g1, 0, none⟩) (A.ts.length + 1) cap1)) fun e w' => e = .returned (.tuple #[]) ∧ Hid (∃ F', Sc w' s F' ps (goS A (.func (.func g) first caps)) ∧ Wd F F' w w')) := by
    refine (put_any s 2 av A.ab (A.ts.length : Int) _ v2.ao (by omega) i1 ok.abr c2' (v2.sb.frozen 2) (own_ne_s v2.sb v2.ao (by decide))).mono ?_
    rintro e w' ⟨rfl, hp⟩
    obtain ⟨F2, av2, v3, d3⟩ := v2.put_ab hp
    exact ⟨rfl, F2, v3.sc (ok.go _ hn), ((Wd.of_kp kW).trans d2).trans d3⟩
  have hne : ¬ (A.ts.length : Int) = 128 := by omega
  obtain ⟨ta, tc, etv⟩ : ∃ ta tc, tv = .slice ta A.ts.length tc := by
    obtain ⟨_, ⟨e, h0⟩ | ⟨g', cap, cur, e, _⟩⟩ := v.tt
    · exact ⟨none, 0, by rw [e, h0]⟩
    · exact ⟨_, cap, e⟩
  rw [hW] at hrun
  clear h v v1 v2 r1 r2 r3 d2 ok i1 c2 c2' hs1 hWn kW hW l1
  rw [etv] at c1 hrun q1
  clear etv
  generalize A.ts.length = tl at *
  have fn1 := func_nil
  have fn2 := nil_nil
  go_enter Try.func12, Try.ntmps12
  go_wp2_with (at_builtin; refine wpList_append_eq _ rfl _ _ 60 60 rfl _ _ rfl rfl (hrun _) ?_)
  refine (unhide CP).mono ?_
  clear CP
  rintro e w2 ⟨rfl, HX⟩
  go_wp2_with fail
  go_ret2
  exact ⟨rfl, unhide HX⟩

theorem go_full (s : Nat) (F : Nat → Prop) (ps : List Int) (A : SS) (g : Nat) (first caps : Array Value) (w : World) (h : Sc w s F ps A) (hn : A.ts.length = 128) :
    Calls Try.prog 12 #[.pointer (some ⟨s, 0, none⟩), .func (.func g) first caps] w fun e w' => e = .returned (.tuple #[.int .i64 0, .int .i64 13]) ∧ w' = w := by
  obtain ⟨pv, tv, av, wv, v⟩ := h.opn
  obtain ⟨-, c1, -, -, -, -, -⟩ := v.sb.cells
  obtain ⟨g', cap, rfl⟩ := v.tt.shape (i := 0) (by omega)
  rw [hn] at c1
  clear h v hn
  have fn1 := func_nil
  have fn2 := nil_nil
  go_enter Try.func12, Try.ntmps12
  go_wp2_with fail
  go_ret2
  exact ⟨rfl, rfl⟩
theorem go_nil (s : Nat) (w : World) :
    Calls Try.prog 12 #[.pointer (some ⟨s, 0, none⟩), .nilFunc] w fun e w' => e = .returned (.tuple #[.int .i64 0, .int .i64 1]) ∧ w' = w := by
  have fn1 := func_nil
  have fn2 := nil_nil
  go_enter Try.func12, Try.ntmps12
  go_wp2_with fail
  go_ret2
  exact ⟨rfl, rfl⟩

end Go.Proofs.Ytenbmfhhmbfgoaa
