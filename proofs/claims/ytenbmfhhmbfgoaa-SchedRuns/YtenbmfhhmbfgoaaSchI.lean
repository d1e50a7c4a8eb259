
/- A scheduler: who is next; what its answer does to a task; New and Waiting. -/
import Derived.Test.YtenbmfhhmbfgoaaSchH
namespace Go.Proofs.Ytenbmfhhmbfgoaa
open Go.RowKit

def pickI (ps : List Int) (k n : Nat) : Nat := if ps.length = 0 then 0 else (ps.getD (k % ps.length) 0).toNat % n
/-- who makes the next step -/
def pickS (ps : List Int) (A : SS) : Int := A.ab.getD (pickI ps A.k A.ab.length) 0

theorem Own.cell {w : World} {g n cap : Nat} {xs : List Int} (h : Own w 3 0 (.slice (some ⟨g, 0, none⟩) n cap) xs) (hn : xs.length = n) {i : Nat} (hi : i < n) : w.cell? ⟨g, i, none⟩ = some (.int .i64 (xs.getD i 0)) := by
  unfold Own at h
  subst hn
  rw [h.cellAt i (by omega), List.getElem?_map]
  simp [hi]
theorem OwnU.cell {w : World} {g n cap : Nat} {ps : List Int} (h : OwnU w (.slice (some ⟨g, 0, none⟩) n cap) ps) (hn : ps.length = n) {i : Nat} (hi : i < n) : w.cell? ⟨g, i, none⟩ = some (.int .u8 (ps.getD i 0)) := by
  unfold OwnU at h
  subst hn
  rw [h.cellAt i (by omega), List.getElem?_map]
  simp [hi]
theorem OwnU.shape {w : World} {v : Value} {ps : List Int} (h : OwnU w v ps) : ∃ a cap, v = .slice a ps.length cap ∧ (0 < ps.length → ∃ g, a = some ⟨g, 0, none⟩) := by
  obtain ⟨_, ⟨rfl, h0⟩ | ⟨g, cap, cur, rfl, _⟩⟩ := h
  · exact ⟨none, 0, by rw [h0], by omega⟩
  · exact ⟨_, cap, rfl, fun _ => ⟨g, rfl⟩⟩

set_option maxRecDepth 20000 in
set_option maxHeartbeats 4000000 in
theorem next_any (s : Nat) (F : Nat → Prop) (ps : List Int) (A : SS) (w : World) (h : Sc w s F ps A) (hn : 0 < A.ab.length) :
    Calls Try.prog 33 #[.pointer (some ⟨s, 0, none⟩)] w fun e w' => e = .returned (.int .i64 (pickS ps A)) ∧ Kp w w' := by
  have l1 := h.lab
  have ok := h.ok
  obtain ⟨pv, tv, av, wv, v⟩ := h.opn
  obtain ⟨c0, -, c2, -, c4, -, -⟩ := v.sb.cells
  obtain ⟨a, acap, rfl, ha⟩ := v.ao.shape
  obtain ⟨ga, rfl, -⟩ := ha hn
  by_cases hp : ps.length = 0
  · obtain ⟨b, bcap, rfl, -⟩ := v.pu.shape
    have e : pickS ps A = A.ab.getD 0 0 := by unfold pickS pickI; rw [if_pos hp]
    have d0 := v.ao.cell rfl hn
    rw [e]
    rw [hp] at c0
    clear h v ok e hp
    generalize A.ab.getD 0 0 = x at *
    generalize A.ab.length = n at *
    go_enter Try.func33, Try.ntmps33
    go_wp2_with fail
    go_ret
    exact ⟨rfl, Kp.refl _⟩
  · obtain ⟨b, bcap, rfl, hb⟩ := v.pu.shape
    obtain ⟨gp, rfl⟩ := hb (by omega)
    have hmod : A.k % ps.length < ps.length := Nat.mod_lt _ (by omega)
    have p0 := v.pu.cell rfl hmod
    have pe : ps.getD (A.k % ps.length) 0 = ps[A.k % ps.length] := by simp [hmod]
    have hpb := ok.psb _ (List.getElem_mem hmod)
    rw [← pe] at hpb
    have e : pickS ps A = A.ab.getD ((ps.getD (A.k % ps.length) 0).toNat % A.ab.length) 0 := by unfold pickS pickI; rw [if_neg hp]
    obtain ⟨p, hpq⟩ : ∃ p, p = ps.getD (A.k % ps.length) 0 := ⟨_, rfl⟩
    rw [← hpq] at e p0 hpb
    have hmod2 : p.toNat % A.ab.length < A.ab.length := Nat.mod_lt _ hn
    have d0 := v.ao.cell rfl hmod2
    rw [e]
    have hlp := ok.lps
    clear h v ok e hpq pe hb ha
    generalize A.ab.getD (p.toNat % A.ab.length) 0 = x at *
    generalize A.ab.length = n at *
    generalize ps.length = m at *
    generalize A.k = k at *
    obtain ⟨q, rfl⟩ : ∃ q : Nat, p = (q : Int) := ⟨p.toNat, by omega⟩
    have hq : q < 256 := by omega
    have e1 : ((q : Int)).toNat = q := by omega
    rw [e1] at d0 hmod2
    clear e1 hpb
    have t1 : Int.tmod (k : Int) (m : Int) = ((k % m : Nat) : Int) := by rw [Int.ofNat_tmod]
    have t2 : Int.tmod (q : Int) (n : Int) = ((q % n : Nat) : Int) := by rw [Int.ofNat_tmod]
    generalize k % m = i at *
    generalize q % n = j at *
    have b1 : (i : Int) < (m : Int) := by omega
    have b2 : (j : Int) < (n : Int) := by omega
    have w1 : IntKind.i64.wrap (i : Int) = (i : Int) := by rw [IntKind.wrap_i64]; omega
    have w2 : IntKind.i64.wrap (q : Int) = (q : Int) := by rw [IntKind.wrap_i64]; omega
    have w3 : IntKind.i64.wrap (j : Int) = (j : Int) := by rw [IntKind.wrap_i64]; omega
    have m0 : ¬ m = 0 := hp
    have n0 : ¬ n = 0 := by omega
    go_enter Try.func33, Try.ntmps33
    go_wp2_with fail
    go_quiet (fail)
    go_wp2_with fail
    go_quiet (fail)
    go_wp2_with fail
    go_ret
    exact ⟨rfl, (Kp.drewN _ _).trans (Kp.drewN _ _)⟩

/-- the slice value v reads as these bytes -/
structure Bys (w : World) (v : Value) (ps : List Int) : Prop where
  wf : ∀ x ∈ ps, 0 ≤ x ∧ x < 256
  room : ps.length ≤ 1000000
  val : ∃ a cap, v = .slice a ps.length cap ∧ (0 < ps.length → ∃ b off, a = some ⟨b, off, none⟩ ∧ b < w.heap.size ∧ ∀ i, i < ps.length → w.cell? ⟨b, off + i, none⟩ = some (.int .u8 (ps.getD i 0)))
theorem Bys.keep {w w' : World} {v : Value} {ps : List Int} (h : Bys w v ps) (k : Kp w w') : Bys w' v ps := by
  obtain ⟨h1, h2, a, cap, rfl, h3⟩ := h
  refine ⟨h1, h2, a, cap, rfl, fun hp => ?_⟩
  obtain ⟨b, off, rfl, hb, hc⟩ := h3 hp
  exact ⟨b, off, rfl, by have := k.size; omega, fun i hi => (Below.cell k (p := ⟨b, off + i, none⟩) hb).trans (hc i hi)⟩
theorem Bys.nil (w : World) : Bys w (.slice none 0 0) [] := ⟨by simp, by simp, none, 0, rfl, by simp⟩

theorem wpList_append_bys (w : World) {ops : Array Oper} {rest : List Oper} {o : Oper} {a : Act} {Q : Exit → Act → World → Prop}
    (hgd : o.guard = none) (s x : Operand) (ho : o.op = .call { callee := .builtin .append, args := #[s, x], argTypes := #[23, 23] })
    (base : Nat) (v : Value) (ad : Addr) (n cap : Nat) (ps : List Int) (hs : a.eval s = v) (hx : a.eval x = .slice (some ad) n cap) (hn : ps.length = n) (hv : w.ownsRow base 5 1 v 0 []) (hu : Bys w (.slice (some ad) n cap) ps) (hbase : base ≤ w.heap.size)
    (h : ∀ v' w', w'.ownsRow base 5 1 v' ps.length (ps.map (Value.int .u8)) → w.grownBy w' v.ownBlock → wpList Try.prog ops Q rest (a.put o.dst v') w') : wpList Try.prog ops Q (o :: rest) a w := by
  subst hn
  obtain ⟨i0, hi, hz0, hz1, hz2⟩ := info_parts infoU
  have hr := hu.room
  obtain ⟨a2, c2, e, hc⟩ := hu.val
  cases e
  refine wpList_append_own (P := Try.prog) w hgd s x 23 ho base 5 i0 (.int .u8 0) 1 1 Try.underlying23 hi hz0 hz1 hz2 rfl (by decide) v 0 [] hs hv ad ps.length cap (ps.map (Value.int .u8)) hx (by simp) ?_ (by intro u hu; obtain ⟨x, _, rfl⟩ := List.mem_map.1 hu; rfl) (by unfold maxLen; omega) (by omega) hbase ?_
  · intro j u hj
    have hjl : j < ps.length := by
      have := (List.getElem?_eq_some_iff.1 hj).1
      simpa using this
    obtain ⟨b, off, e1, _, hc'⟩ := hc (by omega)
    cases e1
    have := hc' j hjl
    rw [List.getElem?_map] at hj
    have e2 : ps[j]? = some (ps.getD j 0) := by simp [hjl]
    rw [e2] at hj
    cases hj
    by_cases h0 : j = 0
    · subst h0; simpa [Addr.add] using this
    · simpa [Addr.add, h0] using this
  · intro v' w' h1 h2 _
    refine h v' w' ?_ h2
    simpa using h1

set_option maxHeartbeats 400000 in
theorem clone_bys (v : Value) (ps : List Int) (w : World) (h : Bys w v ps) :
    Calls Try.prog 29 #[v] w fun e w' => ∃ u, e = .returned u ∧ OwnU w' u ps ∧ (∀ k, u.ownBlock = some k → w.heap.size ≤ k) ∧ Kp w w' := by
  have q : ∀ (w : World) (a : Option Addr) (n c n' c' : Nat), (binOp .eql 23 (.slice a n c) (.slice none n' c')).run Try.prog w = .ok (.bool a.isNone) w := fun w a n c n' c' => Lib.run_eql_slice_nil w _ _ a n c n' c' Try.underlying23
  have AP := hide (h.keep (Kp.alloc w (.cells #[] 5)))
  obtain ⟨a, cap, rfl, hv⟩ := h.val
  cases a with
  | none =>
    have hx : ps = [] := by
      by_cases h0 : 0 < ps.length
      · obtain ⟨b, off, e, _⟩ := hv h0
        cases e
      · exact List.eq_nil_of_length_eq_zero (by omega)
    subst hx
    clear h AP hv
    go_enter Try.func29, Try.ntmps29
    go_wp2
    go_ret
    exact ⟨_, rfl, World.ownsRow_nil _ _ _ _, (by intro k e; cases e), Kp.refl _⟩
  | some ad =>
    clear h hv
    have OW := hide (World.ownsRow_lit (base := w.heap.size) (e := 5) (size := 1) w #[] 0 (Nat.le_refl _) (by decide) rfl)
    have BS : Hid (w.heap.size ≤ (w.alloc (.cells #[] 5)).heap.size) := (Kp.alloc _ _).size
    have KA := hide (Kp.alloc w (.cells #[] 5))
    generalize hl : ps.length = n at *
    have HN := hide hl
    clear hl
    go_enter Try.func29, Try.ntmps29
    go_wp2_with (at_builtin; go_must (refine wpList_append_bys _ rfl (.tmp 5) (.tmp 6) rfl w.heap.size _ ad n cap ps rfl rfl (unhide HN) (unhide OW) (unhide AP) (unhide BS) ?_); intro v2 w2 o2 g2)
    have O2 := hide o2
    have K2 := hide ((unhide KA).of_grown g2 (fun k hk => by cases hk; exact Nat.le_refl _))
    clear o2 g2
    go_wp2
    go_ret
    refine ⟨_, rfl, ?_, ?_, unhide K2⟩
    · obtain ⟨h0, h1 | ⟨g, cap, cur, e, hg, r⟩⟩ := unhide O2
      · exact ⟨h0, .inl h1⟩
      · exact ⟨h0, .inr ⟨g, cap, cur, e, Nat.zero_le _, r⟩⟩
    · intro k hk
      exact (World.ownsRow.lt (unhide O2) k hk).1

def newS : SS := ⟨[], [], [], 0, false, 0⟩
theorem SOk.new {ps : List Int} (hp : ∀ x ∈ ps, 0 ≤ x ∧ x < 256) (hl : ps.length ≤ 1000000) : SOk ps newS :=
  ⟨by simp [newS], hl, hp, by simp [newS, Rise], by simp [newS], by simp [newS, Rise], by simp [newS], by simp [newS]⟩

set_option maxHeartbeats 1000000 in
theorem snew_any (v : Value) (ps : List Int) (w : World) (h : Bys w v ps) :
    Calls Try.prog 11 #[v] w fun e w' => ∃ s F, e = .returned (.pointer (some ⟨s, 0, none⟩)) ∧ Sc w' s F ps newS ∧ Kp w w' ∧ ∀ k, F k → w.heap.size ≤ k := by
  have CC := hide (clone_bys v ps w h)
  have OK := hide (SOk.new h.wf h.room)
  obtain ⟨a, cap, rfl, -⟩ := h.val
  clear h
  go_enter Try.func11, Try.ntmps11
  go_wp2_with fail
  refine (unhide CC).mono ?_
  clear CC
  rintro e w1 ⟨u, rfl, h1, h2, h3⟩
  obtain ⟨ua, uc, rfl, -⟩ := h1.shape
  have H1 := hide h1
  have H2 := hide h2
  have H3 := hide h3
  clear h1 h2 h3
  obtain ⟨m, hm⟩ : ∃ m, ps.length = m := ⟨_, rfl⟩
  rw [hm] at H1 H2 ⊢
  clear hm
  go_wp2_with fail
  go_ret
  refine ⟨_, fun k => k = w1.heap.size ∨ (Value.slice ua m uc).ownBlock = some k, rfl, ⟨⟨.slice ua m uc, .slice none 0 0, .slice none 0 0, .slice none 0 0, ?_, ?_, World.ownsRow_nil _ _ _ _, World.ownsRow_nil _ _ _ _, World.ownsRow_nil _ _ _ _, (by intro k e; cases e), .inl rfl, fun k e => .inr e, (by intro k e; cases e), (by intro k e; cases e), (by intro k e; cases e), ?_⟩, unhide OK⟩, (unhide H3).trans (Kp.alloc _ _), ?_⟩
  · unfold SB
    simp only [World.alloc, Array.getElem?_push_size]
    rfl
  · exact own_wide (unhide H1) (grown_alloc w1 _ none) (by intro q e; cases e)
  · have e2 : ∀ o : Obj, (w1.alloc o).heap.size = w1.heap.size + 1 := fun o => by simp
    intro k hk
    rw [e2]
    rcases hk with rfl | e
    · omega
    · have := (World.ownsRow.lt (unhide H1) k e).2
      omega
  · rintro k (rfl | e)
    · exact (unhide H3).size
    · exact unhide H2 k e

set_option maxHeartbeats 400000 in
theorem clone_nums (v : Value) (xs : List Int) (w : World) (h : Ints w v xs) (hb : xs.length ≤ 1000000) :
    Calls Try.prog 36 #[v] w fun e w' => ∃ u, e = .returned u ∧ Ints w' u xs ∧ Kp w w' := by
  have q : ∀ (w : World) (a : Option Addr) (n c n' c' : Nat), (binOp .eql 61 (.slice a n c) (.slice none n' c')).run Try.prog w = .ok (.bool a.isNone) w := fun w a n c n' c' => Lib.run_eql_slice_nil w _ _ a n c n' c' Try.underlying61
  have AP := hide (h.keep (Kp.alloc w (.cells #[] 3)))
  have HW := hide h.wf
  obtain ⟨a, cap, rfl, hv⟩ := h.val
  clear hv
  cases a with
  | none =>
    have hz := h.nonil _ _ rfl
    have hx : xs = [] := List.eq_nil_of_length_eq_zero hz.1
    subst hx
    clear h AP hz
    go_enter Try.func36, Try.ntmps36
    go_wp2
    go_ret
    exact ⟨_, rfl, Ints.nil _, Kp.refl _⟩
  | some ad =>
    clear h
    have INFO := hide infoN
    have OW := hide (Own.lit w 3 [] #[] w.heap.size 0 w.heap.size rfl rfl rfl (Nat.le_refl _) (by decide))
    have RM : Hid (([] : List Int).length + xs.length ≤ 1000000) := by simpa [Hid] using hb
    have BS : Hid (w.heap.size ≤ (w.alloc (.cells #[] 3)).heap.size) := (Kp.alloc _ _).size
    have KA := hide (Kp.alloc w (.cells #[] 3))
    generalize hl : xs.length = n at *
    have HL := hide hl
    clear hl
    go_enter Try.func36, Try.ntmps36
    go_wp2_with (at_builtin; go_must (refine wpList_append_ints _ rfl (.tmp 5) (.tmp 6) 61 rfl w.heap.size 3 (unhide INFO) Try.underlying61 _ _ [] xs rfl rfl (unhide OW) (unhide AP) (by have := unhide RM; have := unhide HL; simp at *; omega) (unhide BS) ?_); intro v2 w2 o2 g2)
    have O2 : Hid (Ints w2 v2 xs) := Own.ints o2 (unhide HW) (by have := unhide HL; simp; omega)
    have K2 := hide ((unhide KA).of_grown g2 (fun k hk => (unhide OW).block k hk))
    clear o2 g2
    go_wp2
    go_ret
    exact ⟨_, rfl, unhide O2, unhide K2⟩

theorem waiting_any (s : Nat) (F : Nat → Prop) (ps : List Int) (A : SS) (w : World) (h : Sc w s F ps A) :
    Calls Try.prog 20 #[.pointer (some ⟨s, 0, none⟩)] w fun e w' => ∃ u, e = .returned u ∧ Ints w' u A.wt ∧ Kp w w' := by
  have l2 := h.lwt
  obtain ⟨pv, tv, av, wv, v⟩ := h.opn
  obtain ⟨-, -, -, c3, -, -, -⟩ := v.sb.cells
  have CC : Hid (Calls Try.prog 36 #[wv] w fun e w' => ∃ u, e = .returned u ∧ Hid (Ints w' u A.wt ∧ Kp w w')) := clone_nums wv A.wt w (v.wo.ints (i64_of h.ok.wtb h.ok.lts) (by omega)) (by omega)
  obtain ⟨b, bcap, rfl, -⟩ := v.wo.shape
  clear h v
  generalize A.wt.length = n at *
  go_enter Try.func20, Try.ntmps20
  go_wp2_with fail
  refine (unhide CC).mono ?_
  clear CC
  rintro e w1 ⟨u, rfl, HX⟩
  go_wp2_with fail
  go_ret
  exact ⟨u, rfl, unhide HX⟩

end Go.Proofs.Ytenbmfhhmbfgoaa
