
/- SchedRuns: what the rounds of the law hold. -/
import Derived.Test.YtenbmfhhmbfgoaaSchRk
import Derived.Test.YtenbmfhhmbfgoaaOpnD
namespace Go.Proofs.Ytenbmfhhmbfgoaa
open Go.RowKit

set_option maxHeartbeats 400000 in
theorem clone_numsF (v : Value) (xs : List Int) (w : World) (h : Ints w v xs) (hb : xs.length ≤ 1000000) :
    Calls Try.prog 36 #[v] w fun e w' => ∃ u, e = .returned u ∧ Ints w' u xs ∧ Kp w w' ∧ Fresh w u := by
  have q : ∀ (w : World) (a : Option Addr) (n c n' c' : Nat), (binOp .eql 61 (.slice a n c) (.slice none n' c')).run Try.prog w = .ok (.bool a.isNone) w := fun w a n c n' c' => Lib.run_eql_slice_nil w _ _ a n c n' c' Try.underlying61
  have AP := hide (h.keep (Kp.alloc w (.cells #[] 3)))
  have HW := hide h.wf
  obtain ⟨a, cap, rfl, hv⟩ := h.val
  clear hv
  cases a with
  | none =>
    have hz := h.nonil _ _ rfl
    have hx : xs = [] := List.eq_nil_of_length_eq_zero hz.1
    subst hx
    clear h AP hz
    go_enter Try.func36, Try.ntmps36
    go_wp2
    go_ret
    exact ⟨_, rfl, Ints.nil _, Kp.refl _, Fresh.nil _ _ _⟩
  | some ad =>
    clear h
    have INFO := hide infoN
    have OW := hide (Own.lit w 3 [] #[] w.heap.size 0 w.heap.size rfl rfl rfl (Nat.le_refl _) (by decide))
    have RM : Hid (([] : List Int).length + xs.length ≤ 1000000) := by simpa [Hid] using hb
    have BS : Hid (w.heap.size ≤ (w.alloc (.cells #[] 3)).heap.size) := (Kp.alloc _ _).size
    have KA := hide (Kp.alloc w (.cells #[] 3))
    generalize hl : xs.length = n at *
    have HL := hide hl
    clear hl
    go_enter Try.func36, Try.ntmps36
    go_wp2_with (at_builtin; go_must (refine wpList_append_ints _ rfl (.tmp 5) (.tmp 6) 61 rfl w.heap.size 3 (unhide INFO) Try.underlying61 _ _ [] xs rfl rfl (unhide OW) (unhide AP) (by have := unhide RM; have := unhide HL; simp at *; omega) (unhide BS) ?_); intro v2 w2 o2 g2)
    have O2 : Hid (Ints w2 v2 xs) := Own.ints o2 (unhide HW) (by have := unhide HL; simp; omega)
    have F2 : Hid (Fresh w v2) := Own.fresh o2 (Nat.le_refl _)
    have K2 := hide ((unhide KA).of_grown g2 (fun k hk => (unhide OW).block k hk))
    clear o2 g2
    go_wp2
    go_ret
    exact ⟨_, rfl, unhide O2, unhide K2, unhide F2⟩

theorem waitingF_any (s : Nat) (F : Nat → Prop) (ps : List Int) (A : SS) (w : World) (h : Sc w s F ps A) :
    Calls Try.prog 20 #[.pointer (some ⟨s, 0, none⟩)] w fun e w' => ∃ u, e = .returned u ∧ Ints w' u A.wt ∧ Kp w w' ∧ Fresh w u := by
  have l2 := h.lwt
  obtain ⟨pv, tv, av, wv, v⟩ := h.opn
  obtain ⟨-, -, -, c3, -, -, -⟩ := v.sb.cells
  have CC : Hid (Calls Try.prog 36 #[wv] w fun e w' => ∃ u, e = .returned u ∧ Hid (Ints w' u A.wt ∧ Kp w w' ∧ Fresh w u)) := clone_numsF wv A.wt w (v.wo.ints (i64_of h.ok.wtb h.ok.lts) (by omega)) (by omega)
  obtain ⟨b, bcap, rfl, -⟩ := v.wo.shape
  clear h v
  generalize A.wt.length = n at *
  go_enter Try.func20, Try.ntmps20
  go_wp2_with fail
  refine (unhide CC).mono ?_
  clear CC
  rintro e w1 ⟨u, rfl, HX⟩
  go_wp2_with fail
  go_ret
  exact ⟨u, rfl, unhide HX⟩


theorem rl_step {ps : List Int} {A : SS} (ok : SOk ps A) (t : Nat) : (stA A t = 2 → (RL A.wt (t + 1)).length = (RL A.wt t).length + 1 ∧ (RL A.wt t).length < A.wt.length ∧ A.wt.getD (RL A.wt t).length 0 = (t : Int)) ∧ (stA A t ≠ 2 → (RL A.wt (t + 1)).length = (RL A.wt t).length) := by
  have e : RL A.wt (t + 1) = if (t : Int) ∈ A.wt then RL A.wt t ++ [(t : Int)] else RL A.wt t := rfl
  rw [e]
  rcases stA_cases ok t with ⟨h1, h2, h3⟩ | ⟨h1, h2, h3⟩ | ⟨h1, h2, h3⟩
  · rw [if_neg h2]
    exact ⟨fun h => by omega, fun _ => rfl⟩
  · rw [if_pos h2]
    obtain ⟨q1, q2⟩ := RL_at ok.wtr ok.wtb h2
    exact ⟨fun _ => ⟨by simp, q1, q2⟩, fun h => absurd h3 h⟩
  · rw [if_neg h2]
    exact ⟨fun h => by omega, fun _ => rfl⟩

/-- k tasks on either side -/
structure RB (W0 : World) (ps : List Int) (pv : Value) (s T M : Nat) (ds : List (Value × List (Value × List Int × Int))) (k : Nat) (w : World) : Prop where
  at_ : ∃ Bs1 Bs2 A G1 G2, Bs1.length = k ∧ Bs2.length = k ∧ RR W0 ps pv s T Bs1 (ds.take k) ⟨List.replicate k 0, []⟩ A G1 M Bs2 (ds.take k) ⟨List.replicate k 0, []⟩ A G2 w
theorem RB.go {W0 w : World} {ps : List Int} {pv : Value} {s T M : Nat} {ds : List (Value × List (Value × List Int × Int))} {k : Nat} (h : RB W0 ps pv s T M ds k w) (hk : k < ds.length) (hk2 : k < 128) (hl : DeedsAt W0 (ds.getD k dz).1 (ds.getD k dz).2) (hs : capD ds ≤ 100000) :
    Calls Try.prog 12 #[.pointer (some ⟨s, 0, none⟩), taskF w.heap.size] (w.alloc (.cells #[.pointer (some ⟨s, 0, none⟩), (ds.getD k dz).1, .int .i64 0, .pointer (some ⟨T, 0, none⟩)] 38)) fun e w2 => e = .returned (.tuple #[.int .i64 (k : Int), .int .i64 0]) ∧ Hid (Kp W0 w2) ∧ Hid (Calls Try.prog 14 #[.pointer (some ⟨M, 0, none⟩), (ds.getD k dz).1] w2 fun e w3 => e = .returned (.tuple #[.int .i64 (k : Int), .int .i64 0]) ∧ RB W0 ps pv s T M ds (k + 1) w3) := by
  obtain ⟨Bs1, Bs2, A, G1, G2, h1, h2, r⟩ := h.at_
  have ka := Kp.alloc w (.cells #[.pointer (some ⟨s, 0, none⟩), (ds.getD k dz).1, .int .i64 0, .pointer (some ⟨T, 0, none⟩)] 38)
  have et : ds.take k ++ [((ds.getD k dz).1, (ds.getD k dz).2)] = ds.take (k + 1) := by
    rw [List.take_succ_eq_append_getElem hk]
    have : ds.getD k dz = ds[k] := by simp [hk]
    rw [this]
  have er : List.replicate k (0 : Nat) ++ [0] = List.replicate (k + 1) 0 := by rw [List.replicate_succ']
  have htl : (ds.take k).length = k := by rw [List.length_take]; omega
  refine ((r.keep ka).goC h1 hk2 w.heap.size (ds.getD k dz).1 (ds.getD k dz).2 (tb_made w s T _) (fun e => by have := (r.d.lt _ e).1; omega) (fun e => by have := (r.m.m.lt _ e).1; omega) r.d.kp.size hl (by rw [et]; exact Nat.le_trans (capD_take ds (k + 1)) hs)).mono ?_
  rintro e w2 ⟨rfl, G1', r2⟩
  refine ⟨rfl, r2.d.kp, (r2.goM h2 hk2 (ds.getD k dz).1 (ds.getD k dz).2 htl hl).mono ?_⟩
  rintro e w3 ⟨rfl, b, G2', r3⟩
  have r4 := r3 (taskF w.heap.size)
  rw [et, er] at r4
  exact ⟨rfl, _, _, _, _, _, by simp [h1], by simp [h2], r4⟩

/-- between two Runs -/
structure RC (W0 : World) (ps : List Int) (pv : Value) (s T M : Nat) (ds : List (Value × List (Value × List Int × Int))) (c : DC) (A : SS) (w : World) : Prop where
  at_ : ∃ Bs1 Bs2 G1 G2, Bs2.length = ds.length ∧ RR W0 ps pv s T Bs1 ds c A G1 M Bs2 ds c A G2 w
theorem RB.done {W0 w : World} {ps : List Int} {pv : Value} {s T M : Nat} {ds : List (Value × List (Value × List Int × Int))} (h : RB W0 ps pv s T M ds ds.length w) : ∃ A, RC W0 ps pv s T M ds ⟨List.replicate ds.length 0, []⟩ A w := by
  obtain ⟨Bs1, Bs2, A, G1, G2, h1, h2, r⟩ := h.at_
  rw [List.take_length] at r
  exact ⟨A, Bs1, Bs2, G1, G2, h2, r⟩
section
variable {W0 w : World} {ps : List Int} {pv : Value} {s T M : Nat} {ds : List (Value × List (Value × List Int × Int))} {c : DC} {A : SS}
theorem RC.keep {w' : World} (h : RC W0 ps pv s T M ds c A w) (k : Kp w w') : RC W0 ps pv s T M ds c A w' := by
  obtain ⟨Bs1, Bs2, G1, G2, h2, r⟩ := h.at_
  exact ⟨Bs1, Bs2, G1, G2, h2, r.keep k⟩
theorem RC.kp (h : RC W0 ps pv s T M ds c A w) : Kp W0 w := by
  obtain ⟨Bs1, Bs2, G1, G2, h2, r⟩ := h.at_
  exact r.d.kp
theorem RC.run (h : RC W0 ps pv s T M ds c A w) {most : Nat} (hm : most ≤ 65536) :
    Calls Try.prog 15 #[.pointer (some ⟨s, 0, none⟩), .int .i64 (most : Int)] w fun e w' => e = .returned (.tuple #[.int .i64 ((runF ps (stepD ds) most (c, A)).1 : Int), .int .i64 (runF ps (stepD ds) most (c, A)).2.1]) ∧ Hid (Kp W0 w') ∧ Hid (Calls Try.prog 16 #[.pointer (some ⟨M, 0, none⟩), .int .i64 (most : Int)] w' fun e w'' => e = .returned (.tuple #[.int .i64 ((runF ps (stepD ds) most (c, A)).1 : Int), .int .i64 (runF ps (stepD ds) most (c, A)).2.1]) ∧ RC W0 ps pv s T M ds (runF ps (stepD ds) most (c, A)).2.2.1 (runF ps (stepD ds) most (c, A)).2.2.2 w'') := by
  obtain ⟨Bs1, Bs2, G1, G2, h2, r⟩ := h.at_
  have hk := r.d.p.kcap
  refine (r.runC (most := most) (by omega)).mono ?_
  rintro e w' ⟨rfl, G1', r2⟩
  refine ⟨rfl, r2.d.kp, (r2.runM (most := most) (by omega) (by omega)).mono ?_⟩
  rintro e w'' ⟨rfl, G2', r3⟩
  exact ⟨rfl, _, _, _, _, h2, r3⟩
/-- what is read behind a Run -/
theorem RC.reads (h : RC W0 ps pv s T M ds c A w) : SOk ps A ∧ A.ts.length = ds.length ∧ c.told.length ≤ 100000 ∧
    (∃ a cap oa oc, w.cell? ⟨T, 0, none⟩ = some (.slice a c.told.length cap) ∧ w.cell? ⟨M, 3, none⟩ = some (.slice oa c.told.length oc) ∧ (0 < c.told.length → ∃ g g', a = some ⟨g, 0, none⟩ ∧ oa = some ⟨g', 0, none⟩ ∧ ∀ i, i < c.told.length → w.cell? ⟨g, i, none⟩ = some (.int .i64 (c.told.getD i 0)) ∧ w.cell? ⟨g', i, none⟩ = some (.int .i64 (c.told.getD i 0)))) ∧
    (∀ n, Calls Try.prog 17 #[.pointer (some ⟨s, 0, none⟩)] (w.drewN n) fun e w' => e = .returned (.int .i64 ((A.ab.length : Int) + (A.wt.length : Int))) ∧ ∃ m, w' = (w.drewN n).drewN m) ∧
    (∀ n, Calls Try.prog 18 #[.pointer (some ⟨M, 0, none⟩)] (w.drewN n) fun e w' => e = .returned (.int .i64 ((A.ab.length : Int) + (A.wt.length : Int))) ∧ w' = w.drewN n) ∧
    (∀ n, Calls Try.prog 19 #[.pointer (some ⟨s, 0, none⟩)] (w.drewN n) fun e w' => e = .returned (.int .i64 (-1)) ∧ w' = w.drewN n) ∧
    (∀ w2, Kp w w2 → Calls Try.prog 20 #[.pointer (some ⟨s, 0, none⟩)] w2 fun e w' => ∃ u, e = .returned u ∧ Hid (Ints w' u A.wt ∧ Kp w2 w' ∧ Fresh w2 u)) := by
  obtain ⟨Bs1, Bs2, G1, G2, h2, r⟩ := h.at_
  obtain ⟨a, cap, q1, q2⟩ := r.d.told
  obtain ⟨-, -, -, -, oa, oc, q3, q4⟩ := r.m.m.own
  obtain ⟨F, tv, sc, m, hG⟩ := r.d.at_
  have hst := r.d.st
  refine ⟨r.m.m.ok, r.m.m.ln.trans h2, ?_, ⟨a, cap, oa, oc, q1, q3, fun h0 => ?_⟩, fun n => ?_, fun n => mopen_any (r.m.m.keep (Kp.drewN w n)), fun n => ?_, fun w2 k => waitingF_any s F ps A w2 (sc.keep k)⟩
  · rw [r.d.p.tl]; exact r.d.p.kcap
  · obtain ⟨g, rfl, e1⟩ := q2 h0
    obtain ⟨g', rfl, e2⟩ := q4 h0
    exact ⟨g, g', rfl, rfl, fun i hi => ⟨e1 i hi, e2 i hi⟩⟩
  · exact open_q s F ps A (w.drewN n) (sc.keep (Kp.drewN w n))
  · have := now_any s F ps A (w.drewN n) (sc.keep (Kp.drewN w n))
    rw [hst] at this
    exact this
theorem RC.tasks (h : RC W0 ps pv s T M ds c A w) : ∃ a cap, w.cell? ⟨M, 1, none⟩ = some (.slice a ds.length cap) ∧ (0 < ds.length → ∃ g, a = some ⟨g, 0, none⟩ ∧ ∀ i, i < ds.length → ∃ B, w.cell? ⟨g, i, none⟩ = some (.pointer (some ⟨B, 0, none⟩)) ∧ w.cell? ⟨B, 2, none⟩ = some (.int .i64 (stA A i))) := by
  obtain ⟨Bs1, Bs2, G1, G2, h2, r⟩ := h.at_
  have := r.m.m.reads
  rw [h2] at this
  exact this
/-- whoever waits first is woken: what was new stays -/
theorem RC.wake (h : RC W0 ps pv s T M ds c A w) (id : Int) {w' : World} (k : Kp w w') :
    Calls Try.prog 21 #[.pointer (some ⟨s, 0, none⟩), .int .i64 id] w' fun e w2 => ∃ b, e = .returned (.bool b) ∧ Hid (∀ q i v, w.heap.size ≤ q → w'.cell? ⟨q, i, none⟩ = some v → w2.cell? ⟨q, i, none⟩ = some v) ∧ Hid (Calls Try.prog 22 #[.pointer (some ⟨M, 0, none⟩), .int .i64 id] w2 fun e w3 => ∃ b, e = .returned (.bool b) ∧ Hid (RC W0 ps pv s T M ds c (wakeS A id).2 w3)) := by
  obtain ⟨Bs1, Bs2, G1, G2, h2, r⟩ := h.at_
  have hlt := fun q e => (r.d.lt q e).1
  have r' := r.keep k
  refine (wake_do r'.d id).mono ?_
  rintro e w2 ⟨rfl, G1', d', f⟩
  have r2 := r'.onC d' f (fun k e => (r'.d.lt k e).2) r'.ap
  refine ⟨_, rfl, fun q i v hq hc => ?_, (r2.wakeM id).mono ?_⟩
  · have hb := World.block_lt_of_cell? w' ⟨q, i, none⟩ hc
    exact (World.cell?_of_block (w := w') (f.block q hb (fun e => by have := hlt q e; omega))).trans hc
  · rintro e w3 ⟨rfl, r3⟩
    exact ⟨_, rfl, _, _, _, _, h2, r3⟩
end

end Go.Proofs.Ytenbmfhhmbfgoaa
