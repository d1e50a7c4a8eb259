
/- The region of Users in which a use is appended to the row of the one that is used, in whatever order. -/
import Derived.Test.YtefohemihiiceaaRchS
namespace Go.Proofs.Ytefohemihiiceaa
open Go.RowKit Go.Shelf

def opA (o : Oper) : List Nat := (o.after.toList.filter (Region.binds .any)).map Edge.on
theorem ready_iff {ops : Array Oper} {listed : Array Bool} {i : Nat} {ds : List Nat} (h : ops[i]?.map opA = some ds) : i ∈ Region.ready .any ops listed ↔ listed.getD i true = false ∧ ∀ j ∈ ds, listed.getD j false = true := by
  rw [mem_ready]
  refine and_congr_right fun _ => ?_
  cases e : ops[i]? with
  | none => rw [e] at h; cases h
  | some o =>
    rw [e] at h
    simp only [Option.map_some, Option.some.injEq] at h
    subst h
    constructor
    · rintro ⟨o', ho, hd⟩ j hj
      cases ho
      obtain ⟨e, he, rfl⟩ := List.mem_map.1 hj
      obtain ⟨he1, he2⟩ := List.mem_filter.1 he
      exact hd e (Array.mem_toList_iff.1 he1) he2
    · intro hd
      exact ⟨o, rfl, fun e he hb => hd _ (List.mem_map.2 ⟨e, List.mem_filter.2 ⟨Array.mem_toList_iff.2 he, hb⟩, rfl⟩)⟩

/-- the row has been appended to -/
def AppU (e : TypeId) (base : Nat) (us : List (Nat × Nat)) (u : Nat × Nat) (rv : Value) (w1 : World) (ap : Value) (w : World) : Prop :=
  ∃ b n c, ap = .slice b n c ∧ OwnU w e base (.slice b n c) (us ++ [u]) ∧ w1.grownBy w rv.ownBlock ∧ ((Value.slice b n c).ownBlock = rv.ownBlock ∨ ∀ q, (Value.slice b n c).ownBlock = some q → w1.heap.size ≤ q)

/-- the world that goes with what has come up -/
structure WU (C y : Nat) (A : Value → World → Prop) (w0 w1 : World) (listed : Array Bool) (ap : Value) (w : World) : Prop where
  p7 : listed.getD 7 false = false → w = w0
  p8 : listed.getD 7 false = true → listed.getD 8 false = false → w = w1
  q8 : listed.getD 8 false = true → listed.getD 5 false = true ∧ listed.getD 7 false = true
  q10 : listed.getD 10 false = true → ∀ k, k < 10 → listed.getD k false = true
  p10 : listed.getD 8 false = true → listed.getD 10 false = false → A ap w
  e10 : listed.getD 10 false = true → ∃ w', A ap w' ∧ w = w'.setCell ⟨C, y, none⟩ ap
theorem getD_tf {listed : Array Bool} {i : Nat} (hs : i < listed.size) (h : listed.getD i true = false) : listed.getD i false = false := by
  rw [Array.getD_eq_getD_getElem?, Array.getElem?_eq_getElem hs] at h ⊢
  exact h
theorem getD_ft {listed : Array Bool} {i : Nat} (hs : i < listed.size) (h : ¬ listed.getD i false = true) : listed.getD i true = false := by
  rw [Array.getD_eq_getD_getElem?, Array.getElem?_eq_getElem hs] at h ⊢
  simpa using h
theorem WU.other {C y : Nat} {A : Value → World → Prop} {w0 w1 : World} {listed : Array Bool} {ap : Value} {w : World} (h : WU C y A w0 w1 listed ap w) (hs : listed.size = 11) (h10 : listed.getD 10 false = false) {i : Nat} (hi : i < 10) (h7 : i ≠ 7) (h8 : i ≠ 8) : WU C y A w0 w1 (listed.setIfInBounds i true) ap w := by
  have e : ∀ k, k ≠ i → (listed.setIfInBounds i true).getD k false = listed.getD k false := fun k hk => by rw [listed_set (by omega), if_neg hk]
  refine ⟨?_, ?_, ?_, ?_, ?_, ?_⟩
  · rw [e 7 (Ne.symm h7)]; exact h.p7
  · rw [e 7 (Ne.symm h7), e 8 (Ne.symm h8)]; exact h.p8
  · rw [e 8 (Ne.symm h8), e 7 (Ne.symm h7)]
    intro h9
    refine ⟨?_, (h.q8 h9).2⟩
    rw [listed_set (by omega)]
    split
    · rfl
    · exact (h.q8 h9).1
  · rw [e 10 (by omega), h10]; intro h; cases h
  · rw [e 8 (Ne.symm h8), e 10 (by omega)]; exact h.p10
  · rw [e 10 (by omega), h10]; intro h; cases h
theorem WU.where_ {C y : Nat} {A : Value → World → Prop} {w0 w1 : World} {listed : Array Bool} {ap : Value} {w : World} (h : WU C y A w0 w1 listed ap w) (h10 : listed.getD 10 false = false) : w = w0 ∨ w = w1 ∨ ∃ ap, A ap w := by
  cases h7 : listed.getD 7 false
  · exact .inl (h.p7 h7)
  · cases h8 : listed.getD 8 false
    · exact .inr (.inl (h.p8 h7 h8))
    · exact .inr (.inr ⟨ap, h.p10 h8 h10⟩)

set_option maxHeartbeats 1000000 in
theorem users_region {F : Fence} {n l C N y Bx m s : Nat} {ops : Array Oper} {Q : Exit → Act → World → Prop} {A : Value → World → Prop} {rv : Value} {w0 w1 : World} {a0 : Act} (hro : F.round = some l) (hfn : ∀ f, F.fn f) (hsz : ops.size = 11)
    (f0 : ops[0]?.map opK = some (none, some 20, Op.load 30 (.tmp 6))) (f1 : ops[1]?.map opK = some (none, some 21, Op.move (.tmp 7)))
    (f2 : ops[2]?.map opK = some (none, some 22, Op.load 30 (.tmp 6))) (f3 : ops[3]?.map opK = some (none, some 23, Op.move (.tmp 7)))
    (f4 : ops[4]?.map opK = some (none, some 24, Op.indexAddr 30 (.tmp 22) (.tmp 23))) (f5 : ops[5]?.map opK = some (none, some 25, Op.load 36 (.tmp 24)))
    (f6 : ops[6]?.map opK = some (none, some 26, Op.load 39 (.tmp 8))) (f7 : ops[7]?.map opK = some (none, some 27, Op.buildSlice 36 1 #[(0, .tmp 26)]))
    (f8 : ops[8]?.map opK = some (none, some 28, Op.call { callee := Callee.builtin Builtin.append, args := #[.tmp 25, .tmp 27], argTypes := #[36, 36] }))
    (f9 : ops[9]?.map opK = some (none, some 29, Op.indexAddr 30 (.tmp 20) (.tmp 21))) (f10 : ops[10]?.map opK = some (none, none, Op.store 36 (.tmp 29) (.tmp 28)))
    (g0 : ops[0]?.map opA = some []) (g1 : ops[1]?.map opA = some []) (g2 : ops[2]?.map opA = some []) (g3 : ops[3]?.map opA = some []) (g4 : ops[4]?.map opA = some [2, 3]) (g5 : ops[5]?.map opA = some [4]) (g6 : ops[6]?.map opA = some []) (g7 : ops[7]?.map opA = some [6]) (g8 : ops[8]?.map opA = some [5, 7])
    (g9 : ops[9]?.map opA = some [0, 1, 0, 1, 2, 3, 4, 5, 6, 7, 8]) (g10 : ops[10]?.map opA = some [9, 8, 8, 0, 1, 2, 3, 4, 5, 6, 7, 8])
    (hy : y < N) (hw1 : w1 = w0.alloc (.cells #[.int .i64 (m : Int), .int .i64 (s : Int)] 39))
    (hc : ∀ w, (w = w0 ∨ w = w1 ∨ ∃ ap, A ap w) → w.cell? ⟨C + 1, 0, none⟩ = some (.slice (some ⟨C, 0, none⟩) N N) ∧ w.cell? ⟨C, y, none⟩ = some rv ∧ w.frozen? ⟨C, y, none⟩ = false ∧ w.cell? ⟨Bx, 0, none⟩ = some (.int .i64 (m : Int)) ∧ w.cell? ⟨Bx, 1, none⟩ = some (.int .i64 (s : Int)))
    (ha : ∀ ty, ∃ ap w', (Builtin.append_ #[36, 36] ty #[rv, .slice (some ⟨w0.heap.size, 0, none⟩) 1 1]).run Try.prog w1 = .ok ap w' ∧ A ap w') (hsl : ∀ ap w, A ap w → ∃ b n c, ap = .slice b n c)
    (t0 : a0.tmps.size = 31) (t6 : a0.eval (.tmp 6) = .pointer (some ⟨C + 1, 0, none⟩)) (t7 : a0.eval (.tmp 7) = .int .i64 (y : Int)) (t8 : a0.eval (.tmp 8) = .pointer (some ⟨Bx, 0, none⟩))
    (hQ : ∀ a ap w', A ap w' → Q .normal a (w'.setCell ⟨C, y, none⟩ ap)) : wpAnyIn F n Try.prog .any ops Q 11 (Array.replicate 11 false) a0 w0 := by
  refine any_inv (fun listed a w => ∃ ap, SlU (vU C N y m s rv (.slice (some ⟨w0.heap.size, 0, none⟩) 1 1) ap) C Bx y listed a ∧ WU C y A w0 w1 listed ap w) ?_ ?_ 11 _ _ _ ?_ (by decide)
  · rintro i listed a w hi ⟨ap, hS, hW⟩ K hK
    have hl0 := (mem_ready.1 hi).1
    have hi11 : i < 11 := by
      obtain ⟨_, o, ho, _⟩ := mem_ready.1 hi
      rw [← hsz]
      exact (Array.getElem?_eq_some_iff.1 ho).1
    have hli := getD_tf (by rw [hS.sz]; exact hi11) hl0
    have h10 : i < 10 → listed.getD 10 false = false := fun h => by
      cases e : listed.getD 10 false
      · rfl
      · rw [hW.q10 e i h] at hli; cases hli
    have hcell := fun h => hc w (hW.where_ (h10 h))
    have hcs : i = 0 ∨ i = 1 ∨ i = 2 ∨ i = 3 ∨ i = 4 ∨ i = 5 ∨ i = 6 ∨ i = 7 ∨ i = 8 ∨ i = 9 ∨ i = 10 := by omega
    rcases hcs with rfl | rfl | rfl | rfl | rfl | rfl | rfl | rfl | rfl | rfl | rfl
    · exact op_runs hro hfn f0 (fun c e => by cases e) fun o _ _ h3 => ⟨_, w, load_boxU h3 hS.t6 (hcell (by omega)).1, hK _ _ ⟨ap, hS.put (i := 0) (by omega), hW.other hS.sz (h10 (by omega)) (by omega) (by omega) (by omega)⟩⟩
    · exact op_runs hro hfn f1 (fun c e => by cases e) fun o _ _ h3 => ⟨_, w, move_U h3 hS.t7, hK _ _ ⟨ap, hS.put (i := 1) (by omega), hW.other hS.sz (h10 (by omega)) (by omega) (by omega) (by omega)⟩⟩
    · exact op_runs hro hfn f2 (fun c e => by cases e) fun o _ _ h3 => ⟨_, w, load_boxU h3 hS.t6 (hcell (by omega)).1, hK _ _ ⟨ap, hS.put (i := 2) (by omega), hW.other hS.sz (h10 (by omega)) (by omega) (by omega) (by omega)⟩⟩
    · exact op_runs hro hfn f3 (fun c e => by cases e) fun o _ _ h3 => ⟨_, w, move_U h3 hS.t7, hK _ _ ⟨ap, hS.put (i := 3) (by omega), hW.other hS.sz (h10 (by omega)) (by omega) (by omega) (by omega)⟩⟩
    · have hd := ((ready_iff g4).1 hi).2
      exact op_runs hro hfn f4 (fun c e => by cases e) fun o _ _ h3 => ⟨_, w, index_U h3 (hS.v 2 (by omega) (hd 2 (by simp))) (hS.v 3 (by omega) (hd 3 (by simp))) hy, hK _ _ ⟨ap, hS.put (i := 4) (by omega), hW.other hS.sz (h10 (by omega)) (by omega) (by omega) (by omega)⟩⟩
    · have hd := ((ready_iff g5).1 hi).2
      exact op_runs hro hfn f5 (fun c e => by cases e) fun o _ _ h3 => ⟨_, w, load_rowU h3 (hS.v 4 (by omega) (hd 4 (by simp))) (hcell (by omega)).2.1, hK _ _ ⟨ap, hS.put (i := 5) (by omega), hW.other hS.sz (h10 (by omega)) (by omega) (by omega) (by omega)⟩⟩
    · exact op_runs hro hfn f6 (fun c e => by cases e) fun o _ _ h3 => ⟨_, w, load_useU h3 hS.t8 (hcell (by omega)).2.2.2.1 (hcell (by omega)).2.2.2.2, hK _ _ ⟨ap, hS.put (i := 6) (by omega), hW.other hS.sz (h10 (by omega)) (by omega) (by omega) (by omega)⟩⟩
    · have hd := ((ready_iff g7).1 hi).2
      have e0 := hW.p7 hli
      have h8 : listed.getD 8 false = false := by
        cases e : listed.getD 8 false
        · rfl
        · rw [(hW.q8 e).2] at hli; cases hli
      subst e0
      refine op_runs hro hfn f7 (fun c e => by cases e) fun o _ _ h3 => ⟨_, _, build_U h3 (hS.v 6 (by omega) (hd 6 (by simp))), hK _ _ ⟨ap, hS.put (i := 7) (by omega), ?_⟩⟩
      have e : ∀ k, k ≠ 7 → (listed.setIfInBounds 7 true).getD k false = listed.getD k false := fun k hk => by rw [listed_set (by rw [hS.sz]; omega), if_neg hk]
      have e7 : (listed.setIfInBounds 7 true).getD 7 false = true := by rw [listed_set (by rw [hS.sz]; omega), if_pos rfl]
      refine ⟨?_, ?_, ?_, ?_, ?_, ?_⟩
      · rw [e7]; intro h; cases h
      · intro _ _; exact hw1.symm
      · rw [e 8 (by omega), h8]; intro h; cases h
      · rw [e 10 (by omega), h10 (by omega)]; intro h; cases h
      · rw [e 8 (by omega), h8]; intro h; cases h
      · rw [e 10 (by omega), h10 (by omega)]; intro h; cases h
    · have hd := ((ready_iff g8).1 hi).2
      have e1 := hW.p8 (hd 7 (by simp)) hli
      subst e1
      refine op_runs hro hfn f8 (fun c e => by cases e) fun o _ _ h3 => ?_
      obtain ⟨ap', w', hrun, hA⟩ := ha o.type
      refine ⟨_, _, append_U h3 (hS.v 5 (by omega) (hd 5 (by simp))) (hS.v 7 (by omega) (hd 7 (by simp))) hrun, hK _ _ ⟨ap', (hS.as hli (val' := vU C N y m s rv (.slice (some ⟨w0.heap.size, 0, none⟩) 1 1) ap') ?_).put (i := 8) (by omega), ?_⟩⟩
      · intro k hk
        match k, hk with
        | 0, _ => rfl
        | 1, _ => rfl
        | 2, _ => rfl
        | 3, _ => rfl
        | 4, _ => rfl
        | 5, _ => rfl
        | 6, _ => rfl
        | 7, _ => rfl
        | 8, hk => exact absurd rfl hk
        | k + 9, _ => rfl
      have e : ∀ k, k ≠ 8 → (listed.setIfInBounds 8 true).getD k false = listed.getD k false := fun k hk => by rw [listed_set (by rw [hS.sz]; omega), if_neg hk]
      have e8 : (listed.setIfInBounds 8 true).getD 8 false = true := by rw [listed_set (by rw [hS.sz]; omega), if_pos rfl]
      refine ⟨?_, ?_, ?_, ?_, ?_, ?_⟩
      · rw [e 7 (by omega), hd 7 (by simp)]; intro h; cases h
      · rw [e8]; intro _ h; cases h
      · intro _; rw [e 5 (by omega), e 7 (by omega)]; exact ⟨hd 5 (by simp), hd 7 (by simp)⟩
      · rw [e 10 (by omega), h10 (by omega)]; intro h; cases h
      · intro _ _; exact hA
      · rw [e 10 (by omega), h10 (by omega)]; intro h; cases h
    · have hd := ((ready_iff g9).1 hi).2
      exact op_runs hro hfn f9 (fun c e => by cases e) fun o _ _ h3 => ⟨_, w, index_U h3 (hS.v 0 (by omega) (hd 0 (by simp))) (hS.v 1 (by omega) (hd 1 (by simp))) hy, hK _ _ ⟨ap, hS.put (i := 9) (by omega), hW.other hS.sz (h10 (by omega)) (by omega) (by omega) (by omega)⟩⟩
    · have hd := ((ready_iff g10).1 hi).2
      have hA := hW.p10 (hd 8 (by simp)) hli
      obtain ⟨b, n', c, hap⟩ := hsl _ _ hA
      subst hap
      have hcl := hc w (.inr (.inr ⟨_, hA⟩))
      refine op_skips hro hfn f10 (fun c e => by cases e) fun o _ _ h3 => ⟨_, store_U h3 (hS.v 9 (by omega) (hd 9 (by simp))) (hS.v 8 (by omega) (hd 8 (by simp))) hcl.2.1 hcl.2.2.1, hK _ _ ⟨_, hS.last _, ?_⟩⟩
      have e : ∀ k, k ≠ 10 → (listed.setIfInBounds 10 true).getD k false = listed.getD k false := fun k hk => by rw [listed_set (by rw [hS.sz]; omega), if_neg hk]
      have e10 : (listed.setIfInBounds 10 true).getD 10 false = true := by rw [listed_set (by rw [hS.sz]; omega), if_pos rfl]
      refine ⟨?_, ?_, ?_, ?_, ?_, ?_⟩
      · rw [e 7 (by omega), hd 7 (by simp)]; intro h; cases h
      · rw [e 8 (by omega), hd 8 (by simp)]; intro _ h; cases h
      · intro _; rw [e 5 (by omega), e 7 (by omega)]; exact ⟨hd 5 (by simp), hd 7 (by simp)⟩
      · intro _ k hk
        rw [e k (by omega)]
        have hk10 : k = 0 ∨ k = 1 ∨ k = 2 ∨ k = 3 ∨ k = 4 ∨ k = 5 ∨ k = 6 ∨ k = 7 ∨ k = 8 ∨ k = 9 := by omega
        rcases hk10 with rfl | rfl | rfl | rfl | rfl | rfl | rfl | rfl | rfl | rfl <;> exact hd _ (by simp)
      · rw [e10]; intro _ h; cases h
      · intro _; exact ⟨w, hA, rfl⟩
  · rintro listed a w hr ⟨ap, hS, hW⟩
    have go : ∀ {i : Nat} {ds : List Nat}, i < 11 → ops[i]?.map opA = some ds → (∀ j ∈ ds, listed.getD j false = true) → listed.getD i false = true := fun {i ds} hi hg hd => by
      apply Classical.byContradiction
      intro hn
      have := (ready_iff (listed := listed) hg).2 ⟨getD_ft (by rw [hS.sz]; exact hi) hn, hd⟩
      rw [hr] at this
      cases this
    have nil : ∀ j ∈ ([] : List Nat), listed.getD j false = true := fun j h => by cases h
    have b0 := go (by omega) g0 nil
    have b1 := go (by omega) g1 nil
    have b2 := go (by omega) g2 nil
    have b3 := go (by omega) g3 nil
    have b6 := go (by omega) g6 nil
    have b4 := go (by omega) g4 (fun j hj => by simp only [List.mem_cons, List.not_mem_nil, or_false] at hj; rcases hj with rfl | rfl <;> assumption)
    have b5 := go (by omega) g5 (fun j hj => by rw [List.mem_singleton.1 hj]; assumption)
    have b7 := go (by omega) g7 (fun j hj => by rw [List.mem_singleton.1 hj]; assumption)
    have b8 := go (by omega) g8 (fun j hj => by simp only [List.mem_cons, List.not_mem_nil, or_false] at hj; rcases hj with rfl | rfl <;> assumption)
    have b9 := go (by omega) g9 (fun j hj => by simp only [List.mem_cons, List.not_mem_nil, or_false] at hj; rcases hj with rfl | rfl | rfl | rfl | rfl | rfl | rfl | rfl | rfl | rfl | rfl <;> assumption)
    have b10 := go (by omega) g10 (fun j hj => by simp only [List.mem_cons, List.not_mem_nil, or_false] at hj; rcases hj with rfl | rfl | rfl | rfl | rfl | rfl | rfl | rfl | rfl | rfl | rfl | rfl <;> assumption)
    obtain ⟨w', hA, rfl⟩ := hW.e10 b10
    exact hQ a ap w' hA
  · have hf : ∀ k, (Array.replicate 11 false).getD k false = false := fun k => by
      rw [Array.getD_eq_getD_getElem?, Array.getElem?_replicate]
      split <;> rfl
    refine ⟨.bool false, ⟨by simp, t0, t6, t7, t8, fun k _ h => by rw [hf k] at h; cases h⟩, fun _ => rfl, ?_, ?_, ?_, ?_, ?_⟩
    · rw [hf]; intro h; cases h
    · rw [hf]; intro h; cases h
    · rw [hf]; intro h; cases h
    · rw [hf]; intro h; cases h
    · rw [hf]; intro h; cases h

end Go.Proofs.Ytefohemihiiceaa
