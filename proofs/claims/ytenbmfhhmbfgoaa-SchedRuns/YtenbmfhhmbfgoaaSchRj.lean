
/- The document's scheduler: Go. -/
import Derived.Test.YtenbmfhhmbfgoaaSchRi
namespace Go.Proofs.Ytenbmfhhmbfgoaa
open Go.RowKit

theorem infoP : (Try.prog.info? 51).map (fun i => (i.zero, i.size, i.bytes)) = some (some (.pointer none), 1, 8) := by kernel_rfl
/-- one task more behind the tasks' row -/
theorem run_pushP (w : World) (v : Value) (Bs : List Nat) (b B c : Nat) (h : w.ownsRow 0 51 1 v Bs.length (Bs.map pV)) (hr : Bs.length + 1 ≤ 1000000) (h0 : w.cell? ⟨B, 0, none⟩ = some (pV b)) :
    ∃ g cap w', (∀ ty, Sem.run Try.prog (Builtin.append_ #[30, 30] ty #[v, .slice (some ⟨B, 0, none⟩) 1 c]) w = .ok (.slice (some ⟨g, 0, none⟩) (Bs.length + 1) cap) w') ∧ w'.ownsRow 0 51 1 (.slice (some ⟨g, 0, none⟩) (Bs.length + 1) cap) (Bs.length + 1) ((Bs ++ [b]).map pV) ∧ w.grownBy w' v.ownBlock ∧ (v.ownBlock = some g ∨ w.heap.size ≤ g) := by
  obtain ⟨i0, hi, hz0, hz1, hz2⟩ := info_parts infoP
  have hone : ∀ u ∈ [pV b], u.oneCell' = true := by
    intro u hu
    rw [List.mem_singleton] at hu
    rw [hu]
    rfl
  have hnews : ∀ j u, [pV b][j]? = some u → w.cell? ((⟨B, 0, none⟩ : Addr).add j) = some u := by
    intro j u hj
    match j, hj with
    | 0, hj => cases hj; simpa [Addr.add] using h0
    | j + 1, hj => simp at hj
  have el : (Bs ++ [b]).map pV = Bs.map pV ++ [pV b] := by simp
  have fin : ∀ (v' : Value) (w' : World), w'.ownsRow w.heap.size 51 1 v' (Bs.length + 1) (Bs.map pV ++ [pV b]) → ∃ g cap, v' = .slice (some ⟨g, 0, none⟩) (Bs.length + 1) cap ∧ w.heap.size ≤ g ∧ w'.ownsRow 0 51 1 (.slice (some ⟨g, 0, none⟩) (Bs.length + 1) cap) (Bs.length + 1) ((Bs ++ [b]).map pV) := by
    rintro v' w' ⟨h1, ⟨_, h2⟩ | ⟨g, cap, cur, rfl, hb, hh, rest⟩⟩
    · omega
    · refine ⟨g, cap, rfl, hb, ?_⟩
      rw [el]
      exact ⟨h1, .inr ⟨g, cap, cur, rfl, Nat.zero_le _, hh, rest⟩⟩
  have h' := h
  obtain ⟨_, ⟨rfl, hn0⟩ | ⟨g, cap, cur, rfl, _, hh, hcap, _⟩⟩ := h
  · have e0 : Bs = [] := List.eq_nil_of_length_eq_zero hn0
    subst e0
    obtain ⟨v', w', hr, r1, r2, _⟩ := run_append_own (P := Try.prog) w w.heap.size 30 0 51 i0 _ 1 8 Try.underlying30 hi hz0 hz1 hz2 rfl (by decide) (.slice none 0 0) 0 [] (World.ownsRow_nil w _ _ _) ⟨B, 0, none⟩ 1 c [pV b] rfl hnews hone (by simp only [maxLen]; omega) (by omega) (Nat.le_refl _)
    obtain ⟨g, cap, rfl, hb, ho⟩ := fin v' w' r1
    exact ⟨g, cap, w', fun _ => hr, ho, r2, .inr hb⟩
  · by_cases hroom : Bs.length + 1 ≤ cap
    · obtain ⟨w', hr, r1, r2⟩ := run_append_own_spare (P := Try.prog) w 0 30 0 51 i0 1 Try.underlying30 hi hz1 g Bs.length cap (Bs.map pV) h' ⟨B, 0, none⟩ 1 c [pV b] rfl hnews hone hroom
      refine ⟨g, cap, w', fun _ => hr, ?_, r2, .inl rfl⟩
      rw [el]
      exact r1
    · obtain ⟨v', w', hr, r1, r2⟩ := run_append_arg_grows (P := Try.prog) w 30 0 51 i0 _ 1 8 Try.underlying30 hi hz0 hz1 hz2 rfl (by decide) ⟨g, 0, none⟩ Bs.length cap (Bs.map pV) (by simp) (World.ownsRow.cells h' rfl) ⟨B, 0, none⟩ 1 c [pV b] rfl hnews (by omega) (by simp only [maxLen]; omega) (by omega)
      obtain ⟨g', cap', rfl, hb, ho⟩ := fin v' w' r1
      exact ⟨g', cap', w', fun _ => hr, ho, ⟨r2.os, r2.tape, r2.output, r2.size, fun k hk _ => r2.block k hk (by simp)⟩, .inr hb⟩

section
variable {W0 w w' : World} {M : Nat} {pv : Value} {ps : List Int} {Bs : List Nat} {Lv : Nat → Value} {K : Nat} {told : List Int} {an : Nat → Nat} {st : Nat → Int} {wk : Nat → Bool} {tv ov : Value} {A : SS} {G : Nat → Prop}
theorem MM.born (h : MM W0 w M pv Bs Lv K told an st wk tv ov G) {b g cap : Nat} {Lb : Value} (tb : TK w b Lb 0 1 false) (nb : ¬ G b) (hb0 : W0.heap.size ≤ b)
    (ho : w'.ownsRow 0 51 1 (.slice (some ⟨g, 0, none⟩) (Bs.length + 1) cap) (Bs.length + 1) ((Bs ++ [b]).map pV)) (k : w.grownBy w' tv.ownBlock) (hg : tv.ownBlock = some g ∨ w.heap.size ≤ g) (hW : W0.heap.size ≤ w.heap.size) :
    MM W0 (w'.setCell ⟨M, 1, none⟩ (.slice (some ⟨g, 0, none⟩) (Bs.length + 1) cap)) M pv (Bs ++ [b]) (upd Lv Bs.length Lb) K told (upd an Bs.length 0) (upd st Bs.length 1) (upd wk Bs.length false) (.slice (some ⟨g, 0, none⟩) (Bs.length + 1) cap) ov (Fo (Fo G b) g) ∧ Wd (Fo G b) (Fo (Fo G b) g) w (w'.setCell ⟨M, 1, none⟩ (.slice (some ⟨g, 0, none⟩) (Bs.length + 1) cap)) := by
  have neM := own_ne_blk h.ms h.pr (by decide)
  have ms1 := h.ms.of (k.block M h.ms.lt (fun e => neM e.symm))
  have gl := World.ownsRow.lt ho g rfl
  have k2 := grown_cell w' M 1 (.slice (some ⟨g, 0, none⟩) (Bs.length + 1) cap)
  have ow1 := own_wide h.ow k (fun q e => own_apart h.pr h.ow (by decide) e)
  have hlen : (Bs ++ [b]).length = Bs.length + 1 := by simp
  have tgo : ∀ {B n : Nat} {L : Value} {s : Int} {f : Bool}, TK w B L n s f → TK (w'.setCell ⟨M, 1, none⟩ (.slice (some ⟨g, 0, none⟩) (Bs.length + 1) cap)) B L n s f := fun t => by
    have t1 := t.of (k.block _ t.lt (fun e => own_ne_blk t h.pr (by decide) e.symm))
    exact t1.of (k2.block _ t1.lt (by intro e; injection e with e; exact ms1.ne_tk t1 e))
  have nbB : b ∉ Bs := fun e => by
    obtain ⟨i, hi, rfl⟩ := getD_mem' e
    exact nb (h.gB i hi)
  refine ⟨⟨ms1.setT _, ?_, own_cell ow1 _ (own_ne_blk ms1 ow1 (by decide)), fun i hi => ?_, ?_, .inl (.inl h.gM), fun i hi => ?_, fun q e => by cases e; exact .inr rfl, fun q e => .inl (.inl (h.go q e)), ?_, ?_⟩, ?_⟩
  · rw [hlen]
    exact own_cell ho _ (own_ne_blk ms1 ho (by decide))
  · rw [hlen] at hi
    rw [getD_snoc hi]
    unfold upd
    by_cases e : i = Bs.length
    · rw [if_pos e, if_pos e, if_pos e, if_pos e, if_pos e]
      exact tgo tb
    · rw [if_neg e, if_neg e, if_neg e, if_neg e, if_neg e]
      exact tgo (h.tk i (by omega))
  · refine List.nodup_append.2 ⟨h.nd, by simp, ?_⟩
    intro x hx y hy e
    rw [List.mem_singleton.1 hy] at e
    exact nbB (e ▸ hx)
  · rw [hlen] at hi
    rw [getD_snoc hi]
    by_cases e : i = Bs.length
    · rw [if_pos e]; exact .inl (.inr rfl)
    · rw [if_neg e]; exact .inl (.inl (h.gB i (by omega)))
  · rintro q ((e | e) | e)
    · exact Nat.lt_of_lt_of_le (h.lt q e) (Nat.le_trans k.size k2.size)
    · rw [e]; exact Nat.lt_of_lt_of_le tb.lt (Nat.le_trans k.size k2.size)
    · rw [e]; exact Nat.lt_of_lt_of_le gl.2 k2.size
  · rintro q ((e | e) | e)
    · exact h.new q e
    · rw [e]; exact hb0
    · rw [e]
      rcases hg with e | e
      · exact h.new g (h.gt g e)
      · omega
  · exact wd_two k (fun q e => .inl (h.gt q e)) (.inl h.gM) hg
end
theorem tk_made (w : World) (Lv : Value) : TK (w.alloc (.cells #[Lv, .int .i64 0, .int .i64 1, .bool false] 50)) w.heap.size Lv 0 1 false := by
  unfold TK
  simp only [World.alloc, Array.getElem?_push_size]
  rfl
theorem flA_go (A : SS) (f : Value) (j : Nat) (hj : j < A.ts.length + 1) : flA (goS A f) j = if j = A.ts.length then false else flA A j := by
  unfold flA goS
  show ((A.ts ++ [(wrapF f, false)]).getD j tk0).2 = _
  rw [getD_snoc hj]
  split <;> rfl

set_option maxRecDepth 20000 in
set_option maxHeartbeats 8000000 in
theorem mgo_any (W0 : World) (M : Nat) (pv : Value) (ps : List Int) (Bs : List Nat) (ds : List (Value × List (Value × List Int × Int))) (c : DC) (A : SS) (G : Nat → Prop) (Lb : Value) (l : List (Value × List Int × Int)) (w : World) (h : MO W0 M pv ps Bs ds c A G w) (hn : Bs.length < 128) (hds : ds.length = Bs.length) (hl : DeedsAt W0 Lb l) :
    Calls Try.prog 14 #[.pointer (some ⟨M, 0, none⟩), Lb] w fun e w' => e = .returned (.tuple #[.int .i64 (Bs.length : Int), .int .i64 0]) ∧ Hid (∃ b G', (∀ f, MO W0 M pv ps (Bs ++ [b]) (ds ++ [(Lb, l)]) ⟨c.at_ ++ [0], c.told⟩ (goS A f) G' w') ∧ Wd G G' w w') := by
  obtain ⟨wk, tv, ov, m, hf⟩ := h.m.at_
  obtain ⟨a, cap, etv, -⟩ := m.row
  obtain ⟨-, c1, -, -⟩ := m.ms.cells
  obtain ⟨-, la, lc, eL, -⟩ := id hl
  -- the two boxes
  obtain ⟨W, hW⟩ : ∃ W, W = (w.alloc (.cells #[Lb, .int .i64 0, .int .i64 1, .bool false] 50)).alloc (.cells #[pV w.heap.size] 51) := ⟨_, rfl⟩
  have k1 := Kp.alloc w (.cells #[Lb, .int .i64 0, .int .i64 1, .bool false] 50)
  have k2 := Kp.alloc (w.alloc (.cells #[Lb, .int .i64 0, .int .i64 1, .bool false] 50)) (.cells #[pV w.heap.size] 51)
  have kW : Kp w W := by rw [hW]; exact k1.trans k2
  have tb : TK W w.heap.size Lb 0 1 false := by rw [hW]; exact (tk_made w Lb).of (k2.block _ (tk_made w Lb).lt)
  have hlit : W.cell? ⟨w.heap.size + 1, 0, none⟩ = some (pV w.heap.size) := by rw [hW]; exact cell_lit1 _ _ _ _ (by simp)
  have mW := m.keep kW
  obtain ⟨g, cap1, W1, hrun, r1, r2, r3⟩ := run_pushP W tv Bs w.heap.size (w.heap.size + 1) 1 mW.pr (by omega) hlit
  have ms1 := mW.ms.of (r2.block M mW.ms.lt (fun e => own_ne_blk mW.ms mW.pr (by decide) e.symm))
  obtain ⟨-, q1, -, -⟩ := ms1.cells
  have qf := ms1.frozen 1
  obtain ⟨m3, d3⟩ := mW.born tb (fun e => by have := m.lt _ e; omega) h.kp.size r1 r2 r3 (Nat.le_trans h.kp.size kW.size)
  obtain ⟨-, q1', -, -⟩ := m3.ms.cells
  have d0 : Wd G (Fo G w.heap.size) w W := (Wd.of_kp (F := G) kW).mono (fun _ e => e) (fun k e => by
    rcases e with e | e
    · exact .inl e
    · exact .inr (.inr (by omega)))
  have hG : ∀ k, G k → W0.heap.size ≤ k := fun k e => (h.m.lt k e).2
  have lts := h.m.ln
  have HX : Hid (∃ b G', (∀ f, MO W0 M pv ps (Bs ++ [b]) (ds ++ [(Lb, l)]) ⟨c.at_ ++ [0], c.told⟩ (goS A f) G' (W1.setCell ⟨M, 1, none⟩ (.slice (some ⟨g, 0, none⟩) (Bs.length + 1) cap1))) ∧ Wd G G' w (W1.setCell ⟨M, 1, none⟩ (.slice (some ⟨g, 0, none⟩) (Bs.length + 1) cap1))) := by
    refine ⟨w.heap.size, _, fun f => ⟨Wd.kp h.kp (d0.trans d3) hG, ⟨h.m.ok.go f (by omega), ?_, upd wk Bs.length false, .slice (some ⟨g, 0, none⟩) (Bs.length + 1) cap1, ov, ?_, ?_⟩, ?_, h.tl, ?_, ?_, h.pb⟩, d0.trans d3⟩
    · show (A.ts ++ [_]).length = _
      simp [lts]
    · have m4 := m3
      refine ⟨m4.ms, m4.pr, m4.ow, fun i hi => ?_, m4.nd, m4.gM, m4.gB, m4.gt, m4.go, m4.lt, m4.new⟩
      have t := m4.tk i hi
      have hi2 : i < Bs.length + 1 := by simpa using hi
      have e1 : upd (fun i => (ds.getD i dz).1) Bs.length Lb i = ((ds ++ [(Lb, l)]).getD i dz).1 := by
        rw [getD_snoc (by omega), hds]
        unfold upd
        split <;> rfl
      have e2 : upd (fun i => c.at_.getD i 0) Bs.length 0 i = (c.at_ ++ [0]).getD i 0 := by
        rw [getD_snoc (by rw [h.la]; omega), h.la]
        unfold upd
        split <;> rfl
      have e3 : upd (stA A) Bs.length 1 i = stA (goS A f) i := by
        rw [stA_go, lts]
        rfl
      rw [e1, e2, e3] at t
      exact t
    · intro i hi hs
      have hi2 : i < Bs.length + 1 := by simpa using hi
      rw [flA_go A f i (by rw [lts]; exact hi2), lts]
      rw [stA_go, lts] at hs
      unfold upd
      by_cases e : i = Bs.length
      · rw [if_pos e, if_pos e]
      · rw [if_neg e, if_neg e]
        rw [if_neg e] at hs
        exact hf i (by omega) hs
    · intro i
      show (c.at_ ++ [0]).getD i 0 ≤ A.k
      by_cases e : i < c.at_.length + 1
      · rw [getD_snoc e]
        split
        · exact Nat.zero_le _
        · exact h.atk i
      · rw [List.getD_eq_getElem?_getD, List.getElem?_eq_none (by simp; omega)]
        simp
    · show (c.at_ ++ [0]).length = _
      simp [h.la]
    · intro i hi
      have hi2 : i < Bs.length + 1 := by simpa using hi
      rw [getD_snoc (by omega), hds]
      by_cases e : i = Bs.length
      · rw [if_pos e]; exact hl
      · rw [if_neg e]; exact h.dd i (by omega)
  have hne : ¬ (128 : Int) ≤ (Bs.length : Int) := by omega
  rw [hW] at hrun
  clear h m hf mW ms1 m3 d3 d0 hG hlit tb r1 r2 r3 kW k1 k2 hW hds hl lts
  unfold pV at hrun
  rw [etv] at c1 hrun q1
  clear etv
  subst eL
  generalize Bs.length = n at *
  generalize l.length = ll at *
  go_enter Try.func14, Try.ntmps14
  go_wp2_with (at_builtin; refine wpList_append_eq _ rfl _ _ 30 30 rfl _ _ rfl rfl (hrun _) ?_)
  go_ret2
  refine ⟨?_, unhide HX⟩
  first | rfl | (refine ret_two ?_ rfl; go_num)

end Go.Proofs.Ytenbmfhhmbfgoaa
