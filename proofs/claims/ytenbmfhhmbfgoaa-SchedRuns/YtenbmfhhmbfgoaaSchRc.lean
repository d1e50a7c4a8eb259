
/- The document's scheduler: Wake. -/
import Derived.Test.YtenbmfhhmbfgoaaSchRb
namespace Go.Proofs.Ytenbmfhhmbfgoaa
open Go.RowKit

structure MW (W0 w : World) (M : Nat) (pv : Value) (ps : List Int) (Bs : List Nat) (Lv : Nat → Value) (K : Nat) (told : List Int) (an : Nat → Nat) (A : SS) (G : Nat → Prop) : Prop where
  ok : SOk ps A
  ln : A.ts.length = Bs.length
  at_ : ∃ wk tv ov, MM W0 w M pv Bs Lv K told an (stA A) wk tv ov G ∧ ∀ i, i < Bs.length → stA A i ≠ 3 → wk i = flA A i
section
variable {W0 w w' : World} {M : Nat} {pv : Value} {ps : List Int} {Bs : List Nat} {Lv : Nat → Value} {K : Nat} {told : List Int} {an : Nat → Nat} {st : Nat → Int} {wk : Nat → Bool} {tv ov : Value} {A : SS} {G : Nat → Prop}
theorem MM.row (h : MM W0 w M pv Bs Lv K told an st wk tv ov G) : ∃ a cap, tv = .slice a Bs.length cap ∧ (0 < Bs.length → ∃ g, a = some ⟨g, 0, none⟩ ∧ ∀ i, i < Bs.length → w.cell? ⟨g, i, none⟩ = some (pV (Bs.getD i 0))) := by
  obtain ⟨h0, h1 | ⟨g, cap, cur, rfl, hg, hh, hc, hl, hx, ht⟩⟩ := h.pr
  · obtain ⟨rfl, h2⟩ := h1
    exact ⟨none, 0, by rw [h2], fun h => by omega⟩
  · refine ⟨_, cap, rfl, fun _ => ⟨g, rfl, fun i hi => ?_⟩⟩
    have e1 : cur[i]? = some (pV (Bs.getD i 0)) := by
      have h2 := congrArg (fun l => l[i]?) ht
      simp only [Nat.mul_one, List.getElem?_take, hi, if_true, List.getElem?_map, Array.getElem?_toList] at h2
      rw [h2]
      simp [hi]
    simp [World.cell?, hh, e1]
theorem MW.keep (h : MW W0 w M pv ps Bs Lv K told an A G) (k : Kp w w') : MW W0 w' M pv ps Bs Lv K told an A G := by
  obtain ⟨wk, tv, ov, m, f⟩ := h.at_
  exact ⟨h.ok, h.ln, wk, tv, ov, m.keep k, f⟩
theorem MW.wide (h : MW W0 w M pv ps Bs Lv K told an A G) {H H' : Nat → Prop} (d : Wd H H' w w') (n : ∀ k, G k → ¬ H k) : MW W0 w' M pv ps Bs Lv K told an A G := by
  obtain ⟨wk, tv, ov, m, f⟩ := h.at_
  exact ⟨h.ok, h.ln, wk, tv, ov, m.wide d n, f⟩

set_option maxRecDepth 20000 in
set_option maxHeartbeats 4000000 in
theorem mwake_any (W0 : World) (M : Nat) (pv : Value) (ps : List Int) (Bs : List Nat) (Lv : Nat → Value) (K : Nat) (told : List Int) (an : Nat → Nat) (A : SS) (G : Nat → Prop) (id : Int) (w : World) (h : MW W0 w M pv ps Bs Lv K told an A G) :
    Calls Try.prog 22 #[.pointer (some ⟨M, 0, none⟩), .int .i64 id] w fun e w' => e = .returned (.bool (wakeS A id).1) ∧ Hid (MW W0 w' M pv ps Bs Lv K told an (wakeS A id).2 G ∧ Wd G G w w') := by
  have hn := h.ok.lts
  have hln := h.ln
  obtain ⟨wk, tv, ov, m, hf⟩ := h.at_
  obtain ⟨a, cap, rfl, hr⟩ := m.row
  obtain ⟨-, c1, -, -⟩ := m.ms.cells
  have ok := h.ok
  have H := hide h
  clear h
  by_cases hneg : id < 0
  · have e := wake_none ok (.inl hneg)
    rw [e]
    clear m hr hf ok e
    generalize Bs.length = n at *
    go_enter Try.func22, Try.ntmps22
    go_wp2_with fail
    go_ret
    exact ⟨rfl, unhide H, Wd.refl _ _⟩
  · by_cases hbig : id < (Bs.length : Int)
    · obtain ⟨i, rfl⟩ : ∃ i : Nat, id = (i : Int) := ⟨id.toNat, by omega⟩
      have hi : i < Bs.length := by omega
      obtain ⟨g, rfl, hg⟩ := hr (by omega)
      have p1 := hg i hi
      have t := m.tk i hi
      obtain ⟨-, -, t2, t3⟩ := t.cells
      have t3f := t.frozen 3
      have t2f := t.frozen 2
      generalize hB : Bs.getD i 0 = B at *
      unfold pV at p1
      rcases stA_cases ok i with ⟨h1, h2, h3⟩ | ⟨h1, h2, h3⟩ | ⟨h1, h2, h3⟩
      · -- it can run
        obtain ⟨m1, d1⟩ := m.cellT hi hB (by have := t.setWk true; exact this)
        obtain ⟨-, q1, -, -⟩ := m1.ms.cells
        obtain ⟨a1, cap1, e1, hr1⟩ := m1.row
        cases e1
        obtain ⟨g1, e1, hg1⟩ := hr1 (by omega)
        cases e1
        have p2 := hg1 i hi
        rw [hB] at p2
        unfold pV at p2
        have t' := m1.tk i hi
        rw [hB] at t'
        have t2f' := t'.frozen 2
        obtain ⟨-, -, t2', -⟩ := t'.cells
        unfold upd at t2'
        rw [if_pos rfl, h3] at t2'
        obtain ⟨m2, d2⟩ := m1.cellT hi hB (t'.setSt 1)
        have HX : Hid (MW W0 ((w.setCell ⟨B, 3, none⟩ (.bool true)).setCell ⟨B, 2, none⟩ (.int .i64 1)) M pv ps Bs Lv K told an (wakeS A (i : Int)).2 G ∧ Wd G G w ((w.setCell ⟨B, 3, none⟩ (.bool true)).setCell ⟨B, 2, none⟩ (.int .i64 1))) := by
          refine ⟨⟨ok.wakeS _, by rw [(Wk.wake ok _).len]; exact hln, upd wk i true, _, _, m2.congr ?_ ?_ ?_, ?_⟩, d1.trans d2⟩
          · intro j hj
            unfold upd
            by_cases e : j = i
            · subst e; simp
            · simp [e]
          · intro j hj
            rw [stA_wake ok]
            unfold upd
            by_cases e : j = i
            · rw [if_pos ⟨e, by omega⟩, if_pos e]
            · rw [if_neg (fun h => e h.1), if_neg e, if_neg e]
          · intro j hj
            unfold upd
            by_cases e : j = i
            · subst e; simp
            · simp [e]
          · intro j hj hs
            rw [flA_wake ok (by omega)]
            rw [stA_wake ok] at hs
            unfold upd
            by_cases e : j = i
            · rw [if_pos e, if_pos ⟨e, h3⟩]
            · rw [if_neg e, if_neg (fun h => e h.1)]
              rw [if_neg (fun h => e h.1)] at hs
              exact hf j hj hs
        have HR : Hid ((wakeS A (i : Int)).1 = true) := wake_some ok (by omega)
        rw [h3] at t2
        clear m m1 m2 d1 d2 hr hf hr1 hg hg1 t t' H ok h1 h2 h3 hneg
        have hiI : (i : Int) < (Bs.length : Int) := hbig
        generalize Bs.length = n at *
        go_enter Try.func22, Try.ntmps22
        go_wp2_with fail
        go_ret
        exact ⟨by rw [unhide HR]; rfl, unhide HX⟩
      · -- it waits
        obtain ⟨m2, d2⟩ := m.cellT hi hB (t.setSt 1)
        have HX : Hid (MW W0 (w.setCell ⟨B, 2, none⟩ (.int .i64 1)) M pv ps Bs Lv K told an (wakeS A (i : Int)).2 G ∧ Wd G G w (w.setCell ⟨B, 2, none⟩ (.int .i64 1))) := by
          refine ⟨⟨ok.wakeS _, by rw [(Wk.wake ok _).len]; exact hln, wk, _, _, m2.congr ?_ ?_ ?_, ?_⟩, d2⟩
          · intro j hj
            unfold upd
            by_cases e : j = i
            · subst e; simp
            · simp [e]
          · intro j hj
            rw [stA_wake ok]
            unfold upd
            by_cases e : j = i
            · rw [if_pos ⟨e, by omega⟩, if_pos e]
            · rw [if_neg (fun h => e h.1), if_neg e]
          · intro j hj
            unfold upd
            by_cases e : j = i
            · subst e; simp
            · simp [e]
          · intro j hj hs
            rw [flA_wake ok (by omega)]
            rw [stA_wake ok] at hs
            by_cases e : j = i
            · rw [if_neg (fun h => by omega)]
              exact hf j hj (by rw [e, h3]; decide)
            · rw [if_neg (fun h => e h.1)]
              rw [if_neg (fun h => e h.1)] at hs
              exact hf j hj hs
        have HR : Hid ((wakeS A (i : Int)).1 = true) := wake_some ok (by omega)
        rw [h3] at t2
        clear m m2 d2 hr hf hg t H ok h1 h2 h3 hneg
        have hiI : (i : Int) < (Bs.length : Int) := hbig
        generalize Bs.length = n at *
        go_enter Try.func22, Try.ntmps22
        go_wp2_with fail
        go_ret
        exact ⟨by rw [unhide HR]; rfl, unhide HX⟩
      · -- it is done
        have e := wake_none ok (id := (i : Int)) (.inr (.inr (by rw [Int.toNat_natCast]; exact h3)))
        rw [e]
        rw [h3] at t2
        clear m hr hf hg t ok e h1 h2 h3 hneg
        have hiI : (i : Int) < (Bs.length : Int) := hbig
        generalize Bs.length = n at *
        go_enter Try.func22, Try.ntmps22
        go_wp2_with fail
        go_ret
        exact ⟨rfl, unhide H, Wd.refl _ _⟩
    · have e := wake_none ok (id := id) (.inr (.inl (by omega)))
      rw [e]
      have hle : (Bs.length : Int) ≤ id := by omega
      have hn2 : (Bs.length : Int) ≤ 128 := by omega
      clear m hr hf ok e hbig
      generalize Bs.length = n at *
      go_enter Try.func22, Try.ntmps22
      go_wp2_with fail
      go_ret
      exact ⟨rfl, unhide H, Wd.refl _ _⟩
end

end Go.Proofs.Ytenbmfhhmbfgoaa
