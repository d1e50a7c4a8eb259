
/- SchedBorn. -/
import Derived.Test.YtenbmfhhmbfgoaaSchU
namespace Go.Proofs.Ytenbmfhhmbfgoaa
open Go.RowKit

theorem afterS_again {B : SS} {i : Nat} : afterS B i 1 = { B with st := false, k := B.k + 1 } := by
  unfold afterS settleS
  rw [if_neg (by decide), if_neg (by decide)]

set_option maxRecDepth 20000 in
set_option maxHeartbeats 4000000 in
theorem closesB (W0 : World) (ps : List Int) (s Nx Bv Md Sv St Dn : Nat) (bv : Value) (bs : List Int) (hX : ∀ k, XB Nx Bv Md Sv St Dn k → W0.heap.size ≤ k) (hbs : bs.length ≤ 30) (hbv : BysN W0 bv bs) :
    Closes2 W0 (XB Nx Bv Md Sv St Dn) (IB s Nx Bv Md Sv St Dn bv bs) s ps (stepB (fB Nx Bv Md Sv St Dn) bs) := by
  intro c A F w hs hst h0 hp i hi hin
  obtain ⟨-, hwt, hfn, hmt, hdn, hnl, hm3⟩ := hp.i
  refine ⟨_, _, _, hfn i hin, Try.call28, fun w1 hs1 hp1 => ?_⟩
  have mb := hp1.i.1
  have XN : XB Nx Bv Md Sv St Dn Nx := .inl rfl
  have XM : XB Nx Bv Md Sv St Dn Md := .inr (.inr (.inl rfl))
  have XD : XB Nx Bv Md Sv St Dn Dn := .inr (.inr (.inr (.inr (.inr rfl))))
  have cN := mb.nx.cell
  have fN := mb.nx.frozen
  have cB := mb.bv.cell
  have hnlI : (c.next : Int) ≤ 30 := by omega
  have bN := hbv.keep hp1.kp
  obtain ⟨hb0, hb1, ba, bc, rfl, hbc⟩ := bN
  have SC := hide hs1
  have HP := hide hp1
  by_cases hlt : c.next < bs.length
  · have e0 : stepB (fB Nx Bv Md Sv St Dn) bs c { A with st := true, now := (i : Int) } i = (1, ⟨c.next + 1, c.made + bn bs c.next, c.dn⟩, goN (fB Nx Bv Md Sv St Dn) (bn bs c.next) { A with st := true, now := (i : Int) }) := by unfold stepB; rw [if_pos hlt]
    rw [e0]
    obtain ⟨bb, bo, rfl, hbb, hbc⟩ := hbc (by omega)
    have x0 := hbc c.next hlt
    have xb : 0 ≤ bs.getD c.next 0 ∧ bs.getD c.next 0 < 256 := hb0 _ (by rw [List.getD_eq_getElem?_getD, List.getElem?_eq_getElem hlt]; exact List.getElem_mem _)
    have hltI : (c.next : Int) < (bs.length : Int) := by omega
    obtain ⟨x, hx⟩ : ∃ x : Nat, bs.getD c.next 0 = (x : Int) := ⟨(bs.getD c.next 0).toNat, by omega⟩
    rw [hx] at x0 xb
    have hxI : x < 256 := by omega
    obtain ⟨n, hn⟩ : ∃ n, bn bs c.next = n := ⟨_, rfl⟩
    have hnx : n = x % 4 := by rw [← hn]; unfold bn; rw [hx]; rfl
    rw [hn]
    have t1 : Int.tmod (x : Int) 4 = (n : Int) := by rw [hnx]; exact (Int.ofNat_tmod x 4).symm ▸ rfl
    have hn3 : n ≤ 3 := by omega
    have S0 : Hid (∃ F', Sc (w1.setCell ⟨Nx, 0, none⟩ (.int .i64 ((c.next : Int) + 1))) s F' ps { A with st := true, now := (i : Int) } ∧ MB s Nx Bv Md Sv St Dn (.slice (some ⟨bb, bo, none⟩) bs.length bc) ⟨c.next + 1, c.made + 0, c.dn⟩ (w1.setCell ⟨Nx, 0, none⟩ (.int .i64 ((c.next : Int) + 1))) ∧ Kp W0 (w1.setCell ⟨Nx, 0, none⟩ (.int .i64 ((c.next : Int) + 1))) ∧ (∀ k, F' k → W0.heap.size ≤ k ∧ ¬ XB Nx Bv Md Sv St Dn k) ∧ ∀ k, XB Nx Bv Md Sv St Dn k → k < (w1.setCell ⟨Nx, 0, none⟩ (.int .i64 ((c.next : Int) + 1))).heap.size) := by
      have MB1 := mb.setN (c.next + 1)
      rw [show ((c.next + 1 : Nat) : Int) = (c.next : Int) + 1 by omega] at MB1
      have kN := grown_cell w1 Nx 0 (.int .i64 ((c.next : Int) + 1))
      exact ⟨F, hs1.wide kN (by intro q e; cases e; exact fun e => (hp1.fx Nx e).2 XN), MB1, hp1.kp.of_grown kN (fun k e => by cases e; exact hX _ XN), hp1.fx, fun k e => Nat.lt_of_lt_of_le (hp1.xl k e) kN.size⟩
    have HG := hide (fun (wr : World) (F' : Nat → Prop) (k : Nat) (hk : k < n) (h1 : Sc wr s F' ps (goN (fB Nx Bv Md Sv St Dn) k { A with st := true, now := (i : Int) })) (h2 : MB s Nx Bv Md Sv St Dn (.slice (some ⟨bb, bo, none⟩) bs.length bc) ⟨c.next + 1, c.made + k, c.dn⟩ wr) (h3 : Kp W0 wr) (h4 : ∀ k, F' k → W0.heap.size ≤ k ∧ ¬ XB Nx Bv Md Sv St Dn k) (h5 : ∀ k, XB Nx Bv Md Sv St Dn k → k < wr.heap.size) =>
      (show Calls Try.prog 12 #[.pointer (some ⟨s, 0, none⟩), fB Nx Bv Md Sv St Dn] wr fun e w' => e = .returned (.tuple #[.int .i64 ((c.made + k : Nat) : Int), .int .i64 0]) ∧ w'.cell? ⟨Md, 0, none⟩ = some (.int .i64 ((c.made + k : Nat) : Int)) ∧ w'.frozen? ⟨Md, 0, none⟩ = false ∧ Hid (∃ F'', Sc (w'.setCell ⟨Md, 0, none⟩ (.int .i64 (((c.made + k : Nat) : Int) + 1))) s F'' ps (goN (fB Nx Bv Md Sv St Dn) (k + 1) { A with st := true, now := (i : Int) }) ∧ MB s Nx Bv Md Sv St Dn (.slice (some ⟨bb, bo, none⟩) bs.length bc) ⟨c.next + 1, c.made + (k + 1), c.dn⟩ (w'.setCell ⟨Md, 0, none⟩ (.int .i64 (((c.made + k : Nat) : Int) + 1))) ∧ Kp W0 (w'.setCell ⟨Md, 0, none⟩ (.int .i64 (((c.made + k : Nat) : Int) + 1))) ∧ (∀ k, F'' k → W0.heap.size ≤ k ∧ ¬ XB Nx Bv Md Sv St Dn k) ∧ ∀ k', XB Nx Bv Md Sv St Dn k' → k' < (w'.setCell ⟨Md, 0, none⟩ (.int .i64 (((c.made + k : Nat) : Int) + 1))).heap.size) from by
        have hl := goN_len (fB Nx Bv Md Sv St Dn) { A with st := true, now := (i : Int) } k
        have hl2 : (goN (fB Nx Bv Md Sv St Dn) k { A with st := true, now := (i : Int) }).ts.length = c.made + k := hl.trans (by show A.ts.length + k = c.made + k; omega)
        refine (go_any s F' ps _ 28 #[] _ wr h1 (by rw [hl2]; omega)).mono ?_
        rintro e w' ⟨rfl, F'', hs', d⟩
        have m2 := h2.of (fun q e => d.block q (h5 q e) (fun f => (h4 q f).2 e))
        have kp2 := Wd.kp h3 d (fun q e => (h4 q e).1)
        have fx2 : ∀ q, F'' q → W0.heap.size ≤ q ∧ ¬ XB Nx Bv Md Sv St Dn q := fun q e => by
          rcases d.new q e with e | e
          · exact h4 q e
          · exact ⟨Nat.le_trans h3.size e, fun x => by have := h5 q x; omega⟩
        have kM := grown_cell w' Md 0 (.int .i64 (((c.made + k : Nat) : Int) + 1))
        have m3 := m2.setM (c.made + (k + 1))
        rw [show ((c.made + (k + 1) : Nat) : Int) = ((c.made + k : Nat) : Int) + 1 by omega] at m3
        refine ⟨by rw [hl2], m2.md.cell, m2.md.frozen, F'', hs'.wide kM (by intro q e; cases e; exact fun e => (fx2 Md e).2 XM), m3, kp2.of_grown kM (fun q e => by cases e; exact hX _ XM), fx2, fun q e => Nat.lt_of_lt_of_le (h5 q e) (Nat.le_trans d.size kM.size)⟩))
    have HE := hide (fun (wr : World) (F' : Nat → Prop) (h1 : Sc wr s F' ps (goN (fB Nx Bv Md Sv St Dn) n { A with st := true, now := (i : Int) })) (h2 : MB s Nx Bv Md Sv St Dn (.slice (some ⟨bb, bo, none⟩) bs.length bc) ⟨c.next + 1, c.made + n, c.dn⟩ wr) (h3 : Kp W0 wr) (h4 : ∀ k, F' k → W0.heap.size ≤ k ∧ ¬ XB Nx Bv Md Sv St Dn k) (h5 : ∀ k, XB Nx Bv Md Sv St Dn k → k < wr.heap.size) =>
      (show ∃ F', Sc wr s F' ps (goN (fB Nx Bv Md Sv St Dn) n { A with st := true, now := (i : Int) }) ∧ (i : Int) ∈ (goN (fB Nx Bv Md Sv St Dn) n { A with st := true, now := (i : Int) }).ab ∧ (goN (fB Nx Bv Md Sv St Dn) n { A with st := true, now := (i : Int) }).k = A.k ∧ PC W0 (XB Nx Bv Md Sv St Dn) (IB s Nx Bv Md Sv St Dn (.slice (some ⟨bb, bo, none⟩) bs.length bc) bs) ⟨c.next + 1, c.made + n, c.dn⟩ (afterS (goN (fB Nx Bv Md Sv St Dn) n { A with st := true, now := (i : Int) }) i 1) F' wr from by
        have hsm := goN_same (fB Nx Bv Md Sv St Dn) { A with st := true, now := (i : Int) } n
        have hl := goN_len (fB Nx Bv Md Sv St Dn) { A with st := true, now := (i : Int) } n
        have hab := goN_ab (fB Nx Bv Md Sv St Dn) { A with st := true, now := (i : Int) } n
        have hfn2 := (goN_fn (fB Nx Bv Md Sv St Dn) { A with st := true, now := (i : Int) } (fun v => v = wrapF (fB Nx Bv Md Sv St Dn)) rfl hfn hs.ok.abb n).1
        have hin2 := goN_in (fB Nx Bv Md Sv St Dn) { A with st := true, now := (i : Int) } hin n
        rw [afterS_again]
        generalize goN (fB Nx Bv Md Sv St Dn) n { A with st := true, now := (i : Int) } = B at *
        have hl' : B.ts.length = A.ts.length + n := hl
        have hab' : B.ab.length = A.ab.length + n := hab
        exact ⟨F', h1, hin2, hsm.2.1, h3, h4, ⟨h2, hsm.1.trans hwt, hfn2, by show c.made + n = B.ts.length; omega, by show c.dn + B.ab.length = c.made + n; omega, by show c.next + 1 ≤ bs.length; omega, by show c.made + n ≤ 1 + 3 * (c.next + 1); omega⟩, h5⟩))
    have hmI : c.made ≤ 91 := by omega
    clear hp hp1 mb hs hs1 SC HP hfn hbc hbv hb0 hi hin e0 hx hnx hn hmt hdn hm3 XN XM XD hst h0 hwt
    generalize bs.length = L at *
    go_enter Try.func28, Try.ntmps28
    go_wp2_with fail
    generalize w1.setCell ⟨Nx, 0, none⟩ (.int .i64 ((c.next : Int) + 1)) = w2 at *
    clear cN fN cB x0
    go_loopw [8, 9, 10] (fun j _ _ wr => ∃ (k : Nat), k ≤ n ∧ j = .int .i64 k ∧ Hid (∃ F', Sc wr s F' ps (goN (fB Nx Bv Md Sv St Dn) k { A with st := true, now := (i : Int) }) ∧ MB s Nx Bv Md Sv St Dn (.slice (some ⟨bb, bo, none⟩) L bc) ⟨c.next + 1, c.made + k, c.dn⟩ wr ∧ Kp W0 wr ∧ (∀ k, F' k → W0.heap.size ≤ k ∧ ¬ XB Nx Bv Md Sv St Dn k) ∧ ∀ k, XB Nx Bv Md Sv St Dn k → k < wr.heap.size)) (fun j _ _ _ => n - (intOf j).toNat)
    case atStart => exact ⟨0, Nat.zero_le _, rfl, S0⟩
    case round =>
      obtain ⟨k, hk, rfl, HR⟩ := hrel
      by_cases hkn : k < n
      · obtain ⟨F', h1, h2, h3, h4, h5⟩ := unhide HR
        have CG := hide (unhide HG wr F' k hkn h1 h2 h3 h4 h5)
        have cM := h2.md.cell
        have cS := h2.sv.cell
        have cT := h2.st.cell
        simp only at cM
        unfold fB at CG cT
        have hq : Hid (c.made + k < 128) := by unfold Hid; omega
        have hknI : (k : Int) < (n : Int) := by omega
        clear h1 h2 h3 h4 h5 HR
        generalize c.made + k = q at *
        have hqI : (q : Int) < 128 := by have := unhide hq; omega
        go_wp2_with fail
        refine (unhide CG).mono ?_
        clear CG cM cS cT
        rintro e w4 ⟨rfl, c4, f4, HX⟩
        go_wp2_with fail
        go_roundw
        case rel => exact ⟨k + 1, by omega, by go_num, HX⟩
        case measure => simp [intOf]; omega
      · have hkn2 : k = n := by omega
        subst hkn2
        obtain ⟨F', h1, h2, h3, h4, h5⟩ := unhide HR
        have HX := hide (unhide HE wr F' h1 h2 h3 h4 h5)
        have cM := h2.md.cell
        clear h1 h2 h3 h4 h5 HR
        go_wp2_with fail
        go_ret
        exact ⟨rfl, unhide HX⟩
  · have e0 : stepB (fB Nx Bv Md Sv St Dn) bs c { A with st := true, now := (i : Int) } i = (3, ⟨c.next, c.made, c.dn + 1⟩, { A with st := true, now := (i : Int) }) := by unfold stepB; rw [if_neg hlt]
    rw [e0]
    have hltI : ¬ (c.next : Int) < (bs.length : Int) := by omega
    have cD := mb.dn.cell
    have fD := mb.dn.frozen
    have hdI : c.dn ≤ 91 := by omega
    have hh := (hasL_iff hs.ok.abr).2 hin
    have hdl := delL_length hh
    have HX : Hid (∃ F', Sc (w1.setCell ⟨Dn, 0, none⟩ (.int .i64 ((c.dn : Int) + 1))) s F' ps { A with st := true, now := (i : Int) } ∧ (i : Int) ∈ A.ab ∧ A.k = A.k ∧ PC W0 (XB Nx Bv Md Sv St Dn) (IB s Nx Bv Md Sv St Dn (.slice ba bs.length bc) bs) ⟨c.next, c.made, c.dn + 1⟩ (afterS { A with st := true, now := (i : Int) } i 3) F' (w1.setCell ⟨Dn, 0, none⟩ (.int .i64 ((c.dn : Int) + 1)))) := by
      have MB1 := mb.setD (c.dn + 1)
      rw [show ((c.dn + 1 : Nat) : Int) = (c.dn : Int) + 1 by omega] at MB1
      have kN := grown_cell w1 Dn 0 (.int .i64 ((c.dn : Int) + 1))
      refine ⟨F, hs1.wide kN (by intro q e; cases e; exact fun e => (hp1.fx Dn e).2 XD), hin, rfl, hp1.kp.of_grown kN (fun k e => by cases e; exact hX _ XD), hp1.fx, ?_, fun k e => Nat.lt_of_lt_of_le (hp1.xl k e) kN.size⟩
      rw [afterS_done']
      refine ⟨MB1, hwt, fun j hj => ?_, ?_, ?_, hnl, hm3⟩
      · obtain ⟨j1, j2⟩ := (delL_mem hs.ok.abr hh).1 hj
        have hne : i ≠ j := by intro e; subst e; exact j2 rfl
        show ((A.ts.set i tk0).getD j tk0).1 = _
        rw [show (A.ts.set i tk0).getD j tk0 = A.ts.getD j tk0 by simp [List.getD, hne]]
        exact hfn j j1
      · show c.made = (A.ts.set i tk0).length
        simp [hmt]
      · show c.dn + 1 + (delL (i : Int) A.ab).length = c.made
        omega
    clear hp hp1 mb hs hs1 SC HP hfn hbc hbv hb0 hi hin e0 hmt hdn hm3 XN XM XD hst h0 hwt hh hdl
    generalize bs.length = L at *
    go_enter Try.func28, Try.ntmps28
    go_wp2_with fail
    go_ret
    obtain ⟨F', q1, q2, -, q4⟩ := unhide HX
    exact ⟨rfl, F', q1, q2, q4⟩

end Go.Proofs.Ytenbmfhhmbfgoaa
