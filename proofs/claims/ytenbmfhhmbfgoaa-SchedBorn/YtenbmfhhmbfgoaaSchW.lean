
/- SchedBorn, the law's walk. -/
import Derived.Test.YtenbmfhhmbfgoaaSchV
namespace Go.Proofs.Ytenbmfhhmbfgoaa
open Go.RowKit

theorem alloc_at (w : World) (o : Obj) : (w.alloc o).heap[w.heap.size]? = some o := by simp only [World.alloc, Array.getElem?_push_size]
theorem five_allocs (w : World) (o0 o1 o2 o3 o4 : Obj) : ∃ W, W = ((((w.alloc o0).alloc o1).alloc o2).alloc o3).alloc o4 ∧ W.heap[w.heap.size]? = some o0 ∧ W.heap[w.heap.size + 1]? = some o1 ∧ W.heap[w.heap.size + 1 + 1]? = some o2 ∧ W.heap[w.heap.size + 1 + 1 + 1]? = some o3 ∧ W.heap[w.heap.size + 1 + 1 + 1 + 1]? = some o4 ∧ Kp w W ∧ W.heap.size = w.heap.size + 5 := by
  obtain ⟨a, ha⟩ : ∃ a, a = w.alloc o0 := ⟨_, rfl⟩
  obtain ⟨b, hb⟩ : ∃ b, b = a.alloc o1 := ⟨_, rfl⟩
  obtain ⟨c, hc⟩ : ∃ c, c = b.alloc o2 := ⟨_, rfl⟩
  obtain ⟨d, hd⟩ : ∃ d, d = c.alloc o3 := ⟨_, rfl⟩
  have sa : a.heap.size = w.heap.size + 1 := by rw [ha, size_alloc]
  have sb : b.heap.size = w.heap.size + 1 + 1 := by rw [hb, size_alloc, sa]
  have sc : c.heap.size = w.heap.size + 1 + 1 + 1 := by rw [hc, size_alloc, sb]
  have sd : d.heap.size = w.heap.size + 1 + 1 + 1 + 1 := by rw [hd, size_alloc, sc]
  have k0 : Kp w a := by rw [ha]; exact Kp.alloc _ _
  have k1 : Kp a b := by rw [hb]; exact Kp.alloc _ _
  have k2 : Kp b c := by rw [hc]; exact Kp.alloc _ _
  have k3 : Kp c d := by rw [hd]; exact Kp.alloc _ _
  have k4 : Kp d (d.alloc o4) := Kp.alloc _ _
  refine ⟨d.alloc o4, by rw [hd, hc, hb, ha], ?_, ?_, ?_, ?_, ?_, (((k0.trans k1).trans k2).trans k3).trans k4, by rw [size_alloc]; omega⟩
  · exact ((((k1.trans k2).trans k3).trans k4).block _ (by omega)).trans (by rw [ha]; exact alloc_at w o0)
  · rw [← sa]
    exact (((k2.trans k3).trans k4).block _ (by omega)).trans (by rw [hb]; exact alloc_at a o1)
  · rw [← sb]
    exact ((k3.trans k4).block _ (by omega)).trans (by rw [hc]; exact alloc_at b o2)
  · rw [← sc]
    exact (k4.block _ (by omega)).trans (by rw [hd]; exact alloc_at c o3)
  · rw [← sd]
    exact alloc_at d o4

set_option maxRecDepth 20000 in
set_option maxHeartbeats 8000000 in
theorem born_any (a0 : Option Addr) (n0 cap0 : Nat) (z0 : Nat → Int) (a1 : Option Addr) (n1 cap1 : Nat) (z1 : Nat → Int) (w : World) (h0 : InCol .u8 w a0 n0 z0) (h1 : InCol .u8 w a1 n1 z1) :
    Calls Try.prog 7 #[.slice a0 n0 cap0, .slice a1 n1 cap1] w fun e w' => e = .returned (.bool true) ∧ Kp w w' := by
  have HA := hide (fun w1 => awake15_any w1)
  have hl0 := h0.1
  have hl1 := h1.1
  have K0 := hide (Kp.alloc w (.cells #[.slice a0 n0 cap0] 23))
  have BX : Hid (Boxed (w.alloc (.cells #[.slice a0 n0 cap0] 23)) w.heap.size 23 (.slice a0 n0 cap0)) := by
    unfold Hid Boxed
    simp only [World.alloc, Array.getElem?_push_size]
  have HB : Hid (n0 ≤ 30 → BysN w (.slice a0 n0 cap0) ((List.range n0).map z0)) := fun h => bysN_of_col h0 (by omega)
  have HP : Hid (n1 ≤ 100 → ∀ w', Kp w w' → Bys w' (.slice a1 n1 cap1) ((List.range n1).map z1)) := fun h w' k => (bys_of_col h1 (by omega)).keep k
  clear h0 h1
  go_enter Try.func7, Try.ntmps7
  go_wp2_with fail
  have BL := hide (unhide BX).lt
  obtain ⟨Bv, hBv⟩ : ∃ Bv, w.heap.size = Bv := ⟨_, rfl⟩
  have BW : Hid (w.heap.size ≤ Bv) := Nat.le_of_eq hBv
  rw [hBv] at BX BL ⊢
  generalize w.alloc (.cells #[.slice a0 n0 cap0] 23) = wA at *
  clear hBv
  refine (unhide HA wA).mono ?_
  clear HA
  rintro e w1 ⟨rfl, k1⟩
  have B1 := hide (boxed_of (unhide BX) (k1.block Bv (unhide BL)))
  have K1 := hide ((unhide K0).trans k1)
  have cb := (unhide B1).cell
  clear k1 BX K0 BL
  by_cases hb : n0 ≤ 30
  · by_cases hp : n1 ≤ 100
    · have hbI : ¬ 30 < (n0 : Int) := by omega
      have hpI : ¬ 100 < (n1 : Int) := by omega
      have HN := hide (snew_any (.slice a1 n1 cap1) _ w1 (unhide HP hp w1 (unhide K1)))
      have HB2 := hide (unhide HB hb)
      clear HB HP
      go_wp2_with fail
      refine (unhide HN).mono ?_
      clear HN
      rintro e w2 ⟨s, F, rfl, sc, k2, hF⟩
      have SC := hide sc
      have K2 := hide ((unhide K1).trans k2)
      have B2 := hide (boxed_of (unhide B1) (k2.block Bv (unhide B1).lt))
      have HF : Hid (∀ k, F k → w.heap.size ≤ k ∧ k ≠ Bv) := fun k e => ⟨Nat.le_trans (unhide K1).size (hF k e), fun e2 => by have := hF k e; have := (unhide B1).lt; omega⟩
      have hst : ∀ (a : Addr) (fn : Fn) (first caps : Array Value) (w : World), (store a (.func fn first caps)).run Try.prog w = stored Try.prog w a (.func fn first caps) .plain := fun a fn first caps w => run_store _ w a _ _ rfl
      clear sc k2 B1 cb K1 hF
      go_wp2_with fail
      obtain ⟨W, hW, m0, m1, m2, m3, m4, kW, sW⟩ := five_allocs w2 (.cells #[.pointer (some ⟨s, 0, none⟩)] 27) (.cells #[.int .i64 0] 3) (.cells #[.int .i64 0] 3) (.cells #[.int .i64 0] 3) (.cells #[fB (w2.heap.size + 1 + 1 + 1) Bv (w2.heap.size + 1) w2.heap.size (w2.heap.size + 1 + 1 + 1 + 1) (w2.heap.size + 1 + 1)] 42)
      have bl := (unhide B2).lt
      have MB0 : Hid (MB s (w2.heap.size + 1 + 1 + 1) Bv (w2.heap.size + 1) w2.heap.size (w2.heap.size + 1 + 1 + 1 + 1) (w2.heap.size + 1 + 1) (.slice a0 n0 cap0) ⟨0, 0, 0⟩ W) := ⟨m3, boxed_of (unhide B2) (kW.block Bv bl), m1, m0, m4, m2, by omega, by omega, by omega⟩
      have HX : Hid (∀ k, XB (w2.heap.size + 1 + 1 + 1) Bv (w2.heap.size + 1) w2.heap.size (w2.heap.size + 1 + 1 + 1 + 1) (w2.heap.size + 1 + 1) k → w.heap.size ≤ k ∧ k < W.heap.size ∧ ¬ F k) := by
        have := (unhide K2).size
        rintro k (e | e | e | e | e | e)
        · exact ⟨by omega, by omega, fun f => by have := (unhide SC).fb k f; omega⟩
        · exact ⟨by rw [e]; exact unhide BW, by omega, fun f => (unhide HF k f).2 e⟩
        · exact ⟨by omega, by omega, fun f => by have := (unhide SC).fb k f; omega⟩
        · exact ⟨by omega, by omega, fun f => by have := (unhide SC).fb k f; omega⟩
        · exact ⟨by omega, by omega, fun f => by have := (unhide SC).fb k f; omega⟩
        · exact ⟨by omega, by omega, fun f => by have := (unhide SC).fb k f; omega⟩
      have SW := hide ((unhide SC).keep kW)
      have KW := hide ((unhide K2).trans kW)
      unfold fB at hW
      rw [← hW]
      clear hW m0 m1 m2 m3 m4 kW sW bl SC K2 B2 hst
      generalize w2.heap.size = Sv at *
      generalize Sv + 1 + 1 + 1 + 1 = St at *
      generalize Sv + 1 + 1 + 1 = Nx at *
      generalize Sv + 1 + 1 = Dn at *
      generalize Sv + 1 = Md at *
      generalize hps : (List.range n1).map z1 = ps at *
      generalize hbs : (List.range n0).map z0 = bs at *
      have HL : Hid (bs.length = n0) := by rw [← hbs]; unfold Hid; simp
      clear hps hbs
      -- the first one
      have G1 : Hid (Calls Try.prog 12 #[.pointer (some ⟨s, 0, none⟩), .func (.func 28) #[] #[.pointer (some ⟨Nx, 0, none⟩), .pointer (some ⟨Bv, 0, none⟩), .pointer (some ⟨Md, 0, none⟩), .pointer (some ⟨Sv, 0, none⟩), .pointer (some ⟨St, 0, none⟩), .pointer (some ⟨Dn, 0, none⟩)]] W fun e w' => e = .returned (.tuple #[.int .i64 0, .int .i64 0]) ∧ w'.cell? ⟨Md, 0, none⟩ = some (.int .i64 0) ∧ w'.frozen? ⟨Md, 0, none⟩ = false ∧ w'.cell? ⟨Sv, 0, none⟩ = some (.pointer (some ⟨s, 0, none⟩)) ∧ Hid (CO w (XB Nx Bv Md Sv St Dn) (IB s Nx Bv Md Sv St Dn (.slice a0 n0 cap0) bs) s ps ⟨0, 1, 0⟩ (goS newS (fB Nx Bv Md Sv St Dn)) (w'.setCell ⟨Md, 0, none⟩ (.int .i64 1)))) := by
        refine (go_any s F ps newS 28 #[] _ W (unhide SW) (by decide)).mono ?_
        rintro e w' ⟨rfl, F', sc', d⟩
        have mb := (unhide MB0).of (fun k x => d.block k (unhide HX k x).2.1 (unhide HX k x).2.2)
        have kM := grown_cell w' Md 0 (.int .i64 1)
        have XM : XB Nx Bv Md Sv St Dn Md := .inr (.inr (.inl rfl))
        have fx : ∀ k, F' k → w.heap.size ≤ k ∧ ¬ XB Nx Bv Md Sv St Dn k := fun k e => by
          rcases d.new k e with e | e
          · exact ⟨(unhide HF k e).1, fun x => (unhide HX k x).2.2 e⟩
          · exact ⟨Nat.le_trans (unhide KW).size e, fun x => by have := (unhide HX k x).2.1; omega⟩
        have kp' := Wd.kp (unhide KW) d (fun k e => (unhide HF k e).1)
        refine ⟨rfl, mb.md.cell, mb.md.frozen, mb.sv.cell, rfl, F', sc'.wide kM (by intro q e; cases e; exact fun e => (fx Md e).2 XM), kp'.of_grown kM (fun k e => by cases e; exact (unhide HX _ XM).1), fx, ⟨mb.setM 1, rfl, fun i hi => ?_, rfl, rfl, Nat.zero_le _, by show 1 ≤ 1 + 3 * 0; omega⟩, fun k x => Nat.lt_of_lt_of_le (unhide HX k x).2.1 (Nat.le_trans d.size kM.size)⟩
        have hi0 : i = 0 := by
          rcases insL_mem.1 hi with e | e
          · simp [newS] at e; omega
          · simp [newS] at e
        subst hi0
        rfl
      have hXw : Hid (∀ k, XB Nx Bv Md Sv St Dn k → w.heap.size ≤ k) := fun k x => (unhide HX k x).1
      clear MB0 HX SW KW HF BW
      refine (unhide G1).mono ?_
      clear G1
      rintro e w3 ⟨rfl, d0, d1, d2, HC⟩
      have d3 := (unhide HC).i.1.1.sv.cell
      have CR : Hid (Calls Try.prog 15 #[.pointer (some ⟨s, 0, none⟩), .int .i64 10000] (w3.setCell ⟨Md, 0, none⟩ (.int .i64 1)) fun e w' => ∃ c' : BC, e = .returned (.tuple #[.int .i64 ((c'.made : Int) + (n0 : Int)), .int .i64 0]) ∧ Hid (c'.next = n0 ∧ c'.dn = c'.made ∧ ∃ X, X.ab.length = 0 ∧ X.wt = [] ∧ CO w (XB Nx Bv Md Sv St Dn) (IB s Nx Bv Md Sv St Dn (.slice a0 n0 cap0) bs) s ps c' X w')) := by
        have hl := unhide HL
        have hr := run2_co (keepsB w s Nx Bv Md Sv St Dn (.slice a0 n0 cap0) bs) (closesB w ps s Nx Bv Md Sv St Dn (.slice a0 n0 cap0) bs (unhide hXw) (by omega) (unhide HB2)) (unhide HC) (most := 10000) (by decide) (by show 0 + 10000 ≤ 1000000000000; decide)
        obtain ⟨c', X, e, e1, e2, e3, e4, e5⟩ := run_born (fB Nx Bv Md Sv St Dn) ps bs 10000 ⟨0, 1, 0⟩ (goS newS (fB Nx Bv Md Sv St Dn)) (by obtain ⟨F, sc, -⟩ := (unhide HC).at_; exact sc.ok) rfl rfl (Nat.zero_le _) (fun h => by cases h) (by show 4 * (bs.length - 0) + 1 ≤ 10000; omega) (by show 1 + 3 * (bs.length - 0) ≤ 128; omega)
        rw [e] at hr
        refine hr.mono ?_
        rintro e w' ⟨rfl, hc⟩
        refine ⟨c', ?_, by omega, e2, X, e4, e5, hc⟩
        show Ending.returned (.tuple #[.int .i64 (((bs.length - 0 + (c'.made - 0) : Nat)) : Int), .int .i64 0]) = _
        rw [show (((bs.length - 0 + (c'.made - 0) : Nat)) : Int) = (c'.made : Int) + (n0 : Int) by omega]
      clear HC HL HB2
      go_wp2_with fail
      refine (unhide CR).mono ?_
      clear CR d0 d1 d2 d3
      rintro e w4 ⟨c', rfl, HY⟩
      obtain ⟨y1, y2, X, y3, y4, y5⟩ := unhide HY
      have e1 := y5.i.1.1.nx.cell
      have e2 := y5.i.1.1.md.cell
      have e3 := y5.i.1.1.dn.cell
      have e4 := y5.i.1.1.bv.cell
      have e5 := y5.i.1.1.sv.cell
      rw [y1] at e1
      rw [y2] at e3
      have OP := hide (open_co (keepsB w s Nx Bv Md Sv St Dn (.slice a0 n0 cap0) bs) y5)
      rw [y3, y4] at OP
      have hmb : Hid (c'.made ≤ 1 + 3 * c'.next) := y5.i.1.2.2.2.2.2.2
      have hmI : (c'.made : Int) ≤ 91 := by have := unhide hmb; omega
      clear HY y1 y2 y3 y4 y5 hmb
      generalize c'.made = q at *
      go_wp2_with fail
      refine (unhide OP).mono ?_
      clear OP
      rintro e w5 ⟨rfl, h5⟩
      have KK := hide h5.i.2
      clear h5
      go_wp2_with fail
      go_ret
      exact ⟨rfl, unhide KK⟩
    · have hpI : 100 < (n1 : Int) := by omega
      clear HB HP B1
      go_wp2_with fail
      go_ret
      exact ⟨rfl, unhide K1⟩
  · have hbI : 30 < (n0 : Int) := by omega
    clear HB HP B1
    go_wp2_with fail
    go_ret
    exact ⟨rfl, unhide K1⟩

theorem born_law (a0 : Option Addr) (n0 cap0 : Nat) (z0 : Nat → Int) (a1 : Option Addr) (n1 cap1 : Nat) (z1 : Nat → Int) (w : World) (h0 : InCol .u8 w a0 n0 z0) (h1 : InCol .u8 w a1 n1 z1) :
    Calls Try.prog 7 #[.slice a0 n0 cap0, .slice a1 n1 cap1] w fun e w' => e = .returned (.bool true) ∧ Kp w w' := born_any a0 n0 cap0 z0 a1 n1 cap1 z1 w h0 h1

end Go.Proofs.Ytenbmfhhmbfgoaa
