
/- SchedAll, the law's walk. -/
import Derived.Test.YtenbmfhhmbfgoaaSchY
namespace Go.Proofs.Ytenbmfhhmbfgoaa
open Go.RowKit

theorem mk_row (n : Nat) (hn : n * 8 ≤ 140737488351232) (w : World) :
    (Instr.makeSlice 31 (.int .i64 n) (.int .i64 n)).run Try.prog w = .ok (.slice (some ⟨w.heap.size, 0, none⟩) n n) (w.alloc (.cells (madeCells #[.int .i64 0] n) 3)) := by
  obtain ⟨i0, hi, hz0, hz1, hz2⟩ := info_parts infoN
  have h := run_make (P := Try.prog) w 31 3 i0 (.int .i64 0) Try.underlying31 hi hz0 .i64 .i64 n n (by omega) (by omega) (by rw [hz2]; omega) (by omega)
  rw [hz1] at h
  simpa [Value.cells] using h

theorem alloc_at (w : World) (o : Obj) : (w.alloc o).heap[w.heap.size]? = some o := by simp only [World.alloc, Array.getElem?_push_size]
theorem four_allocs (w : World) (o0 o1 o2 o3 : Obj) : ∃ W, W = (((w.alloc o0).alloc o1).alloc o2).alloc o3 ∧ W.heap[w.heap.size]? = some o0 ∧ W.heap[w.heap.size + 1]? = some o1 ∧ W.heap[w.heap.size + 1 + 1]? = some o2 ∧ W.heap[w.heap.size + 1 + 1 + 1]? = some o3 ∧ Kp w W ∧ W.heap.size = w.heap.size + 4 := by
  obtain ⟨a, ha⟩ : ∃ a, a = w.alloc o0 := ⟨_, rfl⟩
  obtain ⟨b, hb⟩ : ∃ b, b = a.alloc o1 := ⟨_, rfl⟩
  obtain ⟨c, hc⟩ : ∃ c, c = b.alloc o2 := ⟨_, rfl⟩
  have sa : a.heap.size = w.heap.size + 1 := by rw [ha, size_alloc]
  have sb : b.heap.size = w.heap.size + 1 + 1 := by rw [hb, size_alloc, sa]
  have sc : c.heap.size = w.heap.size + 1 + 1 + 1 := by rw [hc, size_alloc, sb]
  have k0 : Kp w a := by rw [ha]; exact Kp.alloc _ _
  have k1 : Kp a b := by rw [hb]; exact Kp.alloc _ _
  have k2 : Kp b c := by rw [hc]; exact Kp.alloc _ _
  have k3 : Kp c (c.alloc o3) := Kp.alloc _ _
  refine ⟨c.alloc o3, by rw [hc, hb, ha], ?_, ?_, ?_, ?_, ((k0.trans k1).trans k2).trans k3, by rw [size_alloc]; omega⟩
  · exact (((k1.trans k2).trans k3).block _ (by omega)).trans (by rw [ha]; exact alloc_at w o0)
  · rw [← sa]
    exact ((k2.trans k3).block _ (by omega)).trans (by rw [hb]; exact alloc_at a o1)
  · rw [← sb]
    exact (k3.block _ (by omega)).trans (by rw [hc]; exact alloc_at b o2)
  · rw [← sc]
    exact alloc_at c o3

/-- the tasks made so far -/
structure AL (W0 : World) (s Lf Lr Pk At Ok n : Nat) (pv : Value) (ps : List Int) (k : Nat) (ls : List Nat) (w : World) : Prop where
  at_ : ∃ F A Is, Sc w s F ps A ∧ MA Lf Lr Pk At Ok n pv Is ⟨ls, 0⟩ w ∧ (∀ q, F q → W0.heap.size ≤ q ∧ ¬ XA Lf Lr Pk At Ok Is q) ∧ (∀ q, XA Lf Lr Pk At Ok Is q → q < w.heap.size ∧ W0.heap.size ≤ q) ∧ A.wt = [] ∧ A.k = 0 ∧ A.st = false ∧ A.ts.length = k ∧ Is.length = k ∧ (∀ i : Nat, (i : Int) ∈ A.ab → (A.ts.getD i tk0).1 = wrapF (fA Lf Pk At Ok (Is.getD i 0))) ∧ (∀ i : Nat, (i : Int) ∈ A.ab ↔ i < n ∧ 0 < ls.getD i 0)
  kp : Kp W0 w
  sm : ls.sum ≤ 9 * k
  ze : ∀ j, k ≤ j → ls.getD j 0 = 0

theorem sum_put : ∀ (l : List Nat) (i x : Nat), i < l.length → l.getD i 0 = 0 → (l.set i x).sum = l.sum + x
  | [], i, x, h, _ => absurd h (by simp)
  | y :: r, 0, x, _, h => by simp at h ⊢; omega
  | y :: r, i + 1, x, h, h0 => by
    have := sum_put r i x (by simpa using h) (by simpa using h0)
    simp only [List.set_cons_succ, List.sum_cons, this]
    omega

theorem AL.keep {W0 : World} {s Lf Lr Pk At Ok n : Nat} {pv : Value} {ps : List Int} {k : Nat} {ls : List Nat} {w w' : World} (h : AL W0 s Lf Lr Pk At Ok n pv ps k ls w) (d : Kp w w') : AL W0 s Lf Lr Pk At Ok n pv ps k ls w' := by
  obtain ⟨F, A, Is, sc, ma, fx, xl, r⟩ := h.at_
  exact ⟨⟨F, A, Is, sc.keep d, ma.of (fun q e => d.block q (xl q e).1), fx, fun q e => ⟨Nat.lt_of_lt_of_le (xl q e).1 d.size, (xl q e).2⟩, r⟩, h.kp.trans d, h.sm, h.ze⟩

set_option maxHeartbeats 1000000 in
theorem AL.step {W0 : World} {s Lf Lr Pk At Ok n : Nat} {pv : Value} {ps : List Int} {k : Nat} {ls : List Nat} {w : World} (h : AL W0 s Lf Lr Pk At Ok n pv ps k ls w) (hk : k < n) (hn : n ≤ 60) (x : Nat) (hx0 : 0 < x) (hx9 : x ≤ 9) (wx : World) (hkx : Kp (w.setCell ⟨Lr, k, none⟩ (.int .i64 (x : Int))) wx) (hsx : wx.heap.size = w.heap.size) :
    Calls Try.prog 12 #[.pointer (some ⟨s, 0, none⟩), .func (.func 25) #[] #[.pointer (some ⟨Lf, 0, none⟩), .pointer (some ⟨Pk, 0, none⟩), .pointer (some ⟨At, 0, none⟩), .pointer (some ⟨Ok, 0, none⟩), .pointer (some ⟨w.heap.size, 0, none⟩)]] (wx.alloc (.cells #[.int .i64 (k : Int)] 3)) fun e w' => e = .returned (.tuple #[.int .i64 (k : Int), .int .i64 0]) ∧ AL W0 s Lf Lr Pk At Ok n pv ps (k + 1) (ls.set k x) w' := by
  obtain ⟨F, A, Is, sc, ma, fx, xl, hw, hk0, hst, hts, his, hfn, hab⟩ := h.at_
  have XLr : XA Lf Lr Pk At Ok Is Lr := .inr (.inl rfl)
  have k1 := grown_cell w Lr k (.int .i64 (x : Int))
  have s1 := sc.wide k1 (by intro q e; cases e; exact fun e => (fx Lr e).2 XLr)
  have m1 := ma.setL k x
  have ll := ma.ll
  have kp1 := h.kp.of_grown k1 (fun q e => by cases e; exact (xl Lr XLr).2)
  have sz0 : (w.setCell ⟨Lr, k, none⟩ (.int .i64 (x : Int))).heap.size = w.heap.size := by simp
  generalize w.setCell ⟨Lr, k, none⟩ (.int .i64 (x : Int)) = w0 at *
  have s1 := s1.keep hkx
  have m1 := m1.of (fun q e => hkx.block q (by have := (xl q e).1; omega))
  have kp1 := kp1.trans hkx
  have sz1 := hsx
  generalize wx = w1 at *
  have k2 := Kp.alloc w1 (.cells #[.int .i64 (k : Int)] 3)
  have bI : Boxed (w1.alloc (.cells #[.int .i64 (k : Int)] 3)) w1.heap.size 3 (.int .i64 (k : Int)) := by
    unfold Boxed
    simp only [World.alloc, Array.getElem?_push_size]
  have sz2 : (w1.alloc (.cells #[.int .i64 (k : Int)] 3)).heap.size = w.heap.size + 1 := by rw [size_alloc, sz1]
  rw [sz1] at bI
  have s2 := s1.keep k2
  have m2 := m1.of (fun q e => k2.block q (by have := (xl q e).1; omega))
  have kp2 := kp1.trans k2
  generalize w1.alloc (.cells #[.int .i64 (k : Int)] 3) = w2 at *
  refine (go_any s F ps A 25 #[] _ w2 s2 (by omega)).mono ?_
  rintro e w' ⟨rfl, F', sc', d⟩
  have nI : ¬ F w.heap.size := fun e => by have := sc.fb _ e; omega
  have hXs : ∀ q, XA Lf Lr Pk At Ok (Is ++ [w.heap.size]) q → XA Lf Lr Pk At Ok Is q ∨ q = w.heap.size := by
    rintro q (e | e | e | e | e | e)
    · exact .inl (.inl e)
    · exact .inl (.inr (.inl e))
    · exact .inl (.inr (.inr (.inl e)))
    · exact .inl (.inr (.inr (.inr (.inl e))))
    · exact .inl (.inr (.inr (.inr (.inr (.inl e)))))
    · rcases List.mem_append.1 e with e | e
      · exact .inl (.inr (.inr (.inr (.inr (.inr e)))))
      · exact .inr (List.mem_singleton.1 e)
  have m3 := m2.of (fun q e => d.block q (by have := (xl q e).1; omega) (fun f => (fx q f).2 e))
  have bI3 := boxed_of bI (d.block _ bI.lt nI)
  have hlen : (Is ++ [w.heap.size]).length = k + 1 := by simp [his]
  have hAt : At < w.heap.size := (xl At (.inr (.inr (.inr (.inl rfl))))).1
  have hLr : Lr < w.heap.size := (xl Lr XLr).1
  have kp3 := Wd.kp kp2 d (fun q e => (fx q e).1)
  have hset : ∀ j, (ls.set k x).getD j 0 = if j = k then x else ls.getD j 0 := fun j => getD_setA (by rw [ll]; exact hk)
  refine ⟨by rw [hts], ⟨F', goS A (fA Lf Pk At Ok w.heap.size), Is ++ [w.heap.size], sc', ⟨m3.lf, m3.lr, m3.pk, m3.at_, m3.ok, fun i hi => ?_, m3.n1, fun i hi => ?_, m3.ll⟩, fun q e => ?_, fun q e => ?_, hw, hk0, hst, ?_, hlen, fun i hi => ?_, fun i => ?_⟩, kp3, ?_, fun j hj => ?_⟩
  · rw [getD_snoc (by omega), his]
    by_cases e : i = k
    · rw [if_pos e, e]; exact bI3
    · rw [if_neg e]; exact m3.ids i (by omega)
  · rw [getD_snoc (by omega), his]
    by_cases e : i = k
    · rw [if_pos e]; exact ⟨by omega, by omega⟩
    · rw [if_neg e]; exact m3.n2 i (by omega)
  · rcases d.new q e with e | e
    · refine ⟨(fx q e).1, fun x => ?_⟩
      rcases hXs q x with x | x
      · exact (fx q e).2 x
      · exact nI (x ▸ e)
    · refine ⟨Nat.le_trans kp2.size e, fun x => ?_⟩
      rcases hXs q x with x | x
      · have := (xl q x).1; omega
      · omega
  · have := d.size
    rcases hXs q e with e | e
    · have := xl q e; omega
    · have := h.kp.size; omega
  · show (A.ts ++ [_]).length = k + 1
    simp [hts]
  · show ((A.ts ++ [_]).getD i tk0).1 = _
    rcases insL_mem.1 hi with e | e
    · have e' : i = k := by omega
      rw [getD_snoc (by omega), if_pos (by omega), getD_snoc (by omega), if_pos (by omega)]
    · have hb := sc.ok.abb _ e
      rw [getD_snoc (by omega), if_neg (by omega), getD_snoc (by omega), if_neg (by omega)]
      exact hfn i e
  · show (i : Int) ∈ insL (A.ts.length : Int) A.ab ↔ _
    rw [insL_mem, hset, hts, hab i]
    by_cases e : i = k
    · rw [if_pos e, e]
      exact ⟨fun _ => ⟨hk, hx0⟩, fun _ => .inl rfl⟩
    · rw [if_neg e]
      constructor
      · rintro (q | q)
        · omega
        · exact q
      · exact fun q => .inr q
  · rw [sum_put ls k x (by rw [ll]; exact hk) (h.ze k (Nat.le_refl _))]
    have := h.sm
    omega
  · rw [hset, if_neg (by omega)]
    exact h.ze j (by omega)

set_option maxRecDepth 20000 in
set_option maxHeartbeats 8000000 in
theorem all_any (a0 : Option Addr) (n0 cap0 : Nat) (z0 : Nat → Int) (a1 : Option Addr) (n1 cap1 : Nat) (z1 : Nat → Int) (w : World) (h0 : InCol .u8 w a0 n0 z0) (h1 : InCol .u8 w a1 n1 z1) :
    Calls Try.prog 5 #[.slice a0 n0 cap0, .slice a1 n1 cap1] w fun e w' => e = .returned (.bool true) ∧ Kp w w' := by
  have HA := hide (fun w1 => awake15_any w1)
  have hl0 := h0.1
  have hl1 := h1.1
  have K0 := hide (Kp.alloc w (.cells #[.slice a1 n1 cap1] 23))
  have BX : Hid (Boxed (w.alloc (.cells #[.slice a1 n1 cap1] 23)) w.heap.size 23 (.slice a1 n1 cap1)) := by
    unfold Hid Boxed
    simp only [World.alloc, Array.getElem?_push_size]
  have HB : Hid (n0 ≤ 60 → BysN w (.slice a0 n0 cap0) ((List.range n0).map z0)) := fun h => bysN_of_col h0 (by omega)
  have HP : Hid (n1 ≤ 200 → ∀ w', Kp w w' → Bys w' (.slice a1 n1 cap1) ((List.range n1).map z1)) := fun h w' k => (bys_of_col h1 (by omega)).keep k
  have HPN : Hid (n1 ≤ 200 → BysN w (.slice a1 n1 cap1) ((List.range n1).map z1)) := fun h => bysN_of_col h1 (by omega)
  clear h0 h1
  go_enter Try.func5, Try.ntmps5
  go_wp2_with fail
  obtain ⟨Pk, hPk⟩ : ∃ Pk, w.heap.size = Pk := ⟨_, rfl⟩
  have BW : Hid (w.heap.size ≤ Pk) := Nat.le_of_eq hPk
  have BL := hide (unhide BX).lt
  rw [hPk] at BX BL ⊢
  generalize w.alloc (.cells #[.slice a1 n1 cap1] 23) = wA at *
  clear hPk
  refine (unhide HA wA).mono ?_
  clear HA
  rintro e w1 ⟨rfl, k1⟩
  have B1 := hide (boxed_of (unhide BX) (k1.block Pk (unhide BL)))
  have K1 := hide ((unhide K0).trans k1)
  have cb := (unhide B1).cell
  clear k1 BX K0 BL
  by_cases hb : n0 ≤ 60
  · by_cases hp : n1 ≤ 200
    · have hbI : ¬ 60 < (n0 : Int) := by omega
      have hpI : ¬ 200 < (n1 : Int) := by omega
      have HN := hide (snew_any (.slice a1 n1 cap1) _ w1 (unhide HP hp w1 (unhide K1)))
      have HB2 := hide (unhide HB hb)
      have HP2 := hide (unhide HPN hp)
      have hmk := mk_row n0 (by omega)
      clear HB HP HPN
      go_wp2_with fail
      refine (unhide HN).mono ?_
      clear HN
      rintro e w2 ⟨s, F, rfl, sc, k2, hF⟩
      have SC := hide sc
      have K2 := hide ((unhide K1).trans k2)
      have B2 := hide (boxed_of (unhide B1) (k2.block Pk (unhide B1).lt))
      have HF : Hid (∀ k, F k → w.heap.size ≤ k ∧ k ≠ Pk) := fun k e => ⟨Nat.le_trans (unhide K1).size (hF k e), fun e2 => by have := hF k e; have := (unhide B1).lt; omega⟩
      clear sc k2 B1 cb K1 hF
      go_wp2_with fail
      obtain ⟨W, hW, m0, m1, m2, m3, kW, sW⟩ := four_allocs w2 (.cells (madeCells #[.int .i64 0] n0) 3) (.cells #[.slice (some ⟨w2.heap.size, 0, none⟩) n0 n0] 31) (.cells #[.int .i64 0] 3) (.cells #[.bool true] 4)
      have bl := (unhide B2).lt
      have A0 : Hid (AL w s (w2.heap.size + 1) w2.heap.size Pk (w2.heap.size + 1 + 1) (w2.heap.size + 1 + 1 + 1) n0 (.slice a1 n1 cap1) ((List.range n1).map z1) 0 (List.replicate n0 0) W) := by
        have hk2 := (unhide K2).size
        have hre : ∀ j, (List.replicate n0 0).getD j 0 = 0 := fun j => by
          by_cases h : j < n0
          · simp [List.getD, h]
          · simp [List.getD, h]
        have hbk : Blk (w2.alloc (.cells (madeCells #[.int .i64 0] n0) 3)) 3 w2.heap.size (List.replicate n0 0) := Blk.made w2 3 n0
        have hbW : Blk W 3 w2.heap.size ((List.replicate n0 0).map fun (x : Nat) => (x : Int)) := by
          have e : ((List.replicate n0 0).map fun (x : Nat) => (x : Int)) = List.replicate n0 (0 : Int) := by simp
          rw [e]
          have h1 : (w2.alloc (.cells (madeCells #[.int .i64 0] n0) 3)).heap[w2.heap.size]? = some (.cells (madeCells #[.int .i64 0] n0) 3) := alloc_at _ _
          exact blk_of hbk (m0.trans h1.symm)
        refine ⟨⟨F, newS, [], (unhide SC).keep kW, ⟨m1, hbW, boxed_of (unhide B2) (kW.block Pk bl), m2, m3, (by intro i hi; simp at hi), by omega, (by intro i hi; simp at hi), by simp⟩, fun q e => ⟨(unhide HF q e).1, ?_⟩, ?_, rfl, rfl, rfl, rfl, rfl, (by intro i hi; simp [newS] at hi), fun i => ?_⟩, (unhide K2).trans kW, by simp, fun j _ => hre j⟩
        · have := (unhide SC).fb q e
          have h3 := (unhide HF q e).2
          rintro (x | x | x | x | x | x)
          · omega
          · omega
          · exact h3 x
          · omega
          · omega
          · simp at x
        · have := unhide BW
          rintro q (x | x | x | x | x | x)
          · exact ⟨by omega, by omega⟩
          · exact ⟨by omega, by omega⟩
          · exact ⟨by omega, by omega⟩
          · exact ⟨by omega, by omega⟩
          · exact ⟨by omega, by omega⟩
          · simp at x
        · rw [hre]
          simp [newS]
      rw [← hW]
      clear hW m0 m1 m2 m3 kW sW bl SC K2 B2 HF hmk
      generalize w2.heap.size + 1 + 1 + 1 = Ok at *
      generalize w2.heap.size + 1 + 1 = At at *
      generalize w2.heap.size + 1 = Lf at *
      generalize w2.heap.size = Lr at *
      have HST := hide (fun (k : Nat) (ls : List Nat) (wr : World) (h : AL w s Lf Lr Pk At Ok n0 (.slice a1 n1 cap1) ((List.range n1).map z1) k ls wr) (hk : k < n0) (x : Nat) (h0 : 0 < x) (h9 : x ≤ 9) => h.step hk hb x h0 h9)
      -- what is behind the loop
      have HR := hide (fun (ls : List Nat) (wr : World) (h : AL w s Lf Lr Pk At Ok n0 (.slice a1 n1 cap1) ((List.range n1).map z1) n0 ls wr) => (show Calls Try.prog 15 #[.pointer (some ⟨s, 0, none⟩), .int .i64 10000] wr fun e w' => e = .returned (.tuple #[.int .i64 (ls.sum : Int), .int .i64 0]) ∧ w'.cell? ⟨Ok, 0, none⟩ = some (.bool true) ∧ Hid (Calls Try.prog 17 #[.pointer (some ⟨s, 0, none⟩)] w' fun e w'' => e = .returned (.int .i64 0) ∧ Kp w w'') from by
        obtain ⟨F, A, Is, sc, ma, fx, xl, hw, hk0, hst, hts, his, hfn, hab⟩ := h.at_
        have hsm := h.sm
        have hlen : ((List.range n1).map z1).length = n1 := by simp
        have hco : CO w (XA Lf Lr Pk At Ok Is) (IA Lf Lr Pk At Ok n0 (.slice a1 n1 cap1) Is) s ((List.range n1).map z1) ⟨ls, 0⟩ A wr := ⟨hst, F, sc, h.kp, fx, ⟨ma, hw, hfn, hab, hk0, his, by show 0 + ls.sum ≤ 1000; omega⟩, fun q e => (xl q e).1⟩
        have hI := keepsA w Lf Lr Pk At Ok n0 (.slice a1 n1 cap1) Is
        have hr := run2_co hI (closesA w ((List.range n1).map z1) s Lf Lr Pk At Ok n0 (.slice a1 n1 cap1) Is (fun q e => (xl q e).2) hb (by omega) (unhide HP2)) hco (most := 10000) (by decide) (by rw [hk0]; decide)
        obtain ⟨c', X, e, e1, e2⟩ := run_all ((List.range n1).map z1) n0 10000 ⟨ls, 0⟩ A sc.ok hw ma.ll hab (by show ls.sum ≤ 10000; omega)
        rw [e] at hr
        refine hr.mono ?_
        rintro e w' ⟨rfl, hc⟩
        refine ⟨rfl, hc.i.1.1.ok.cell, (open_co hI hc).mono ?_⟩
        rintro e w'' ⟨rfl, hc2⟩
        refine ⟨?_, hc2.i.2⟩
        rw [e1, e2]
        rfl))
      have CL := hide (fun (k : Nat) (ls : List Nat) (wr : World) (h : AL w s Lf Lr Pk At Ok n0 (.slice a1 n1 cap1) ((List.range n1).map z1) k ls wr) => (show wr.cell? ⟨Lf, 0, none⟩ = some (.slice (some ⟨Lr, 0, none⟩) n0 n0) ∧ (∀ i, i < n0 → ∃ v, wr.cell? ⟨Lr, i, none⟩ = some v) ∧ (∀ i, wr.frozen? ⟨Lr, i, none⟩ = false) ∧ Lf ≠ Lr ∧ Kp w wr ∧ ls.sum ≤ 9 * k ∧ ls.length = n0 ∧ ls.getD k 0 = 0 from by
        obtain ⟨F, A, Is, sc, ma, fx, xl, hw, hk0, hst, hts, his, hfn, hab⟩ := h.at_
        exact ⟨ma.lf.cell, fun i hi => ⟨_, ma.cell hi⟩, fun i => ma.lr.frozen i, (blk_ne ma.lr ma.lf (by decide)).symm, h.kp, h.sm, ma.ll, h.ze k (Nat.le_refl _)⟩))
      clear HP2 BW
      go_loopw [6, 10, 11] (fun sm i _ wr => ∃ (k : Nat) (ls : List Nat), k ≤ n0 ∧ i = .int .i64 k ∧ sm = .int .i64 (ls.sum : Int) ∧ Hid (AL w s Lf Lr Pk At Ok n0 (.slice a1 n1 cap1) ((List.range n1).map z1) k ls wr)) (fun _ i _ _ => n0 - (intOf i).toNat)
      case atStart => exact ⟨0, List.replicate n0 0, Nat.zero_le _, rfl, by simp, A0⟩
      case round =>
        obtain ⟨k, ls, hk, rfl, rfl, HAL⟩ := hrel
        obtain ⟨cf, cr, fr, hne, kw, hsum, hls, hz⟩ := unhide CL k ls wr (unhide HAL)
        by_cases hkn : k < n0
        · obtain ⟨hb0, -, ba, bc, eb, hbc⟩ := (unhide HB2).keep kw
          have hl2 : ((List.range n0).map z0).length = n0 := by simp
          rw [hl2] at eb hbc
          injection eb with eb1 eb2 eb3
          clear eb2 eb3
          obtain ⟨bb, bo, rfl, hbl, hbc⟩ := hbc (by omega)
          subst eb1
          have x0 := hbc k hkn
          have xb := hb0 (((List.range n0).map z0).getD k 0) (by rw [List.getD_eq_getElem?_getD, List.getElem?_eq_getElem (by omega)]; exact List.getElem_mem _)
          obtain ⟨x, hx⟩ : ∃ x : Nat, ((List.range n0).map z0).getD k 0 = (x : Int) := ⟨(((List.range n0).map z0).getD k 0).toNat, by omega⟩
          rw [hx] at x0 xb
          obtain ⟨v0, cr0⟩ := cr k hkn
          have fr0 := fr k
          obtain ⟨y, hy⟩ : ∃ y, x % 9 = y := ⟨_, rfl⟩
          have hy9 : y ≤ 8 := by omega
          have t1 : Int.tmod (x : Int) 9 = (y : Int) := by rw [← hy]; exact (Int.ofNat_tmod x 9).symm ▸ rfl
          have xI : (x : Int) < 256 := by omega
          have kI : (k : Int) < (n0 : Int) := by omega
          have CG := hide (unhide HST k ls wr (unhide HAL) hkn (y + 1) (by omega) (by omega) ((wr.setCell ⟨Lr, k, none⟩ (.int .i64 ((y + 1 : Nat) : Int))).drew) (Kp.drew _) (by show (wr.setCell _ _).heap.size = _; simp))
          rw [show ((y + 1 : Nat) : Int) = 1 + (y : Int) by omega] at CG
          have HSP : Hid ((ls.set k (y + 1)).sum = ls.sum + (y + 1)) := sum_put ls k (y + 1) (by omega) hz
          have hsumI : (ls.sum : Int) ≤ 540 := by omega
          clear hb0 hbc hx cr fr HAL kw hls hz hy hbl hl2
          have hyI : (y : Int) ≤ 8 := by omega
          generalize ls.sum = S at *
          go_wp2_with fail
          go_region
          go_wp2_with fail
          refine (unhide CG).mono ?_
          clear CG
          rintro e w4 ⟨rfl, HN2⟩
          have HN3 := hide HN2
          clear HN2
          go_wp2_with fail
          go_roundw
          case rel => exact ⟨k + 1, _, by omega, by go_num, by rw [unhide HSP]; go_num, HN3⟩
          case measure => simp [intOf]; omega
        · have hk2 : n0 = k := by omega
          subst hk2
          have CR := hide (unhide HR ls wr (unhide HAL))
          clear HAL cf cr fr hz hls
          generalize ls.sum = S at *
          go_wp2_with fail
          refine (unhide CR).mono ?_
          clear CR
          rintro e w4 ⟨rfl, co, OP⟩
          go_wp2_with fail
          refine (unhide OP).mono ?_
          clear OP
          rintro e w5 ⟨rfl, KK⟩
          have K5 := hide KK
          clear KK
          go_wp2_with fail
          go_ret
          exact ⟨rfl, unhide K5⟩
    · have hpI : 200 < (n1 : Int) := by omega
      clear HB HP HPN B1
      go_wp2_with fail
      go_ret
      exact ⟨rfl, unhide K1⟩
  · have hbI : 60 < (n0 : Int) := by omega
    clear HB HP HPN B1
    go_wp2_with fail
    go_ret
    exact ⟨rfl, unhide K1⟩

end Go.Proofs.Ytenbmfhhmbfgoaa
