
/- By whom each is used: the program's Users. -/
import Derived.Test.YtefohemihiiceaaRchU
namespace Go.Proofs.Ytefohemihiiceaa
open Go.RowKit Go.Shelf
attribute [local go_sem] Oper.semAt_some

theorem infoUS : (Try.prog.info? 36).map (fun i => (i.zero, i.size, i.bytes)) = some (some (.slice none 0 0), 1, 24) := by kernel_rfl
theorem infoUse : (Try.prog.info? 39).map (fun i => (i.zero, i.size, i.bytes)) = some (some (.agg #[.int .i64 0, .int .i64 0]), 2, 16) := by kernel_rfl
theorem mk_uses (n : Nat) (hn : n ≤ 1000000) (w : World) :
    (Instr.makeSlice 30 (.int .i64 n) (.int .i64 n)).run Try.prog w = .ok (.slice (some ⟨w.heap.size, 0, none⟩) n n) (w.alloc (.cells (madeCells #[.slice none 0 0] n) 36)) := by
  obtain ⟨i0, hi, hz0, hz1, hz2⟩ := info_parts infoUS
  have h := run_make (P := Try.prog) w 30 36 i0 (.slice none 0 0) Try.underlying30 hi hz0 .i64 .i64 n n (by omega) (by omega) (by rw [hz2]; omega) (by omega)
  rw [hz1] at h
  simpa [Value.cells] using h
theorem neU : (39 : TypeId) ≠ 36 := by decide

/-- what Users says, of slices of uses of types e and t -/
def RetU (e t : TypeId) (ns : List Nd) (root : Int) (en : Ending) (w' : World) : Prop := ∃ (N : Nat) (a : Option Addr) (vs : List Value), en = .returned (.slice a N N) ∧
  ((¬ FromP ns root ∧ N = 0) ∨ (FromP ns root ∧ N = ns.length ∧ ∃ C base, a = some ⟨C, 0, none⟩ ∧ RowsU w' e t base C N vs (fun j => usersL (innF ns) ns.length root.toNat j)))

theorem CxC.grown {w : World} {Bg N R C base : Nat} {bs : List Bool} {ra ga : Option Addr} {gn gc : Nat} {W W' : World} {row : Option Nat} (h : CxC w Bg N R C bs ra ga gn gc W) (g : W.grownBy W' row) (hr : ∀ q, row = some q → base ≤ q) (h1 : C + 1 < base) (h2 : Bg + 1 < base) (h3 : 0 < N → R < base) (h4 : w.heap.size ≤ base) : CxC w Bg N R C bs ra ga gn gc W' := by
  have key : ∀ {p : Addr} {v : Value}, p.block < base → W.cell? p = some v → W'.cell? p = some v := fun hp hc => (World.cell?_of_block (w := W) (g.block _ (lt_of_cell hc) (fun e => by have := hr _ e.symm; omega))).trans hc
  refine ⟨key h1 h.box, key h2 h.r, key (by show Bg < base; omega) h.g, fun hp => ?_, Kp.of_grown h.kp g (fun q e => Nat.le_trans h4 (hr q e))⟩
  have hb := h.bl hp
  unfold BlkB
  rw [g.block R hb.lt (fun e => by have := hr _ e.symm; have := h3 hp; omega)]
  exact hb

/-- while Users is in node m and has gone through s of its inputs -/
def SU (w : World) (base Bg N R C : Nat) (bs : List Bool) (ra ga : Option Addr) (gc : Nat) (ns : List Nd) (m s : Nat) (W : World) : Prop :=
  bs.getD m false = true ∧ (∃ vs, base ≤ W.heap.size ∧ RowsU W 39 36 base C N vs (fun j => uM (innF ns) (fun i => bs.getD i false) N (m + 1) j ++ slotsU (innF ns) j m s)) ∧ CxC w Bg N R C bs ra ga ns.length gc W
def TU (w : World) (base Bg N R C : Nat) (bs : List Bool) (ra ga : Option Addr) (gc : Nat) (ns : List Nd) (m : Nat) (W : World) : Prop :=
  (∃ vs, base ≤ W.heap.size ∧ RowsU W 39 36 base C N vs (fun j => uM (innF ns) (fun i => bs.getD i false) N m j)) ∧ CxC w Bg N R C bs ra ga ns.length gc W
theorem RowsU.put {W : World} {e t : TypeId} {base R n : Nat} {vs : List Value} {P : Nat → List (Nat × Nat)} (h : RowsU W e t base R n vs P) {l : Nat} {r : Loop} {o : Obj} (hl : W.heap[l]? = some (.loop r)) : RowsU (W.putObj l o) e t base R n vs P :=
  h.turn (grownBy_putObj' W l o) (fun q e => by cases e; exact ⟨_, hl, rfl⟩)
theorem RowsU.putD {W : World} {e t : TypeId} {base R n : Nat} {vs : List Value} {P : Nat → List (Nat × Nat)} (h : RowsU W e t base R n vs P) {l : Nat} {d : List Deferred} {o : Obj} (hl : W.heap[l]? = some (.deferred (some d))) : RowsU (W.putObj l o) e t base R n vs P :=
  h.turn (grownBy_putObj' W l o) (fun q e => by cases e; exact ⟨_, hl, rfl⟩)
theorem sz_allocU (w : World) (o : Obj) : (w.alloc o).heap.size = w.heap.size + 1 := by simp only [World.alloc, Array.size_push]
theorem heap_newU (w : World) (o : Obj) : (w.alloc o).heap[w.heap.size]? = some o := by simp only [World.alloc, Array.getElem?_push_size]
/-- a use in a box of its own -/
structure BxU (W : World) (base Bx m s N : Nat) (vs : List Value) : Prop where
  hp : W.heap[Bx]? = some (.cells #[.int .i64 (m : Int), .int .i64 (s : Int)] 39)
  ge : base ≤ Bx
  ne : ∀ k, k < N → (vs.getD k (.slice none 0 0)).ownBlock ≠ some Bx
theorem BxU.put {W : World} {base Bx m s N : Nat} {vs : List Value} (h : BxU W base Bx m s N vs) {l : Nat} {r : Loop} {o : Obj} (hl : W.heap[l]? = some (.loop r)) : BxU (W.putObj l o) base Bx m s N vs :=
  ⟨by rw [World.putObj_heap_other (fun e => by rw [← e, h.hp] at hl; cases hl)]; exact h.hp, h.ge, h.ne⟩

set_option maxRecDepth 20000 in
set_option maxHeartbeats 8000000 in
theorem users_any (a : Option Addr) (c : Nat) (ns : List Nd) (root : Int) (w : World) (h : Nodes w (.slice a ns.length c) ns) (hr : I64 root) (ht : totM (innF ns) ns.length 0 ≤ 100000000) :
    Calls Try.prog 11 #[.agg #[.slice a ns.length c], .int .i64 root] w fun e w' => RetU 39 36 ns root e w' ∧ Kp w w' := by
  have hroom := h.room
  have H := hide h
  have HT := hide ht
  clear h ht
  have HR := hide hr
  clear hr
  have K0 := hide (Kp.alloc w (.cells #[.slice a ns.length c] 24))
  have c0 : (w.alloc (.cells #[.slice a ns.length c] 24)).cell? ⟨w.heap.size, 0, none⟩ = some (.slice a ns.length c) := (Boxed.new w 24 (.slice a ns.length c)).cell
  refine (callsIn_wide (n := 3)).1 ?_
  refine callsIn_of_wp_marks Try.func11 rfl trivial ?_ rfl
  refine wpIn_wide.2 ?_
  simp only [Try.ntmps11, List.size_toArray, List.length_cons, List.length_nil, Nat.reduceAdd, Nat.reduceSub, Array.replicate_succ, Array.replicate_zero, List.push_toArray, List.append_toArray, List.nil_append, List.cons_append]
  go_wp2_with fail
  generalize World.alloc w _ = w1 at *
  refine (from_any a c ns root w1 ((unhide H).keep (unhide K0)) (unhide HR)).mono ?_
  rintro e w2 ⟨⟨bs, ra, rfl, hbs, hra⟩, k2⟩
  have c2 := k2.cellT c0
  have K2 := hide ((unhide K0).trans k2)
  have HBS := hide hbs
  have HRA := hide hra
  have hNl : bs.length ≤ ns.length := by
    rcases hbs with ⟨_, rfl⟩ | ⟨_, rfl⟩
    · simp
    · rw [fromL_length]; exact Nat.le_refl _
  have hmk := mk_uses bs.length (by omega)
  have hzz : w1.heap.size ≤ w2.heap.size := k2.size
  have hRb : w.heap.size < w2.heap.size := lt_of_cell c2
  clear hbs hra k2 c0 K0
  generalize hN : bs.length = N at *
  have HN := hide hN
  have hK3 := (Kp.alloc w2 (.cells (madeCells #[.slice none 0 0] N) 36)).trans (Kp.alloc _ (.cells #[.slice (some ⟨w2.heap.size, 0, none⟩) N N] 30))
  have c3 := hK3.cellT c2
  have HB3 := hide (fun base => (RowsU.start w2 39 36 base N).keep (Kp.alloc _ (.cells #[.slice (some ⟨w2.heap.size, 0, none⟩) N N] 30)))
  have K3 := hide ((unhide K2).trans hK3)
  have HK := hide hK3
  have hz3 : ((w2.alloc (.cells (madeCells #[.slice none 0 0] N) 36)).alloc (.cells #[.slice (some ⟨w2.heap.size, 0, none⟩) N N] 30)).heap.size = w2.heap.size + 2 := by simp
  have d3 : ((w2.alloc (.cells (madeCells #[.slice none 0 0] N) 36)).alloc (.cells #[.slice (some ⟨w2.heap.size, 0, none⟩) N N] 30)).cell? ⟨w2.heap.size + 1, 0, none⟩ = some (.slice (some ⟨w2.heap.size, 0, none⟩) N N) := by
    have := (Boxed.new (w2.alloc (.cells (madeCells #[.slice none 0 0] N) 36)) 30 (.slice (some ⟨w2.heap.size, 0, none⟩) N N)).cell
    rwa [World.size_alloc] at this
  clear hK3 hN
  go_wp2_with fail
  generalize (w2.alloc _).alloc _ = w3 at *
  refine (uses_any a ra ns.length c N N w3).mono ?_
  rintro e w4 ⟨rfl, hw4⟩
  have ka : Kp w3 w4 := by rw [hw4]; exact (Kp.alloc _ _).trans (Kp.alloc _ _)
  have cg4 : w4.cell? ⟨w3.heap.size, 0, none⟩ = some (.slice a ns.length c) := by
    rw [hw4]
    exact (Kp.alloc _ _).cellT (Boxed.new w3 24 (.slice a ns.length c)).cell
  have cr4 : w4.cell? ⟨w3.heap.size + 1, 0, none⟩ = some (.slice ra N N) := by
    rw [hw4]
    have := (Boxed.new (w3.alloc (.cells #[.slice a ns.length c] 24)) 28 (.slice ra N N)).cell
    rwa [World.size_alloc] at this
  have hz4 : w3.heap.size ≤ w4.heap.size := ka.size
  have hz5 : w4.heap.size = w3.heap.size + 2 := by rw [hw4]; simp
  obtain ⟨R, HRR⟩ : ∃ R, Hid (0 < N → ra = some ⟨R, 0, none⟩ ∧ R < w2.heap.size ∧ BlkB w2 R bs) := by
    rcases unhide HRA with ⟨h1, h2⟩ | ⟨h1, B, h2, h3, h4⟩
    · refine ⟨0, fun hp => ?_⟩
      have := unhide HN
      rw [h1] at this
      simp at this
      omega
    · exact ⟨B, fun _ => ⟨h2, h4.lt, h4⟩⟩
  have HF : Hid (0 < N → FromP ns root ∧ SoundN ns ∧ N = ns.length ∧ bs = fromL (innF ns) ns.length root.toNat) := fun hp => by
    rcases unhide HBS with ⟨h1, h2⟩ | ⟨h1, h2⟩
    · have := unhide HN
      rw [h2] at this
      simp at this
      omega
    · refine ⟨h1, h1.1, ?_, h2⟩
      rw [← unhide HN, h2, fromL_length]
  have HE : Hid (¬ 0 < N → ¬ FromP ns root) := fun hp h1 => by
    rcases unhide HBS with ⟨h2, _⟩ | ⟨_, h2⟩
    · exact h2 h1
    · have h3 := unhide HN
      rw [h2, fromL_length] at h3
      have := h1.2.1
      have := h1.2.2
      omega
  obtain ⟨C, hC⟩ : ∃ C, C = w2.heap.size := ⟨_, rfl⟩
  have HC4 : Hid (CxC w w3.heap.size N R C bs ra a ns.length c w4) := ⟨by rw [hC]; exact ka.cellT d3, cr4, cg4, fun hp => ((unhide HRR hp).2.2.keep (unhide HK)).keep ka, (unhide K3).trans ka⟩
  have HB4 : Hid (∀ base, RowsU w4 39 36 base C N (List.replicate N (.slice none 0 0)) (fun _ => [])) := by rw [hC]; exact fun base => (unhide HB3 base).keep ka
  have HRC : Hid (0 < N → R < C) := fun hp => by have := (unhide HRR hp).2.1; omega
  obtain ⟨Bg, hBg⟩ : ∃ Bg, Bg = w3.heap.size := ⟨_, rfl⟩
  rw [← hBg] at HC4 hz4 hz3 hz5
  rw [← hC] at hz3 hRb
  have hwC : w.heap.size ≤ C := Nat.le_of_lt hRb
  have hCB : C < Bg := by omega
  rw [← hBg, ← hC]
  clear hw4 cg4 cr4 ka HB3 K3 c3 d3 hBg hz3 HRA HBS HK hC
  have HZ4 : Hid (w4.heap.size = Bg + 2) := hz5
  clear hz4 hz5
  go_wp2_with fail
  refine (wpIn_wide (n := 3)).1 ?_
  obtain ⟨base, hbase⟩ : ∃ base, base = w4.heap.size := ⟨_, rfl⟩
  have HBA := hide hbase
  have HBZ : Hid (base = Bg + 2) := by unfold Hid; rw [hbase]; exact unhide HZ4
  clear hbase
  refine told_range (F := Fence.wide) (n := 3) rfl (by omega) (gf := 19) (lb := #[.pointer (some ⟨Bg + 1, 0, none⟩), .pointer (some ⟨Bg, 0, none⟩)]) rfl trivial (enters_of Try.func19 (by kernel_rfl) rfl)
    (ι := Us N ns) (encU ns N) (fun _ => rfl) (TU w base Bg N R C bs ra a c ns N) (TU w base Bg N R C bs ra a c ns 0)
    (fun i W => SU w base Bg N R C bs ra a c ns i.1.1 i.1.2 W) (fun i W => SU w base Bg N R C bs ra a c ns i.1.1 (i.1.2 + 1) W)
    (fun i a' W => ∃ Bx vs, a' = { tmps := (Value.agg #[.slice a ns.length c] :: .int .i64 root :: .pointer (some ⟨w.heap.size, 0, none⟩) :: undef :: .slice none 0 0 :: .slice ra N N :: .pointer (some ⟨C + 1, 0, none⟩) :: .int .i64 (inV ns i.1.1 i.1.2) :: .pointer (some ⟨Bx, 0, none⟩) :: .agg #[.slice a ns.length c] :: .int .i64 root :: .slice ra N N :: .slice ra N N :: .int .i64 (N : Int) :: .slice (some ⟨C, 0, none⟩) N N :: .agg #[.slice a ns.length c] :: .slice ra N N :: .func (.func 19) #[] #[.pointer (some ⟨Bg + 1, 0, none⟩), .pointer (some ⟨Bg, 0, none⟩)] :: .int .i64 (inV ns i.1.1 i.1.2) :: .agg #[.int .i64 (i.1.1 : Int), .int .i64 (i.1.2 : Int)] :: undef :: undef :: undef :: undef :: undef :: undef :: undef :: undef :: undef :: undef :: undef :: []).toArray, defers := [] } ∧ bs.getD i.1.1 false = true ∧ base ≤ W.heap.size ∧ RowsU W 39 36 base C N vs (fun j => uM (innF ns) (fun i => bs.getD i false) N (i.1.1 + 1) j ++ slotsU (innF ns) j i.1.1 i.1.2) ∧ CxC w Bg N R C bs ra a ns.length c W ∧ BxU W base Bx i.1.1 i.1.2 N vs)
    ?hit ?h0 ?hx ?hs ?ht ?assign ?body ?done
  case hit =>
    intro l A hY W hT hA
    refine uses1_in Fence.wide 2 trivial rfl (by omega) l (Bg + 1) Bg N R c ra a ns w (unhide H) hNl (fun hp => (unhide HRR hp).1)
      (TU w base Bg N R C bs ra a c ns) (fun m s W => SU w base Bg N R C bs ra a c ns m s W) A
      (fun m W h => ⟨h.2.r, h.2.g, h.2.kp⟩) (fun m s W h => ⟨h.2.2.r, h.2.2.g, h.2.2.kp⟩) ?_ ?_ (fun m s W hm hs hS hA => hY ⟨(m, s), hm, hs⟩ W hS hA) W hT hA
    · rintro m W hm ⟨⟨vs, hbW, hX⟩, hC⟩
      have hl := unhide HN
      refine ⟨_, (hC.bl (by omega)).cell (by omega), fun h => ⟨h, ⟨vs, hbW, hX.as fun j _ => by simp [slotsU]⟩, hC⟩, fun h => ⟨⟨vs, hbW, hX.as fun j _ => ?_⟩, hC⟩⟩
      rw [uM_step _ _ j hm, if_neg (by rw [h]; decide), List.append_nil]
    · rintro m W hm ⟨hb, ⟨vs, hbW, hX⟩, hC⟩
      exact ⟨⟨vs, hbW, hX.as fun j _ => by rw [uM_step _ _ j hm, if_pos hb]⟩, hC⟩
  case h0 =>
    intro o r9
    have k := (Kp.alloc w4 (.deferred o)).trans (Kp.alloc _ (.loop r9))
    exact ⟨⟨_, by rw [unhide HBA]; exact k.size, ((unhide HB4 base).keep k).as fun j _ => by rw [uM_top]⟩, (unhide HC4).keep k⟩
  case hx =>
    rintro i a' W l r9 r' hl hh ⟨Bx, vs, e, h1, h5, h2, h3, h4⟩
    have := unhide HZ4
    exact ⟨Bx, vs, e, h1, by rw [World.putObj_size]; exact h5, h2.put hh, h3.put (by omega) hh, h4.put hh⟩
  case hs =>
    rintro i W l r9 r' hl hh ⟨h1, ⟨xs, h5, h2⟩, h4⟩
    have := unhide HZ4
    exact ⟨h1, ⟨xs, by rw [World.putObj_size]; exact h5, h2.put hh⟩, h4.put (by omega) hh⟩
  case ht =>
    rintro W l r9 r' hl hh ⟨⟨xs, h5, h2⟩, h4⟩
    have := unhide HZ4
    exact ⟨⟨xs, by rw [World.putObj_size]; exact h5, h2.put hh⟩, h4.put (by omega) hh⟩
  case assign =>
    intro l i W K hS hK
    have HS := hide hS
    obtain ⟨⟨m, s⟩, hm, hs⟩ := i
    dsimp only [encU]
    gi_wp2
    obtain ⟨hb, ⟨vs, hbW, hX⟩, hC⟩ := unhide HS
    have ka := Kp.alloc W (.cells #[.int .i64 (m : Int), .int .i64 (s : Int)] 39)
    exact hK _ _ (KeepsOthers.alloc _ _) ⟨W.heap.size, vs, rfl, hb, Nat.le_trans hbW ka.size, hX.keep ka, hC.keep ka, heap_newU _ _, hbW, fun k hk e => by have := (hX.own k hk).block _ e; omega⟩
  case body =>
    rintro l ⟨⟨m, s⟩, hm0, hs0⟩ a' W ⟨Bx, vs, rfl, hb0, hbW, hX0, hC, hBx0⟩
    have hm : m < N := hm0
    have hs : s < (innF ns m).length := hs0
    have hb : bs.getD m false = true := hb0
    have hX : RowsU W 39 36 base C N vs (fun j => uM (innF ns) (fun i => bs.getD i false) N (m + 1) j ++ slotsU (innF ns) j m s) := hX0
    have hBx : BxU W base Bx m s N vs := hBx0
    clear hb0 hX0 hBx0
    have hF := unhide HF (by omega)
    have e1 : inV ns m s = (innF ns m)[s] := by simp [inV, hs]
    have hxx := hF.2.1 m (by omega) _ (List.getElem_mem hs)
    rw [← e1] at hxx
    clear e1
    have hsl : ∀ j, slotsU (innF ns) j m (s + 1) = if inV ns m s = (j : Int) then slotsU (innF ns) j m s ++ [(m, s)] else slotsU (innF ns) j m s := fun j => by
      have e2 : (innF ns m).getD s (-1) = inV ns m s := by simp [inV, hs]
      split
      · rename_i h; exact slotsU_yes (by rw [e2]; exact h)
      · rename_i h; exact slotsU_no (by rw [e2]; exact h)
    have htot : totM (innF ns) N 0 ≤ 100000000 := by rw [hF.2.2.1]; exact unhide HT
    have hle := fun j => cntIn_le (r := fun i => bs.getD i false) hm (show s + 1 ≤ _ from hs) (f := innF ns) j
    dsimp only
    generalize inV ns m s = x at *
    obtain ⟨y, rfl⟩ : ∃ y : Nat, x = (y : Int) := ⟨x.toNat, by omega⟩
    have hyN : y < N := by omega
    have hlU := hle y
    rw [hsl y, if_pos rfl, ← List.append_assoc, List.length_append] at hlU
    have HSL := hide hsl
    have HX := hide hX
    have HCx := hide hC
    have HBx := hide hBx
    have HBd := hide hb
    have HLU := hide hlU
    have HTO := hide htot
    clear hsl hX hC hBx hb hlU htot hle hF hxx
    refine wpIn_block ?_
    refine wpIn_region_any (by kernel_rfl) ?_
    have kd := Kp.drew W
    have ka := Kp.alloc W.drew (.cells #[.int .i64 (m : Int), .int .i64 (s : Int)] 39)
    have hY := (unhide HX).own y hyN
    have hzb := unhide HBZ
    have hvl : y < vs.length := by rw [(unhide HX).len]; exact hyN
    have hRB : 0 < N → R < base := fun hp => by have := unhide HRC hp; omega
    have cells0 : ∀ w', Kp W w' → w'.cell? ⟨C + 1, 0, none⟩ = some (.slice (some ⟨C, 0, none⟩) N N) ∧ w'.cell? ⟨C, y, none⟩ = some (vs.getD y (.slice none 0 0)) ∧ w'.frozen? ⟨C, y, none⟩ = false ∧ w'.cell? ⟨Bx, 0, none⟩ = some (.int .i64 (m : Int)) ∧ w'.cell? ⟨Bx, 1, none⟩ = some (.int .i64 (s : Int)) := fun w' k => by
      have hb := ((unhide HX).keep k).blk
      have hbx : w'.heap[Bx]? = some (.cells #[.int .i64 (m : Int), .int .i64 (s : Int)] 39) := by rw [k.block Bx (Array.getElem?_eq_some_iff.1 (unhide HBx).hp).1]; exact (unhide HBx).hp
      exact ⟨((unhide HCx).keep k).box, hb.cell hvl, hb.frozen y, by simp [World.cell?, hbx], by simp [World.cell?, hbx]⟩
    refine users_region (F := Fence.wide.inRound l) (l := l) (C := C) (N := N) (y := y) (Bx := Bx) (m := m) (s := s) (rv := vs.getD y (.slice none 0 0)) (w0 := W.drew) (w1 := W.drew.alloc (.cells #[.int .i64 (m : Int), .int .i64 (s : Int)] 39))
      (A := AppU 39 base (uM (innF ns) (fun i => bs.getD i false) N (m + 1) y ++ slotsU (innF ns) y m s) (m, s) (vs.getD y (.slice none 0 0)) (W.drew.alloc (.cells #[.int .i64 (m : Int), .int .i64 (s : Int)] 39)))
      rfl (fun _ => trivial) rfl (by kernel_rfl) (by kernel_rfl) (by kernel_rfl) (by kernel_rfl) (by kernel_rfl) (by kernel_rfl) (by kernel_rfl) (by kernel_rfl) (by kernel_rfl) (by kernel_rfl) (by kernel_rfl) (by kernel_rfl) (by kernel_rfl) (by kernel_rfl) (by kernel_rfl) (by kernel_rfl) (by kernel_rfl) (by kernel_rfl) (by kernel_rfl) (by kernel_rfl) (by kernel_rfl) (by kernel_rfl) hyN rfl ?_ ?_ (fun ap w' ⟨b, n', c', e, _⟩ => ⟨b, n', c', e⟩) rfl rfl rfl rfl ?_
    · rintro w' (rfl | rfl | ⟨ap, b, n', c', rfl, ho, hg, hf⟩)
      · exact cells0 _ kd
      · exact cells0 _ (kd.trans ka)
      · obtain ⟨g1, g2, g3, g4, g5⟩ := cells0 _ (kd.trans ka)
        have hown : ∀ q, (vs.getD y (.slice none 0 0)).ownBlock = some q → base ≤ q := fun q e => (hY.block q e).1
        have key : ∀ {p : Addr} {v : Value}, some p.block ≠ (vs.getD y (.slice none 0 0)).ownBlock → (W.drew.alloc (.cells #[.int .i64 (m : Int), .int .i64 (s : Int)] 39)).cell? p = some v → w'.cell? p = some v := fun hp hc => (World.cell?_of_block (w := W.drew.alloc _) (hg.block _ (lt_of_cell hc) hp)).trans hc
        have hCne : some C ≠ (vs.getD y (.slice none 0 0)).ownBlock := fun e => by have := hown C e.symm; omega
        have hBne : some Bx ≠ (vs.getD y (.slice none 0 0)).ownBlock := fun e => (unhide HBx).ne y hyN e.symm
        refine ⟨key (fun e => by have := hown _ e.symm; simp at this; omega) g1, key hCne g2, ?_, key hBne g4, key hBne g5⟩
        have hbl := ((unhide HX).keep (kd.trans ka)).blk.grown hg hCne
        exact hbl.frozen y
    · intro ty
      have hYk := hY.keep (kd.trans ka)
      have hz0 : W.drew.heap.size = W.heap.size := rfl
      have hn := heap_newU W.drew (.cells #[.int .i64 (m : Int), .int .i64 (s : Int)] 39)
      have hcell : ∀ i, (W.drew.alloc (.cells #[.int .i64 (m : Int), .int .i64 (s : Int)] 39)).cell? ⟨W.drew.heap.size, i, none⟩ = (#[.int .i64 (m : Int), .int .i64 (s : Int)] : Array Value)[i]? := fun i => by
        unfold World.cell?
        rw [hn]
        rfl
      obtain ⟨b, n', c', w', hrun, h1, h2, h3⟩ := run_append_use (P := Try.prog) (W.drew.alloc (.cells #[.int .i64 (m : Int), .int .i64 (s : Int)] 39)) base 36 ty 39 infoUse Try.underlying36 (vs.getD y (.slice none 0 0))
        (uM (innF ns) (fun i => bs.getD i false) N (m + 1) y ++ slotsU (innF ns) y m s) (m, s) ⟨W.drew.heap.size, 0, none⟩ hYk (hcell 0) (hcell 1)
        (by have h1 := unhide HLU; have h2 := unhide HTO; simp only [List.length_singleton] at h1; omega) (by rw [sz_allocU]; omega)
      exact ⟨_, w', hrun, b, n', c', rfl, h1, h2, h3⟩
    · rintro a9 ap w' ⟨b, n', c', rfl, ho, hg, hf⟩
      have hown : ∀ q, (vs.getD y (.slice none 0 0)).ownBlock = some q → base ≤ q := fun q e => (hY.block q e).1
      have hcg := (((unhide HCx).keep (kd.trans ka)).grown hg hown (by omega) (by omega) hRB (by omega)).set y (.slice b n' c') hCB (fun hp => by have := unhide HRC hp; omega) hwC
      have hst := ((unhide HX).step neU (kd.trans ka) hyN ho hg hf).as (P' := fun j => uM (innF ns) (fun i => bs.getD i false) N (m + 1) j ++ slotsU (innF ns) j m (s + 1)) (fun j hj => by
        rw [unhide HSL j]
        by_cases e : j = y
        · subst e; rw [if_pos rfl, if_pos rfl, List.append_assoc]
        · rw [if_neg e, if_neg (by omega)])
      refine ⟨?_, unhide HBd, ⟨_, ?_, hst⟩, hcg⟩
      · refine (KeepsOthers.drew W).trans ((KeepsOthers.alloc _ _).trans ((KeepsOthers.of_grownBy hg (fun j o e hj => ?_)).trans (KeepsOthers.setCell _ _ _)))
        obtain ⟨_, ⟨h1, _⟩ | ⟨g', cap, cur, h1, _, hh, _⟩⟩ := hY.keep (kd.trans ka)
        · rw [h1] at e; cases e
        · rw [h1] at e; cases e; rw [hh] at hj; cases hj; rfl
      · have h1 := hg.size
        have h2 := (kd.trans ka).size
        have h3 : (w'.setCell ⟨C, y, none⟩ (.slice b n' c')).heap.size = w'.heap.size := by simp
        omega
  case done =>
    rintro D W hD ⟨⟨vs, hbW, hX⟩, hC⟩ hDD
    have cb := hC.box
    have hz := unhide HZ4
    go_wp2
    refine ⟨by simp, .inl ⟨_, _, rfl, run_takeDeferred hDD, ?_⟩⟩
    refine ⟨_, results_tmp rfl _ _ _, ⟨N, some ⟨C, 0, none⟩, vs, rfl, ?_⟩, Kp.of_grown hC.kp (grownBy_putObj' W D _) (fun k e => by cases e; omega)⟩
    by_cases hp : 0 < N
    · obtain ⟨h1, h2, h3, h4⟩ := unhide HF hp
      refine .inr ⟨h1, h3, C, base, rfl, (hX.putD hDD).as fun j hj => ?_⟩
      rw [h4, h3]
      rfl
    · exact .inl ⟨unhide HE hp, by omega⟩

end Go.Proofs.Ytefohemihiiceaa
