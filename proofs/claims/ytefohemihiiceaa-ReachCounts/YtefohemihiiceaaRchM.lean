
/- Who is reached: the program's From. -/
import Derived.Test.YtefohemihiiceaaRchG
namespace Go.Proofs.Ytefohemihiiceaa
open Go.RowKit Go.Shelf
attribute [local go_sem] Oper.semAt_some

/-- what lies where while From goes through the uses, but for the bools -/
structure CxF (w : World) (Br Bg N R : Nat) (ga : Option Addr) (gn gc : Nat) (W : World) : Prop where
  box : W.cell? ⟨R + 1, 0, none⟩ = some (.slice (some ⟨R, 0, none⟩) N N)
  r : W.cell? ⟨Br, 0, none⟩ = some (.slice (some ⟨R, 0, none⟩) N N)
  g : W.cell? ⟨Bg, 0, none⟩ = some (.slice ga gn gc)
  kp : Kp w W
theorem cell_put {W : World} {l : Nat} {r : Loop} {o : Obj} {p : Addr} {v : Value} (h : W.cell? p = some v) (hl : W.heap[l]? = some (.loop r)) : (W.putObj l o).cell? p = some v := by
  refine (World.cell?_of_block (w := W) ?_).trans h
  refine World.putObj_heap_other (fun e => ?_)
  unfold World.cell? at h
  rw [e, hl] at h
  cases h
theorem blkB_put {W : World} {l B : Nat} {r : Loop} {o : Obj} {bs : List Bool} (h : BlkB W B bs) (hl : W.heap[l]? = some (.loop r)) : BlkB (W.putObj l o) B bs := by
  unfold BlkB at h ⊢
  rw [World.putObj_heap_other (fun e => by rw [e, hl] at h; cases h)]
  exact h
theorem CxF.put {w : World} {Br Bg N R : Nat} {ga : Option Addr} {gn gc : Nat} {W : World} (h : CxF w Br Bg N R ga gn gc W) {l : Nat} {r r' : Loop} (hw : w.heap.size ≤ l) (hl : W.heap[l]? = some (.loop r)) : CxF w Br Bg N R ga gn gc (W.putObj l (.loop r')) :=
  ⟨cell_put h.box hl, cell_put h.r hl, cell_put h.g hl, Kp.of_grown h.kp (grownBy_putObj' W l _) (fun k e => by cases e; exact hw)⟩
theorem CxF.keep {w : World} {Br Bg N R : Nat} {ga : Option Addr} {gn gc : Nat} {W W' : World} (h : CxF w Br Bg N R ga gn gc W) (k : Kp W W') : CxF w Br Bg N R ga gn gc W' :=
  ⟨k.cellT h.box, k.cellT h.r, k.cellT h.g, h.kp.trans k⟩
theorem CxF.set {w : World} {Br Bg N R : Nat} {ga : Option Addr} {gn gc : Nat} {W : World} (h : CxF w Br Bg N R ga gn gc W) (i : Nat) (v : Value) (h1 : R ≠ Br) (h2 : R ≠ Bg) (h3 : w.heap.size ≤ R) : CxF w Br Bg N R ga gn gc (W.setCell ⟨R, i, none⟩ v) :=
  ⟨cell_ne v (by omega) h.box, cell_ne v (Ne.symm h1) h.r, cell_ne v (Ne.symm h2) h.g, Kp.set h.kp h3 v⟩
theorem blkB_putD {W : World} {l B : Nat} {o : Obj} {d : List Deferred} {bs : List Bool} (h : BlkB W B bs) (hl : W.heap[l]? = some (.deferred (some d))) : BlkB (W.putObj l o) B bs := by
  unfold BlkB at h ⊢
  rw [World.putObj_heap_other (fun e => by rw [e, hl] at h; cases h)]
  exact h
/-- while From is in node m and has gone through s of its inputs -/
def SF (w : World) (Bg R : Nat) (a : Option Addr) (c : Nat) (ns : List Nd) (r m s : Nat) (W : World) : Prop :=
  (sM (innF ns) (rootL ns.length r) ns.length (m + 1)).getD m false = true ∧ BlkB W R (markL (sM (innF ns) (rootL ns.length r) ns.length (m + 1)) ((innF ns m).take s)) ∧ CxF w (Bg + 1) Bg ns.length R a ns.length c W
/-- one use -/
abbrev Us (N : Nat) (ns : List Nd) := { p : Nat × Nat // p.1 < N ∧ p.2 < (innF ns p.1).length }
def inV (ns : List Nd) (m s : Nat) : Int := (innF ns m).getD s 0
def encU (ns : List Nd) (N : Nat) (i : Us N ns) : Array Value := #[.int .i64 (inV ns i.1.1 i.1.2), .agg #[.int .i64 (i.1.1 : Int), .int .i64 (i.1.2 : Int)]]

set_option maxRecDepth 20000 in
set_option maxHeartbeats 8000000 in
theorem from_any (a : Option Addr) (c : Nat) (ns : List Nd) (root : Int) (w : World) (h : Nodes w (.slice a ns.length c) ns) (hr : I64 root) :
    Calls Try.prog 10 #[.agg #[.slice a ns.length c], .int .i64 root] w fun e w' => RetF w ns root e w' ∧ Kp w w' := by
  have hroom := h.room
  have H := hide h
  clear h
  unfold I64 at hr
  have K0 := hide (Kp.alloc w (.cells #[.slice a ns.length c] 24))
  have hmk := mk_bools ns.length (by omega)
  have c0 : (w.alloc (.cells #[.slice a ns.length c] 24)).cell? ⟨w.heap.size, 0, none⟩ = some (.slice a ns.length c) := (Boxed.new w 24 (.slice a ns.length c)).cell
  refine (callsIn_wide (n := 3)).1 ?_
  refine callsIn_of_wp_marks Try.func10 rfl trivial ?_ rfl
  refine wpIn_wide.2 ?_
  simp only [Try.ntmps10, List.size_toArray, List.length_cons, List.length_nil, Nat.reduceAdd, Nat.reduceSub, Array.replicate_succ, Array.replicate_zero, List.push_toArray, List.append_toArray, List.nil_append, List.cons_append]
  by_cases h0 : root < 0
  · have HX : Hid (¬ FromP ns root) := fun h => by have := h.2.1; omega
    clear hmk
    go_wp2
    exact ⟨_, results_tmp rfl _ _ _, retF_none (unhide HX) rfl, unhide K0⟩
  · by_cases h1 : (ns.length : Int) ≤ root
    · have HX : Hid (¬ FromP ns root) := fun h => by have := h.2.2; omega
      have h0' : decide (root < 0) = false := decide_eq_false h0
      clear hmk
      go_wp2
      exact ⟨_, results_tmp rfl _ _ _, retF_none (unhide HX) rfl, unhide K0⟩
    · obtain ⟨r, rfl⟩ : ∃ r : Nat, root = (r : Int) := ⟨root.toNat, by omega⟩
      have h0' : decide ((r : Int) < 0) = false := decide_eq_false h0
      have hrl : r < ns.length := by omega
      have hrlI : (r : Int) < (ns.length : Int) := by omega
      go_wp2_with fail
      refine (well_any a c ns _ ((unhide H).keep (unhide K0))).mono ?_
      rintro e w2 ⟨⟨b, rfl, hb⟩, k2⟩
      have c2 := k2.cellT c0
      have K2 := hide ((unhide K0).trans k2)
      have HB := hide hb
      clear hb k2 c0 K0
      cases b
      · have HX : Hid (¬ FromP ns (r : Int)) := fun h => by cases (unhide HB).2 h.1
        clear hmk
        go_wp2
        exact ⟨_, results_tmp rfl _ _ _, retF_none (unhide HX) rfl, unhide K2⟩
      · have HSN := hide ((unhide HB).1 rfl)
        have HP : Hid (FromP ns (r : Int)) := ⟨unhide HSN, by omega, by omega⟩
        have hmr : (madeCells #[Value.bool false] ns.length)[r]? = some (.bool false) := by simp [madeCells, hrl, Nat.mod_one]
        have hK3 := (Kp.alloc w2 (.cells ((madeCells #[.bool false] ns.length).setIfInBounds r (.bool true)) 4)).trans (Kp.alloc _ (.cells #[.slice (some ⟨w2.heap.size, 0, none⟩) ns.length ns.length] 28))
        have c3 := hK3.cellT c2
        have HB3 := hide ((made_set w2 ns.length r).keep (Kp.alloc _ (.cells #[.slice (some ⟨w2.heap.size, 0, none⟩) ns.length ns.length] 28)))
        have K3 := hide ((unhide K2).trans hK3)
        have hRb : w.heap.size < w2.heap.size := lt_of_cell c2
        have hz3 : ((w2.alloc (.cells ((madeCells #[.bool false] ns.length).setIfInBounds r (.bool true)) 4)).alloc (.cells #[.slice (some ⟨w2.heap.size, 0, none⟩) ns.length ns.length] 28)).heap.size = w2.heap.size + 2 := by simp
        have d3 : ((w2.alloc (.cells ((madeCells #[.bool false] ns.length).setIfInBounds r (.bool true)) 4)).alloc (.cells #[.slice (some ⟨w2.heap.size, 0, none⟩) ns.length ns.length] 28)).cell? ⟨w2.heap.size + 1, 0, none⟩ = some (.slice (some ⟨w2.heap.size, 0, none⟩) ns.length ns.length) := by
          have := (Boxed.new (w2.alloc (.cells ((madeCells #[.bool false] ns.length).setIfInBounds r (.bool true)) 4)) 28 (.slice (some ⟨w2.heap.size, 0, none⟩) ns.length ns.length)).cell
          rwa [World.size_alloc] at this
        clear hK3 HB
        go_wp2_with fail
        generalize (w2.alloc _).alloc _ = w3 at *
        obtain ⟨R, hR⟩ : ∃ R, R = w2.heap.size := ⟨_, rfl⟩
        rw [← hR] at HB3 hRb hz3 d3 ⊢
        clear hR c2 K2 hmr hmk
        refine (uses_any a _ ns.length c ns.length ns.length w3).mono ?_
        rintro e w4 ⟨rfl, hw4⟩
        have ka : Kp w3 w4 := by rw [hw4]; exact (Kp.alloc _ _).trans (Kp.alloc _ _)
        have cg4 : w4.cell? ⟨w3.heap.size, 0, none⟩ = some (.slice a ns.length c) := by
          rw [hw4]
          exact (Kp.alloc _ _).cellT (Boxed.new w3 24 (.slice a ns.length c)).cell
        have cr4 : w4.cell? ⟨w3.heap.size + 1, 0, none⟩ = some (.slice (some ⟨R, 0, none⟩) ns.length ns.length) := by
          rw [hw4]
          have := (Boxed.new (w3.alloc (.cells #[.slice a ns.length c] 24)) 28 (.slice (some ⟨R, 0, none⟩) ns.length ns.length)).cell
          rwa [World.size_alloc] at this
        have hz4 : w3.heap.size ≤ w4.heap.size := ka.size
        have HC4 : Hid (CxF w (w3.heap.size + 1) w3.heap.size ns.length R a ns.length c w4) := ⟨ka.cellT d3, cr4, cg4, (unhide K3).trans ka⟩
        have HB4 := hide ((unhide HB3).keep ka)
        obtain ⟨Bg, hBg⟩ : ∃ Bg, Bg = w3.heap.size := ⟨_, rfl⟩
        rw [← hBg] at HC4 hz4 hz3 ⊢
        have HZ := hide hz3
        clear hw4 cg4 cr4 ka HB3 K3 c3 d3 hBg hz3
        have hBgR : R < Bg := by have := unhide HZ; omega
        go_wp2_with fail
        refine (wpIn_wide (n := 3)).1 ?_
        refine told_range (F := Fence.wide) (n := 3) rfl (by omega) (gf := 19) (lb := #[.pointer (some ⟨Bg + 1, 0, none⟩), .pointer (some ⟨Bg, 0, none⟩)]) rfl trivial (enters_of Try.func19 (by kernel_rfl) rfl)
          (ι := Us ns.length ns) (encU ns ns.length) (fun _ => rfl)
          (fun W => BlkB W R (sM (innF ns) (rootL ns.length r) ns.length ns.length) ∧ CxF w (Bg + 1) Bg ns.length R a ns.length c W)
          (fun W => BlkB W R (sM (innF ns) (rootL ns.length r) ns.length 0) ∧ CxF w (Bg + 1) Bg ns.length R a ns.length c W)
          (fun i W => SF w Bg R a c ns r i.1.1 i.1.2 W) (fun i W => SF w Bg R a c ns r i.1.1 (i.1.2 + 1) W)
          (fun i a' W => a' = { tmps := (Value.agg #[.slice a ns.length c] :: .int .i64 (r : Int) :: .pointer (some ⟨w.heap.size, 0, none⟩) :: undef :: .slice none 0 0 :: .pointer (some ⟨R + 1, 0, none⟩) :: .int .i64 (inV ns i.1.1 i.1.2) :: .int .i64 (r : Int) :: .bool false :: .bool false :: .int .i64 (r : Int) :: .pointer (some ⟨w.heap.size, 0, none⟩) :: .slice a ns.length c :: .int .i64 (ns.length : Int) :: .bool false :: .bool false :: .bool false :: .agg #[.slice a ns.length c] :: .bool true :: .bool false :: .bool false :: .pointer (some ⟨w.heap.size, 0, none⟩) :: .slice a ns.length c :: .int .i64 (ns.length : Int) :: .slice (some ⟨R, 0, none⟩) ns.length ns.length :: .slice (some ⟨R, 0, none⟩) ns.length ns.length :: .int .i64 (r : Int) :: .pointer (some ⟨R, r, none⟩) :: .agg #[.slice a ns.length c] :: .slice (some ⟨R, 0, none⟩) ns.length ns.length :: .func (.func 19) #[] #[.pointer (some ⟨Bg + 1, 0, none⟩), .pointer (some ⟨Bg, 0, none⟩)] :: .int .i64 (inV ns i.1.1 i.1.2) :: .agg #[.int .i64 (i.1.1 : Int), .int .i64 (i.1.2 : Int)] :: undef :: undef :: undef :: undef :: []).toArray, defers := [] } ∧ SF w Bg R a c ns r i.1.1 i.1.2 W)
          ?hit ?h0 ?hx ?hs ?ht ?assign ?body ?done
        case hit =>
          intro l A hY W hT hA
          refine uses1_in Fence.wide 2 trivial rfl (by omega) l (Bg + 1) Bg ns.length R c (some ⟨R, 0, none⟩) a ns w (unhide H) (Nat.le_refl _) (fun _ => rfl)
            (fun m W => BlkB W R (sM (innF ns) (rootL ns.length r) ns.length m) ∧ CxF w (Bg + 1) Bg ns.length R a ns.length c W) (fun m s W => SF w Bg R a c ns r m s W) A
            (fun m W h => ⟨h.2.r, h.2.g, h.2.kp⟩) (fun m s W h => ⟨h.2.2.r, h.2.2.g, h.2.2.kp⟩) ?_ ?_ (fun m s W hm hs hS hA => hY ⟨(m, s), hm, hs⟩ W hS hA) W hT hA
          · rintro m W hm ⟨hB, hC⟩
            refine ⟨_, hB.cell (by rw [sM_length, rootL_length]; exact hm), fun h => ⟨h, hB, hC⟩, fun h => ⟨?_, hC⟩⟩
            rw [sM_step _ _ hm]
            unfold stepM
            rw [if_neg (by rw [h]; decide)]
            exact hB
          · rintro m W hm ⟨hb, hB, hC⟩
            refine ⟨?_, hC⟩
            rw [sM_step _ _ hm]
            unfold stepM
            rw [if_pos hb]
            rw [List.take_length] at hB
            exact hB
        case h0 =>
          intro o r9
          have k := (Kp.alloc w4 (.deferred o)).trans (Kp.alloc _ (.loop r9))
          exact ⟨by rw [sM_top]; exact (unhide HB4).keep k, (unhide HC4).keep k⟩
        case hx =>
          rintro i a' W l r9 r' hl hh ⟨e, h⟩
          exact ⟨e, h.1, blkB_put h.2.1 hh, h.2.2.put (by omega) hh⟩
        case hs =>
          rintro i W l r9 r' hl hh h
          exact ⟨h.1, blkB_put h.2.1 hh, h.2.2.put (by omega) hh⟩
        case ht =>
          rintro W l r9 r' hl hh h
          exact ⟨blkB_put h.1 hh, h.2.put (by omega) hh⟩
        case assign =>
          intro l i W K hS hK
          have HS := hide hS
          obtain ⟨⟨m, s⟩, hm, hs⟩ := i
          dsimp only [encU]
          gi_wp2
          exact hK _ _ (KeepsOthers.refl _) ⟨rfl, unhide HS⟩
        case body =>
          rintro l ⟨⟨m, s⟩, hm0, hs0⟩ a' W ⟨rfl, hb0, hB0, hC⟩
          have hb : (sM (innF ns) (rootL ns.length r) ns.length (m + 1)).getD m false = true := hb0
          have hB : BlkB W R (markL (sM (innF ns) (rootL ns.length r) ns.length (m + 1)) ((innF ns m).take s)) := hB0
          clear hb0 hB0
          have hm : m < ns.length := hm0
          have hs : s < (innF ns m).length := hs0
          have hz := unhide HZ
          have hin := (unhide HSN) m hm
          have e1 : inV ns m s = (innF ns m)[s] := by simp [inV, hs]
          have hxx := hin _ (List.getElem_mem hs)
          have hsn : markL (sM (innF ns) (rootL ns.length r) ns.length (m + 1)) ((innF ns m).take (s + 1)) = (markL (sM (innF ns) (rootL ns.length r) ns.length (m + 1)) ((innF ns m).take s)).set ((innF ns m)[s]).toNat true := by rw [← List.take_append_getElem hs, markL_snoc]
          rw [← e1] at hxx hsn
          dsimp only
          clear e1 hin
          have hlen : (markL (sM (innF ns) (rootL ns.length r) ns.length (m + 1)) ((innF ns m).take s)).length = ns.length := by rw [markL_length, sM_length, rootL_length]
          have HN := hide hsn
          have HBd := hide hb
          clear hsn hb
          generalize inV ns m s = x at *
          obtain ⟨y, rfl⟩ : ∃ y : Nat, x = (y : Int) := ⟨x.toNat, by omega⟩
          have e2 : ((y : Int)).toNat = y := by omega
          rw [e2] at HN
          have hyI : (y : Int) < (ns.length : Int) := by omega
          have cy := hB.cell (i := y) (by omega)
          have fy := hB.frozen y
          have HB5 := hide (hB.set y true)
          have HC5 := hide (hC.set y (.bool true) (by omega) (by omega) (by omega))
          have cb := hC.box
          generalize (markL (sM (innF ns) (rootL ns.length r) ns.length (m + 1)) ((innF ns m).take s)).getD y false = q at *
          clear hB hC hxx e2 hz hlen
          gi_wp2
          exact ⟨KeepsOthers.setCell _ _ _, unhide HBd, by rw [unhide HN]; exact unhide HB5, unhide HC5⟩
        case done =>
          rintro D W hD ⟨hB, hC⟩ hDD
          have cb := hC.box
          go_wp2
          refine ⟨by simp, .inl ⟨_, _, rfl, run_takeDeferred hDD, ?_⟩⟩
          exact ⟨_, results_tmp rfl _ _ _, retF_some (unhide HP) rfl rfl rfl (Nat.le_of_lt hRb) (blkB_putD hB hDD), Kp.of_grown hC.kp (grownBy_putObj' W D _) (fun k e => by cases e; omega)⟩

end Go.Proofs.Ytefohemihiiceaa
