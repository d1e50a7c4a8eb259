
/- How often each is used: the program's Counts. -/
import Derived.Test.YtefohemihiiceaaRchM
namespace Go.Proofs.Ytefohemihiiceaa
open Go.RowKit Go.Shelf
attribute [local go_sem] Oper.semAt_some

/-- what Counts says -/
def CntR (ns : List Nd) (root : Int) (xs : List Int) : Prop := (¬ FromP ns root ∧ xs = []) ∨ (FromP ns root ∧ xs.length = ns.length ∧ ∀ j, j < ns.length → xs.getD j 0 = ((usersL (innF ns) ns.length root.toNat j).length : Int))
def RetC (ns : List Nd) (root : Int) (e : Ending) (w' : World) : Prop := ∃ (xs : List Int) (a : Option Addr), e = .returned (.slice a xs.length xs.length) ∧ CntR ns root xs ∧ (0 < xs.length → ∃ C, a = some ⟨C, 0, none⟩ ∧ Blk w' 3 C xs)

/-- what lies where while Counts goes through the uses, but for the counts -/
structure CxC (w : World) (Bg N R C : Nat) (bs : List Bool) (ra ga : Option Addr) (gn gc : Nat) (W : World) : Prop where
  box : W.cell? ⟨C + 1, 0, none⟩ = some (.slice (some ⟨C, 0, none⟩) N N)
  r : W.cell? ⟨Bg + 1, 0, none⟩ = some (.slice ra N N)
  g : W.cell? ⟨Bg, 0, none⟩ = some (.slice ga gn gc)
  bl : 0 < N → BlkB W R bs
  kp : Kp w W
theorem CxC.put {w : World} {Bg N R C : Nat} {bs : List Bool} {ra ga : Option Addr} {gn gc : Nat} {W : World} (h : CxC w Bg N R C bs ra ga gn gc W) {l : Nat} {r r' : Loop} (hw : w.heap.size ≤ l) (hl : W.heap[l]? = some (.loop r)) : CxC w Bg N R C bs ra ga gn gc (W.putObj l (.loop r')) :=
  ⟨cell_put h.box hl, cell_put h.r hl, cell_put h.g hl, fun hp => blkB_put (h.bl hp) hl, Kp.of_grown h.kp (grownBy_putObj' W l _) (fun k e => by cases e; exact hw)⟩
theorem CxC.keep {w : World} {Bg N R C : Nat} {bs : List Bool} {ra ga : Option Addr} {gn gc : Nat} {W W' : World} (h : CxC w Bg N R C bs ra ga gn gc W) (k : Kp W W') : CxC w Bg N R C bs ra ga gn gc W' :=
  ⟨k.cellT h.box, k.cellT h.r, k.cellT h.g, fun hp => (h.bl hp).keep k, h.kp.trans k⟩
theorem blkB_set {W : World} {B B' i : Nat} {bs : List Bool} {v : Value} (h : BlkB W B bs) (hne : B ≠ B') : BlkB (W.setCell ⟨B', i, none⟩ v) B bs := by
  unfold BlkB
  rw [Below.heap_setCell W ⟨B', i, none⟩ v B hne]
  exact h
theorem CxC.set {w : World} {Bg N R C : Nat} {bs : List Bool} {ra ga : Option Addr} {gn gc : Nat} {W : World} (h : CxC w Bg N R C bs ra ga gn gc W) (i : Nat) (v : Value) (h1 : C < Bg) (h2 : 0 < N → R ≠ C) (h3 : w.heap.size ≤ C) : CxC w Bg N R C bs ra ga gn gc (W.setCell ⟨C, i, none⟩ v) :=
  ⟨cell_ne v (by omega) h.box, cell_ne v (by omega) h.r, cell_ne v (by omega) h.g, fun hp => blkB_set (h.bl hp) (h2 hp), Kp.set h.kp h3 v⟩
theorem blk_put {W : World} {l B : Nat} {e : TypeId} {r : Loop} {o : Obj} {xs : List Int} (h : Blk W e B xs) (hl : W.heap[l]? = some (.loop r)) : Blk (W.putObj l o) e B xs := by
  unfold Blk at h ⊢
  rw [World.putObj_heap_other (fun e => by rw [e, hl] at h; cases h)]
  exact h
theorem blk_putD {W : World} {l B : Nat} {e : TypeId} {o : Obj} {d : List Deferred} {xs : List Int} (h : Blk W e B xs) (hl : W.heap[l]? = some (.deferred (some d))) : Blk (W.putObj l o) e B xs := by
  unfold Blk at h ⊢
  rw [World.putObj_heap_other (fun e => by rw [e, hl] at h; cases h)]
  exact h
/-- the counts so far: all uses by nodes from m on, and by s inputs of the node below -/
def CntAt (f : Nat → List Int) (r : Nat → Bool) (N m : Nat) (xs : List Int) : Prop := xs.length = N ∧ ∀ j, j < N → xs.getD j 0 = ((uM f r N m j).length : Int)
def CntIn (f : Nat → List Int) (r : Nat → Bool) (N m s : Nat) (xs : List Int) : Prop := xs.length = N ∧ ∀ j, j < N → xs.getD j 0 = ((uM f r N (m + 1) j ++ slotsU f j m s).length : Int)
theorem cntIn_zero {f : Nat → List Int} {r : Nat → Bool} {N m : Nat} {xs : List Int} (h : CntAt f r N (m + 1) xs) : CntIn f r N m 0 xs := ⟨h.1, fun j hj => by rw [h.2 j hj]; simp [slotsU]⟩
theorem cntIn_end {f : Nat → List Int} {r : Nat → Bool} {N m : Nat} {xs : List Int} (hm : m < N) (hr : r m = true) (h : CntIn f r N m (f m).length xs) : CntAt f r N m xs := ⟨h.1, fun j hj => by rw [h.2 j hj, uM_step f r j hm, if_pos hr]⟩
theorem cntAt_skip {f : Nat → List Int} {r : Nat → Bool} {N m : Nat} {xs : List Int} (hm : m < N) (hr : r m = false) (h : CntAt f r N (m + 1) xs) : CntAt f r N m xs := ⟨h.1, fun j hj => by rw [h.2 j hj, uM_step f r j hm, if_neg (by rw [hr]; decide), List.append_nil]⟩
theorem cntIn_succ {f : Nat → List Int} {r : Nat → Bool} {N m s y : Nat} {xs : List Int} (hs : s < (f m).length) (hy : (f m).getD s 0 = (y : Int)) (h : CntIn f r N m s xs) : CntIn f r N m (s + 1) (xs.set y (xs.getD y 0 + 1)) := by
  have e : (f m).getD s (-1) = (y : Int) := by
    rw [← hy]
    simp [hs]
  refine ⟨by rw [List.length_set]; exact h.1, fun j hj => ?_⟩
  by_cases e2 : y = j
  · subst e2
    rw [getD_set_same (by rw [h.1]; exact hj), h.2 y hj, slotsU_yes e, ← List.append_assoc, List.length_append (bs := [_])]
    simp
  · rw [slotsU_no (by rw [e]; omega), ← h.2 j hj]
    simp [List.getD, List.getElem?_set_ne e2]
theorem cntIn_le {f : Nat → List Int} {r : Nat → Bool} {N m s : Nat} (hm : m < N) (hs : s ≤ (f m).length) (j : Nat) : (uM f r N (m + 1) j ++ slotsU f j m s).length ≤ totM f N 0 := by
  rw [List.length_append]
  have h1 := uM_le f r N j (m + 1) (by omega)
  have h2 := slotsU_le f j m s
  have h3 := totM_step f hm
  have h4 := totM_le f N m (by omega)
  omega
theorem cntAt_top (f : Nat → List Int) (r : Nat → Bool) (N : Nat) : CntAt f r N N (List.replicate N 0) := ⟨by simp, fun j hj => by rw [uM_top]; simp [List.getD, hj]⟩
/-- while Counts is in node m and has gone through s of its inputs -/
def SC (w : World) (Bg N R C : Nat) (bs : List Bool) (ra ga : Option Addr) (gc : Nat) (ns : List Nd) (m s : Nat) (W : World) : Prop :=
  bs.getD m false = true ∧ (∃ xs, Blk W 3 C xs ∧ CntIn (innF ns) (fun i => bs.getD i false) N m s xs) ∧ CxC w Bg N R C bs ra ga ns.length gc W
def TC (w : World) (Bg N R C : Nat) (bs : List Bool) (ra ga : Option Addr) (gc : Nat) (ns : List Nd) (m : Nat) (W : World) : Prop :=
  (∃ xs, Blk W 3 C xs ∧ CntAt (innF ns) (fun i => bs.getD i false) N m xs) ∧ CxC w Bg N R C bs ra ga ns.length gc W

set_option maxRecDepth 20000 in
set_option maxHeartbeats 8000000 in
theorem counts_any (a : Option Addr) (c : Nat) (ns : List Nd) (root : Int) (w : World) (h : Nodes w (.slice a ns.length c) ns) (hr : I64 root) (ht : totM (innF ns) ns.length 0 ≤ 100000000) :
    Calls Try.prog 12 #[.agg #[.slice a ns.length c], .int .i64 root] w fun e w' => RetC ns root e w' ∧ Kp w w' := by
  have hroom := h.room
  have H := hide h
  have HT := hide ht
  clear h ht
  have HR := hide hr
  clear hr
  have K0 := hide (Kp.alloc w (.cells #[.slice a ns.length c] 24))
  have c0 : (w.alloc (.cells #[.slice a ns.length c] 24)).cell? ⟨w.heap.size, 0, none⟩ = some (.slice a ns.length c) := (Boxed.new w 24 (.slice a ns.length c)).cell
  refine (callsIn_wide (n := 3)).1 ?_
  refine callsIn_of_wp_marks Try.func12 rfl trivial ?_ rfl
  refine wpIn_wide.2 ?_
  simp only [Try.ntmps12, List.size_toArray, List.length_cons, List.length_nil, Nat.reduceAdd, Nat.reduceSub, Array.replicate_succ, Array.replicate_zero, List.push_toArray, List.append_toArray, List.nil_append, List.cons_append]
  go_wp2_with fail
  generalize World.alloc w _ = w1 at *
  refine (from_any a c ns root w1 ((unhide H).keep (unhide K0)) (unhide HR)).mono ?_
  rintro e w2 ⟨⟨bs, ra, rfl, hbs, hra⟩, k2⟩
  have c2 := k2.cellT c0
  have K2 := hide ((unhide K0).trans k2)
  have HBS := hide hbs
  have HRA := hide hra
  have hNl : bs.length ≤ ns.length := by
    rcases hbs with ⟨_, rfl⟩ | ⟨_, rfl⟩
    · simp
    · rw [fromL_length]; exact Nat.le_refl _
  have hmk := mk_ints bs.length (by omega)
  have hzz : w1.heap.size ≤ w2.heap.size := k2.size
  have hRb : w.heap.size < w2.heap.size := lt_of_cell c2
  clear hbs hra k2 c0 K0
  generalize hN : bs.length = N at *
  have HN := hide hN
  have hK3 := (Kp.alloc w2 (.cells (madeCells #[.int .i64 0] N) 3)).trans (Kp.alloc _ (.cells #[.slice (some ⟨w2.heap.size, 0, none⟩) N N] 32))
  have c3 := hK3.cellT c2
  have HB3 := hide ((Blk.made w2 3 N).keep (Kp.alloc _ (.cells #[.slice (some ⟨w2.heap.size, 0, none⟩) N N] 32)))
  have K3 := hide ((unhide K2).trans hK3)
  have HK := hide hK3
  have hz3 : ((w2.alloc (.cells (madeCells #[.int .i64 0] N) 3)).alloc (.cells #[.slice (some ⟨w2.heap.size, 0, none⟩) N N] 32)).heap.size = w2.heap.size + 2 := by simp
  have d3 : ((w2.alloc (.cells (madeCells #[.int .i64 0] N) 3)).alloc (.cells #[.slice (some ⟨w2.heap.size, 0, none⟩) N N] 32)).cell? ⟨w2.heap.size + 1, 0, none⟩ = some (.slice (some ⟨w2.heap.size, 0, none⟩) N N) := by
    have := (Boxed.new (w2.alloc (.cells (madeCells #[.int .i64 0] N) 3)) 32 (.slice (some ⟨w2.heap.size, 0, none⟩) N N)).cell
    rwa [World.size_alloc] at this
  clear hK3 hN
  go_wp2_with fail
  generalize (w2.alloc _).alloc _ = w3 at *
  refine (uses_any a ra ns.length c N N w3).mono ?_
  rintro e w4 ⟨rfl, hw4⟩
  have ka : Kp w3 w4 := by rw [hw4]; exact (Kp.alloc _ _).trans (Kp.alloc _ _)
  have cg4 : w4.cell? ⟨w3.heap.size, 0, none⟩ = some (.slice a ns.length c) := by
    rw [hw4]
    exact (Kp.alloc _ _).cellT (Boxed.new w3 24 (.slice a ns.length c)).cell
  have cr4 : w4.cell? ⟨w3.heap.size + 1, 0, none⟩ = some (.slice ra N N) := by
    rw [hw4]
    have := (Boxed.new (w3.alloc (.cells #[.slice a ns.length c] 24)) 28 (.slice ra N N)).cell
    rwa [World.size_alloc] at this
  have hz4 : w3.heap.size ≤ w4.heap.size := ka.size
  obtain ⟨R, HRR⟩ : ∃ R, Hid (0 < N → ra = some ⟨R, 0, none⟩ ∧ R < w2.heap.size ∧ BlkB w2 R bs) := by
    rcases unhide HRA with ⟨h1, h2⟩ | ⟨h1, B, h2, h3, h4⟩
    · refine ⟨0, fun hp => ?_⟩
      have := unhide HN
      rw [h1] at this
      simp at this
      omega
    · exact ⟨B, fun _ => ⟨h2, h4.lt, h4⟩⟩
  have HF : Hid (0 < N → FromP ns root ∧ SoundN ns ∧ N = ns.length ∧ bs = fromL (innF ns) ns.length root.toNat) := fun hp => by
    rcases unhide HBS with ⟨h1, h2⟩ | ⟨h1, h2⟩
    · have := unhide HN
      rw [h2] at this
      simp at this
      omega
    · refine ⟨h1, h1.1, ?_, h2⟩
      rw [← unhide HN, h2, fromL_length]
  have HE : Hid (¬ 0 < N → ¬ FromP ns root) := fun hp h1 => by
    rcases unhide HBS with ⟨h2, _⟩ | ⟨_, h2⟩
    · exact h2 h1
    · have h3 := unhide HN
      rw [h2, fromL_length] at h3
      have := h1.2.1
      have := h1.2.2
      omega
  obtain ⟨C, hC⟩ : ∃ C, C = w2.heap.size := ⟨_, rfl⟩
  have HC4 : Hid (CxC w w3.heap.size N R C bs ra a ns.length c w4) := ⟨by rw [hC]; exact ka.cellT d3, cr4, cg4, fun hp => ((unhide HRR hp).2.2.keep (unhide HK)).keep ka, (unhide K3).trans ka⟩
  have HB4 : Hid (Blk w4 3 C (List.replicate N 0)) := by rw [hC]; exact (unhide HB3).keep ka
  have HRC : Hid (0 < N → R ≠ C) := fun hp => by have := (unhide HRR hp).2.1; omega
  obtain ⟨Bg, hBg⟩ : ∃ Bg, Bg = w3.heap.size := ⟨_, rfl⟩
  rw [← hBg] at HC4 hz4 hz3
  rw [← hC] at hz3 hRb
  have hwC : w.heap.size ≤ C := Nat.le_of_lt hRb
  have hCB : C < Bg := by omega
  rw [← hBg, ← hC]
  clear hw4 cg4 cr4 ka HB3 K3 c3 d3 hBg hz3 HRA HBS HK hC
  have HZ4 := hide hz4
  clear hz4
  go_wp2_with fail
  refine (wpIn_wide (n := 3)).1 ?_
  refine told_range (F := Fence.wide) (n := 3) rfl (by omega) (gf := 19) (lb := #[.pointer (some ⟨Bg + 1, 0, none⟩), .pointer (some ⟨Bg, 0, none⟩)]) rfl trivial (enters_of Try.func19 (by kernel_rfl) rfl)
    (ι := Us N ns) (encU ns N) (fun _ => rfl) (TC w Bg N R C bs ra a c ns N) (TC w Bg N R C bs ra a c ns 0)
    (fun i W => SC w Bg N R C bs ra a c ns i.1.1 i.1.2 W) (fun i W => SC w Bg N R C bs ra a c ns i.1.1 (i.1.2 + 1) W)
    (fun i a' W => a' = { tmps := (Value.agg #[.slice a ns.length c] :: .int .i64 root :: .pointer (some ⟨w.heap.size, 0, none⟩) :: undef :: .slice none 0 0 :: .slice ra N N :: .pointer (some ⟨C + 1, 0, none⟩) :: .int .i64 (inV ns i.1.1 i.1.2) :: .agg #[.slice a ns.length c] :: .int .i64 root :: .slice ra N N :: .slice ra N N :: .int .i64 (N : Int) :: .slice (some ⟨C, 0, none⟩) N N :: .agg #[.slice a ns.length c] :: .slice ra N N :: .func (.func 19) #[] #[.pointer (some ⟨Bg + 1, 0, none⟩), .pointer (some ⟨Bg, 0, none⟩)] :: .int .i64 (inV ns i.1.1 i.1.2) :: .agg #[.int .i64 (i.1.1 : Int), .int .i64 (i.1.2 : Int)] :: undef :: undef :: undef :: undef :: undef :: undef :: undef :: []).toArray, defers := [] } ∧ SC w Bg N R C bs ra a c ns i.1.1 i.1.2 W)
    ?hit ?h0 ?hx ?hs ?ht ?assign ?body ?done
  case hit =>
    intro l A hY W hT hA
    refine uses1_in Fence.wide 2 trivial rfl (by omega) l (Bg + 1) Bg N R c ra a ns w (unhide H) hNl (fun hp => (unhide HRR hp).1)
      (TC w Bg N R C bs ra a c ns) (fun m s W => SC w Bg N R C bs ra a c ns m s W) A
      (fun m W h => ⟨h.2.r, h.2.g, h.2.kp⟩) (fun m s W h => ⟨h.2.2.r, h.2.2.g, h.2.2.kp⟩) ?_ ?_ (fun m s W hm hs hS hA => hY ⟨(m, s), hm, hs⟩ W hS hA) W hT hA
    · rintro m W hm ⟨⟨xs, hX, hx⟩, hC⟩
      have hl := unhide HN
      exact ⟨_, (hC.bl (by omega)).cell (by omega), fun h => ⟨h, ⟨xs, hX, cntIn_zero hx⟩, hC⟩, fun h => ⟨⟨xs, hX, cntAt_skip hm h hx⟩, hC⟩⟩
    · rintro m W hm ⟨hb, ⟨xs, hX, hx⟩, hC⟩
      exact ⟨⟨xs, hX, cntIn_end hm hb hx⟩, hC⟩
  case h0 =>
    intro o r9
    have k := (Kp.alloc w4 (.deferred o)).trans (Kp.alloc _ (.loop r9))
    exact ⟨⟨_, (unhide HB4).keep k, cntAt_top _ _ _⟩, (unhide HC4).keep k⟩
  case hx =>
    rintro i a' W l r9 r' hl hh ⟨e, h1, ⟨xs, h2, h3⟩, h4⟩
    have := unhide HZ4
    exact ⟨e, h1, ⟨xs, blk_put h2 hh, h3⟩, h4.put (by omega) hh⟩
  case hs =>
    rintro i W l r9 r' hl hh ⟨h1, ⟨xs, h2, h3⟩, h4⟩
    have := unhide HZ4
    exact ⟨h1, ⟨xs, blk_put h2 hh, h3⟩, h4.put (by omega) hh⟩
  case ht =>
    rintro W l r9 r' hl hh ⟨⟨xs, h2, h3⟩, h4⟩
    have := unhide HZ4
    exact ⟨⟨xs, blk_put h2 hh, h3⟩, h4.put (by omega) hh⟩
  case assign =>
    intro l i W K hS hK
    have HS := hide hS
    obtain ⟨⟨m, s⟩, hm, hs⟩ := i
    dsimp only [encU]
    gi_wp2
    exact hK _ _ (KeepsOthers.refl _) ⟨rfl, unhide HS⟩
  case body =>
    rintro l ⟨⟨m, s⟩, hm0, hs0⟩ a' W ⟨rfl, hb0, ⟨xs, hX, hx0⟩, hC⟩
    have hm : m < N := hm0
    have hs : s < (innF ns m).length := hs0
    have hb : bs.getD m false = true := hb0
    have hx : CntIn (innF ns) (fun i => bs.getD i false) N m s xs := hx0
    clear hb0 hx0
    have hF := unhide HF (by omega)
    have e1 : inV ns m s = (innF ns m)[s] := by simp [inV, hs]
    have hxx := hF.2.1 m (by omega) _ (List.getElem_mem hs)
    rw [← e1] at hxx
    clear e1
    have hsn := fun (y : Nat) (h : inV ns m s = (y : Int)) => cntIn_succ (y := y) hs h hx
    have htot : totM (innF ns) N 0 ≤ 100000000 := by rw [hF.2.2.1]; exact unhide HT
    have hle := fun j => cntIn_le (r := fun i => bs.getD i false) hm (Nat.le_of_lt hs) (f := innF ns) j
    have hxl := hx.1
    have hxv := hx.2
    dsimp only
    generalize inV ns m s = x at *
    obtain ⟨y, rfl⟩ : ∃ y : Nat, x = (y : Int) := ⟨x.toNat, by omega⟩
    have hsn := hsn y rfl
    have hyN : y < N := by omega
    have hyI : (y : Int) < (N : Int) := by omega
    have hv := hxv y hyN
    have hl2 := hle y
    have cy := hX.cell (i := y) (by omega)
    have fy := hX.frozen y
    rw [hv] at cy hsn
    generalize (uM (innF ns) (fun i => bs.getD i false) N (m + 1) y ++ slotsU (innF ns) y m s).length = q at *
    have hq : (q : Int) ≤ 100000000 := by omega
    have HB5 := hide (hX.set y ((q : Int) + 1))
    have HC5 := hide (hC.set y (.int .i64 ((q : Int) + 1)) hCB (unhide HRC) hwC)
    have cb := hC.box
    have HSN := hide hsn
    have HBd := hide hb
    clear hX hC hxx hxv hle hv hl2 hsn hF hx hb htot hxl
    gi_wp2
    exact ⟨KeepsOthers.setCell _ _ _, unhide HBd, ⟨_, unhide HB5, unhide HSN⟩, unhide HC5⟩
  case done =>
    rintro D W hD ⟨⟨xs, hX, hx⟩, hC⟩ hDD
    have cb := hC.box
    have hz := unhide HZ4
    go_wp2
    refine ⟨by simp, .inl ⟨_, _, rfl, run_takeDeferred hDD, ?_⟩⟩
    refine ⟨_, results_tmp rfl _ _ _, ⟨xs, some ⟨C, 0, none⟩, by rw [hx.1]; rfl, ?_, fun _ => ⟨C, rfl, blk_putD hX hDD⟩⟩, Kp.of_grown hC.kp (grownBy_putObj' W D _) (fun k e => by cases e; omega)⟩
    by_cases hp : 0 < N
    · obtain ⟨h1, h2, h3, h4⟩ := unhide HF hp
      refine .inr ⟨h1, by rw [hx.1, h3], fun j hj => ?_⟩
      rw [hx.2 j (by omega), h4, h3]
      rfl
    · exact .inl ⟨unhide HE hp, List.eq_nil_of_length_eq_zero (by rw [hx.1]; omega)⟩

end Go.Proofs.Ytefohemihiiceaa
