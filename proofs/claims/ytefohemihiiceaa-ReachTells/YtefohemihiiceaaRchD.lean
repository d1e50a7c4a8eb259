
/- By whom each is used: the document's Users. -/
import Derived.Test.YtefohemihiiceaaRchX
import Derived.Test.YtefohemihiiceaaRchL
namespace Go.Proofs.Ytefohemihiiceaa
open Go.RowKit Go.Shelf

theorem rinfoUS : (Try.prog.info? 37).map (fun i => (i.zero, i.size, i.bytes)) = some (some (.slice none 0 0), 1, 24) := by kernel_rfl
theorem rinfoUse : (Try.prog.info? 40).map (fun i => (i.zero, i.size, i.bytes)) = some (some (.agg #[.int .i64 0, .int .i64 0]), 2, 16) := by kernel_rfl
theorem mk_ruses (n : Nat) (hn : n ≤ 1000000) (w : World) :
    (Instr.makeSlice 34 (.int .i64 n) (.int .i64 n)).run Try.prog w = .ok (.slice (some ⟨w.heap.size, 0, none⟩) n n) (w.alloc (.cells (madeCells #[.slice none 0 0] n) 37)) := by
  obtain ⟨i0, hi, hz0, hz1, hz2⟩ := info_parts rinfoUS
  have h := run_make (P := Try.prog) w 34 37 i0 (.slice none 0 0) Try.underlying34 hi hz0 .i64 .i64 n n (by omega) (by omega) (by rw [hz2]; omega) (by omega)
  rw [hz1] at h
  simpa [Value.cells] using h
theorem neRU : (40 : TypeId) ≠ 37 := by decide

/-- 'append(row, use)' as a step of a walk -/
theorem wpList_append_use {ops : Array Oper} {rest : List Oper} {o : Oper} {a : Act} {Q : Exit → Act → World → Prop} (w : World) (hgd : o.guard = none) (s x : Operand) (t e : TypeId)
    (ho : o.op = .call { callee := .builtin .append, args := #[s, x], argTypes := #[t, t] }) (hin : (Try.prog.info? e).map (fun i => (i.zero, i.size, i.bytes)) = some (some (.agg #[.int .i64 0, .int .i64 0]), 2, 16)) (ht : Try.prog.underlying t = some (.slice e))
    (base : Nat) (v : Value) (us : List (Nat × Nat)) (u : Nat × Nat) (ad : Addr) (hs : a.eval s = v) (hx : a.eval x = .slice (some ad) 1 1) (hv : OwnU w e base v us) (hc0 : w.cell? ad = some (.int .i64 (u.1 : Int))) (hc1 : w.cell? (ad.add 1) = some (.int .i64 (u.2 : Int)))
    (hroom : us.length + 1 ≤ 100000000) (hbase : base ≤ w.heap.size)
    (h : ∀ b n k w', OwnU w' e base (.slice b n k) (us ++ [u]) → w.grownBy w' v.ownBlock → ((Value.slice b n k).ownBlock = v.ownBlock ∨ ∀ q, (Value.slice b n k).ownBlock = some q → w.heap.size ≤ q) → wpList Try.prog ops Q rest (a.put o.dst (.slice b n k)) w') : wpList Try.prog ops Q (o :: rest) a w :=
  wpList_plain hgd fun _ hK => by
    obtain ⟨b, n, k, w', hr, h2, h3, h4⟩ := run_append_use (P := Try.prog) w base t o.type e hin ht v us u ad hv hc0 hc1 hroom hbase
    unfold Oper.wp execOp
    simp only [ho, resolve, invoke, builtin, Sem.run_bind, Sem.run_pure, Result.andThen_ok, List.map_toArray, List.map_cons, List.map_nil, hs, hx, hr]
    exact hK _ _ (h b n k w' h2 h3 h4)

set_option maxRecDepth 20000 in
set_option maxHeartbeats 8000000 in
theorem rusers_any (a : Option Addr) (c : Nat) (ns : List Nd) (root : Int) (w : World) (h : Nodes w (.slice a ns.length c) ns) (hr : I64 root) (ht : totM (innF ns) ns.length 0 ≤ 100000000) :
    Calls Try.prog 14 #[.agg #[.slice a ns.length c], .int .i64 root] w fun e w' => RetU 40 37 ns root e w' ∧ Kp w w' := by
  have hroom := h.room
  have H := hide h
  have HT := hide ht
  have HR := hide hr
  clear h ht hr
  have K0 := hide (Kp.alloc w (.cells #[.slice a ns.length c] 24))
  have c0 : (w.alloc (.cells #[.slice a ns.length c] 24)).cell? ⟨w.heap.size, 0, none⟩ = some (.slice a ns.length c) := (Boxed.new w 24 (.slice a ns.length c)).cell
  have hmk := mk_ruses ns.length (by omega)
  have q : ∀ (w : World) (a : Option Addr) (n c n' c' : Nat), (binOp .eql 28 (.slice a n c) (.slice none n' c')).run Try.prog w = .ok (.bool a.isNone) w := fun w a n c n' c' => Lib.run_eql_slice_nil w _ _ a n c n' c' Try.underlying28
  go_enter Try.func14, Try.ntmps14
  go_wp2_with fail
  generalize World.alloc w _ = w1 at *
  refine (rfrom_any a c ns root w1 ((unhide H).keep (unhide K0)) (unhide HR)).mono ?_
  rintro e w2 ⟨hf, k2⟩
  have c2 := k2.cellT c0
  have K2 := hide ((unhide K0).trans k2)
  clear k2 c0 K0
  by_cases hp : FromP ns root
  · obtain ⟨R, rfl, hRB⟩ := retF_known hf hp
    obtain ⟨r, rfl⟩ : ∃ r : Nat, root = (r : Int) := ⟨root.toNat, by have := hp.2.1; omega⟩
    have HP := hide hp
    have HSN := hide hp.1
    have HBR : Hid (BlkB w2 R (fromL (innF ns) ns.length r)) := hRB
    have hwl : w.heap.size < w2.heap.size := lt_of_cell c2
    have hbl := hide (fromL_length (innF ns) ns.length r)
    have HX : Hid (RowsU (w2.alloc (.cells (madeCells #[.slice none 0 0] ns.length) 37)) 40 37 (w2.heap.size + 1) w2.heap.size ns.length (List.replicate ns.length (.slice none 0 0)) (fun j => uM (innF ns) (fun i => (fromL (innF ns) ns.length r).getD i false) ns.length ns.length j)) := (RowsU.start w2 40 37 (w2.heap.size + 1) ns.length).as fun j _ => by rw [uM_top]
    have K3 := hide (Kp.alloc w2 (.cells (madeCells #[.slice none 0 0] ns.length) 37))
    have c3 := (unhide K3).cellT c2
    have hz3 : w2.heap.size + 1 ≤ (w2.alloc (.cells (madeCells #[.slice none 0 0] ns.length) 37)).heap.size := by simp
    have HZ3 := hide hz3
    clear hf hp hRB hz3
    go_wp2
    generalize World.alloc w2 _ = w3 at *
    obtain ⟨C, hC⟩ : ∃ C, C = w2.heap.size := ⟨_, rfl⟩
    have HC := hide hC
    rw [← hC] at HX HZ3 hwl ⊢
    clear hmk hC c3 q
    go_loopw [7] (fun i wr => ∃ m : Nat, m ≤ ns.length ∧ i = .int .i64 ((m : Int) - 1) ∧ Hid (C + 1 ≤ wr.heap.size) ∧ (∃ vs, Hid (RowsU wr 40 37 (C + 1) C ns.length vs (fun j => uM (innF ns) (fun i => (fromL (innF ns) ns.length r).getD i false) ns.length m j))) ∧ Hid (Kp w2 wr)) (fun i _ => (intOf i + 1).toNat)
    case atStart => exact ⟨ns.length, Nat.le_refl _, by first | rfl | go_num, unhide HZ3, ⟨_, unhide HX⟩, unhide K3⟩
    case round =>
      obtain ⟨m, hm, rfl, HZr, ⟨vs, HXr⟩, KR⟩ := hrel
      clear HX HZ3 K3
      have cgr := (unhide KR).cellT c2
      by_cases hp : 0 < m
      · obtain ⟨j, rfl⟩ : ∃ j, m = j + 1 := ⟨m - 1, by omega⟩
        have ej : ((j + 1 : Nat) : Int) - 1 = (j : Int) := by omega
        rw [ej]
        have hj : j < ns.length := by omega
        have hjI : (j : Int) < (ns.length : Int) := by omega
        obtain ⟨b, off, rfl, hb, hnd⟩ := (unhide H).one (Kp.refl w) hj
        obtain ⟨a1, c1, d1, hinn⟩ := hnd.inn
        have hri := hinn.room
        have hi : innF ns j = (ns.getD j ndnil).inn := rfl
        rw [← hi] at d1 hinn hri
        have I1 := hide hinn
        have hin : Hid (∀ x ∈ innF ns j, 0 ≤ x ∧ x < (j : Int)) := (unhide HSN) j hj
        have HS : Hid (∀ y, uM (innF ns) (fun i => (fromL (innF ns) ns.length r).getD i false) ns.length j y = uM (innF ns) (fun i => (fromL (innF ns) ns.length r).getD i false) ns.length (j + 1) y ++ (if (fromL (innF ns) ns.length r).getD j false = true then slotsU (innF ns) y j (innF ns j).length else [])) := fun y => uM_step _ _ y hj
        have HLE : Hid (∀ y s, s + 1 ≤ (innF ns j).length → (uM (innF ns) (fun i => (fromL (innF ns) ns.length r).getD i false) ns.length (j + 1) y ++ slotsU (innF ns) y j (s + 1)).length ≤ totM (innF ns) ns.length 0) := fun y s hs => cntIn_le (r := fun i => (fromL (innF ns) ns.length r).getD i false) hj hs (f := innF ns) y
        have HSL : Hid (∀ y s, slotsU (innF ns) y j (s + 1) = if (innF ns j).getD s (-1) = (y : Int) then slotsU (innF ns) y j s ++ [(j, s)] else slotsU (innF ns) y j s) := fun y s => by
          split
          · rename_i h; exact slotsU_yes h
          · rename_i h; exact slotsU_no h
        have HX0 : Hid (RowsU wr 40 37 (C + 1) C ns.length vs (fun y => uM (innF ns) (fun i => (fromL (innF ns) ns.length r).getD i false) ns.length (j + 1) y ++ slotsU (innF ns) y j 0)) := (unhide HXr).as fun y _ => by simp [slotsU]
        clear ej hnd hi hinn HXr
        generalize hxs : innF ns j = xs at *
        have HXS := hide hxs
        clear hxs
        go_wp2
        go_loopw [8] (fun i w4 => ∃ s : Nat, s ≤ xs.length ∧ i = .int .i64 s ∧ Hid ((fromL (innF ns) ns.length r).getD j false = true ∨ s = 0) ∧ Hid (C + 1 ≤ w4.heap.size) ∧ (∃ vs, Hid (RowsU w4 40 37 (C + 1) C ns.length vs (fun y => uM (innF ns) (fun i => (fromL (innF ns) ns.length r).getD i false) ns.length (j + 1) y ++ slotsU (innF ns) y j s))) ∧ Hid (Kp w2 w4)) (fun i _ => xs.length - (intOf i).toNat)
        case atStart => exact ⟨0, Nat.zero_le _, rfl, .inr rfl, unhide HZr, ⟨vs, unhide HX0⟩, unhide KR⟩
        case round =>
          obtain ⟨s, hs, rfl, HZ, HZ4, ⟨vs4, HX4⟩, K4⟩ := hrel
          clear HX0 cgr
          have cg4 := (unhide K4).cellT c2
          have d4 := ((unhide K2).trans (unhide K4)).cellT d1
          have cj := ((unhide HBR).keep (unhide K4)).cell (i := j) (by rw [unhide hbl]; exact hj)
          by_cases hbj : (fromL (innF ns) ns.length r).getD j false = true
          · rw [hbj] at cj
            by_cases hlt : s < xs.length
            · have hltI : (s : Int) < (xs.length : Int) := by omega
              obtain ⟨_, _, _, a9, e9, he9, hc9⟩ := (unhide I1).keep ((unhide K2).trans (unhide K4))
              cases he9
              obtain ⟨b9, o9, rfl, hb9, hc9⟩ := hc9 (by omega)
              have hcx := hc9 s hlt
              have e1 : xs.getD s 0 = xs[s] := by simp [hlt]
              have e2 : xs.getD s (-1) = xs[s] := by simp [hlt]
              have hxx := (unhide hin) _ (List.getElem_mem hlt)
              have hsl := fun y => (unhide HSL) y s
              rw [e2, ← e1] at hsl
              rw [← e1] at hxx
              clear hc9 e1 e2
              generalize xs.getD s 0 = x at *
              obtain ⟨y, rfl⟩ : ∃ y : Nat, x = (y : Int) := ⟨x.toNat, by omega⟩
              have hyN : y < ns.length := by omega
              have hyI : (y : Int) < (ns.length : Int) := by omega
              have hroomU := (unhide HLE) y s (by omega)
              rw [hsl y, if_pos rfl, ← List.append_assoc, List.length_append] at hroomU
              have HSL2 := hide hsl
              have HRU : Hid ((uM (innF ns) (fun i => (fromL (innF ns) ns.length r).getD i false) ns.length (j + 1) y ++ slotsU (innF ns) y j s).length + 1 ≤ 100000000) := Nat.le_trans hroomU (unhide HT)
              have ka := Kp.alloc wr (.cells #[.int .i64 (j : Int), .int .i64 (s : Int)] 40)
              have hY := hide (((unhide HX4).own y hyN).keep ka)
              have hBK := hide ((unhide HX4).blk.keep ka)
              have hvl : y < vs4.length := by rw [(unhide HX4).len]; exact hyN
              have cC := (unhide hBK).cell hvl
              have cC0 := (unhide HX4).blk.cell hvl
              have fC := (unhide HX4).blk.frozen y
              have hbase : Hid (C + 1 ≤ (wr.alloc (.cells #[.int .i64 (j : Int), .int .i64 (s : Int)] 40)).heap.size) := Nat.le_trans (unhide HZ4) ka.size
              have KA := hide ka
              have u0 : Hid ((wr.alloc (.cells #[.int .i64 (j : Int), .int .i64 (s : Int)] 40)).cell? ⟨wr.heap.size, 0, none⟩ = some (.int .i64 (j : Int))) := cells_blk (heap_newU wr _) 0
              have u1 : Hid ((wr.alloc (.cells #[.int .i64 (j : Int), .int .i64 (s : Int)] 40)).cell? ⟨wr.heap.size, 1, none⟩ = some (.int .i64 (s : Int))) := cells_blk (heap_newU wr _) 1
              clear hsl hroomU ka hxx
              have HV := hide (Eq.refl (vs4.getD y (.slice none 0 0)))
              generalize hvv : vs4.getD y (.slice none 0 0) = v at *
              have HVV := hide hvv
              clear hvv HV
              go_wp2_with (at_builtin; go_must (refine wpList_append_use _ rfl _ _ 37 40 rfl rinfoUse Try.underlying37 (C + 1) v (uM (innF ns) (fun i => (fromL (innF ns) ns.length r).getD i false) ns.length (j + 1) y ++ slotsU (innF ns) y j s) (j, s) ⟨wr.heap.size, 0, none⟩ rfl rfl (unhide hY) (unhide u0) (unhide u1) (unhide HRU) (unhide hbase) ?_); intro b8 n8 k8 w8 ho8 hg8 hf8; have hne8 := (unhide hY).ne neRU (unhide hBK); have hB8 := (unhide hBK).grown hg8 hne8; have c8 := hB8.cell hvl; have f8 := hB8.frozen y; have HO8 := hide ho8; have HG8 := hide hg8; have HF8 := hide hf8; clear ho8 hg8 hf8 hne8 hB8)
              have hst := ((unhide HX4).step neRU (unhide KA) hyN (unhide HO8) (by rw [unhide HVV]; exact unhide HG8) (by rw [unhide HVV]; exact unhide HF8)).as (P' := fun y => uM (innF ns) (fun i => (fromL (innF ns) ns.length r).getD i false) ns.length (j + 1) y ++ slotsU (innF ns) y j (s + 1)) (fun z hz => by
                rw [unhide HSL2 z]
                by_cases e : z = y
                · subst e; rw [if_pos rfl, if_pos rfl, List.append_assoc]
                · rw [if_neg e, if_neg (by omega)])
              have hks : Kp w2 (w8.setCell ⟨C, y, none⟩ (.slice b8 n8 k8)) := Kp.set (Kp.of_grown ((unhide K4).trans (unhide KA)) (unhide HG8) (fun q e => by have := ((unhide hY).block q e).1; have := unhide HC; omega)) (Nat.le_of_eq (unhide HC).symm) _
              refine ⟨⟨s + 1, by omega, by go_num, .inl hbj, ?_, ⟨_, hst⟩, hks⟩, by simp [intOf]; omega⟩
              have h1 := (unhide HG8).size
              have h2 := unhide hbase
              have h3 : (w8.setCell ⟨C, y, none⟩ (.slice b8 n8 k8)).heap.size = w8.heap.size := by simp
              unfold Hid
              omega
            · obtain rfl : s = xs.length := by omega
              have HX6 : Hid (RowsU wr 40 37 (C + 1) C ns.length vs4 (fun y => uM (innF ns) (fun i => (fromL (innF ns) ns.length r).getD i false) ns.length j y)) := (unhide HX4).as fun y _ => by rw [unhide HS y, if_pos hbj]
              go_wp2
              go_roundw
              case rel => exact ⟨j, by omega, rfl, unhide HZ4, ⟨vs4, unhide HX6⟩, unhide K4⟩
              case measure => simp [intOf]
          · have hb0 : (fromL (innF ns) ns.length r).getD j false = false := by cases h : (fromL (innF ns) ns.length r).getD j false with | false => rfl | true => exact absurd h hbj
            obtain rfl : s = 0 := (unhide HZ).resolve_left hbj
            have HX6 : Hid (RowsU wr 40 37 (C + 1) C ns.length vs4 (fun y => uM (innF ns) (fun i => (fromL (innF ns) ns.length r).getD i false) ns.length j y)) := (unhide HX4).as fun y _ => by rw [unhide HS y, if_neg hbj]; simp [slotsU]
            rw [hb0] at cj
            clear HX4
            go_wp2
            go_roundw
            case rel => exact ⟨j, by omega, rfl, unhide HZ4, ⟨vs4, unhide HX6⟩, unhide K4⟩
            case measure => simp [intOf]
      · obtain rfl : m = 0 := by omega
        go_wp2
        go_ret
        exact ⟨⟨ns.length, _, vs, rfl, .inr ⟨unhide HP, rfl, C, C + 1, rfl, unhide HXr⟩⟩, (unhide K2).trans (unhide KR)⟩
  · obtain rfl := retF_null hf hp
    have HN := hide hp
    clear hmk hf hp
    go_wp2
    go_ret
    exact ⟨⟨0, none, [], rfl, .inl ⟨unhide HN, rfl⟩⟩, unhide K2⟩

end Go.Proofs.Ytefohemihiiceaa
