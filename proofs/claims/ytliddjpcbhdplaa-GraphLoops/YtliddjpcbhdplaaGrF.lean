
/- The contract of count. -/
import Derived.Test.YtliddjpcbhdplaaGrE
import Derived.RegionTactic
import Derived.BigRegion
namespace Go.Proofs.Ytliddjpcbhdplaa
open Go.RowKit Go.Shelf
attribute [local go_sem] Oper.semAt_some

def lft (left : Lit → Bool) (k : Nat) : Bool := left (.int .i64 (k : Int))

/-- what the count keeps in memory while it goes through the graphs of one depth -/
structure CI (w : World) (B7 Bn Bt r n : Nat) (D : DataW Unit) (left : Lit → Bool) (cnt : Nat) (W : World) (D1 : DataW Unit) : Prop where
  kp : Kp w W
  b7 : Boxed W B7 81 (.map (some Bn))
  own : OwnsM W Bn n D1
  rng : W.ranges Try.prog 3 (plainElem (H := Unit) Try.prog 3) Bt r n D left cnt
  has : ∀ kl, left kl = true → Maps.has D kl = true

theorem wrap_nat {n : Nat} (h : n ≤ 9223372036854775807) : wrap64 (n : Int) = (n : Int) := by
  unfold wrap64
  omega
theorem CI.turn {w : World} {B7 Bn Bt r n B : Nat} {D : DataW Unit} {left : Lit → Bool} {cnt : Nat} {W W' : World} {D1 : DataW Unit} (h : CI w B7 Bn Bt r n D left cnt W D1) {row : Option Nat} (hg : W.grownBy W' row)
    (hr : ∀ q, row = some q → B ≤ q ∧ ∃ o : Obj, W.heap[q]? = some o ∧ o.isCells = false) (h1 : Bt < B) (h2 : Bn < B) (h3 : r < B) (h4 : w.heap.size ≤ B) : CI w B7 Bn Bt r n D left cnt W' D1 := by
  have ne : ∀ {b : Nat}, b < B → some b ≠ row := fun hb e => by have := (hr _ e.symm).1; omega
  refine ⟨Kp.of_grown h.kp hg (fun k e => Nat.le_trans h4 (hr k e).1), h.b7.kept hg (fun e => ?_), h.own.kept hg (ne h2), h.rng.kept hg (ne h1) (ne h3), h.has⟩
  obtain ⟨_, o, ho, hc⟩ := hr B7 e.symm
  rw [show W.heap[B7]? = _ from h.b7] at ho
  cases ho
  cases hc
theorem CI.mapped {w : World} {B7 Bn Bt r n : Nat} {D : DataW Unit} {left : Lit → Bool} {cnt : Nat} {W W' : World} {D1 D2 : DataW Unit} (h : CI w B7 Bn Bt r n D left cnt W D1) (hA : w.heap.size ≤ Bn ∧ Bn < B7 ∧ B7 < r ∧ Bt < Bn) (hg : W.grownBy W' (some Bn)) (ho : OwnsM W' Bn n D2) : CI w B7 Bn Bt r n D left cnt W' D2 :=
  ⟨Kp.of_grown h.kp hg (fun k e => by cases e; omega), h.b7.kept hg (fun e => by cases e; omega), ho, h.rng.kept hg (fun e => by cases e; omega) (fun e => by cases e; omega), h.has⟩
theorem lv_rch {gs : List (List Nd)} {g : Int} : ∀ (d k : Nat), k < gs.length → 0 < lv gs g d k → Rch gs g k
  | 0, k, _, h => by
    simp only [lv] at h
    split at h
    · rename_i e
      rw [e]
      exact .base
    · omega
  | d + 1, k, _, h => by
    simp only [lv] at h
    obtain ⟨i, hi, hp⟩ := sumN_pos h
    have h1 : 0 < lv gs g d i := Nat.pos_of_mul_pos_right hp
    have h2 : 0 < cnt gs i k := Nat.pos_of_mul_pos_left hp
    refine .step (lv_rch d i hi h1) ⟨by omega, by omega⟩ ?_
    unfold cnt at h2
    unfold tg
    rw [show ((i : Int).toNat) = i by omega]
    exact List.count_pos_iff.1 h2
theorem zeroI (w : World) : (zeroValue 3).run Try.prog w = .ok (.int .i64 0) w := by kernel_rfl
theorem lit_int_eq {H : Type} {k : IntKind} {a b : Int} (h : (DataW.lit (.int k a) : DataW H) = .lit (.int k b)) : a = b := by
  injection h with h
  injection h
theorem put_step {n j q o Bn : Nat} {v1 : World} {D : DataW Unit} {T : Nat → Nat} {pre : List Int} {X : Int} (hM : MapF n D (fun i => sat (T i + o * pre.count (i : Int)))) (hD : Maps.IsMap D) (hj : j < n) (hq : q = sat (T j + o * pre.count (j : Int)))
    (hX : X = ((sat (q + o) : Nat) : Int)) (ho : 0 < o) (h : v1.ownsMap Try.prog 3 (plainElem (H := Unit) Try.prog 3) Bn (n + 1) (D.put (.int .i64 (j : Int)) (.lit (.int .i64 X)))) :
    OwnsM v1 Bn n (D.put (.int .i64 (j : Int)) (.lit (.int .i64 X))) ∧ MapF n (D.put (.int .i64 (j : Int)) (.lit (.int .i64 X))) (fun i => sat (T i + o * (pre ++ [(j : Int)]).count (i : Int))) := by
  subst hX
  have h1 := (hM.put hD hj (show 0 < sat (q + o) from sat_pos.2 (by omega))).ext (g := fun i => sat (T i + o * (pre ++ [(j : Int)]).count (i : Int))) (fun i _ => by
    rw [List.count_append]
    by_cases e : i = j
    · subst e
      rw [if_pos rfl, hq, sat_add]
      simp [Nat.mul_add, Nat.add_assoc]
    · rw [if_neg e]
      have : ¬ ((j : Int) = (i : Int)) := by omega
      simp [this])
  exact ⟨OwnsM.tight h h1, h1⟩
theorem mul_bound {a b : Nat} (ha : a ≤ 4097) (hb : b ≤ 4097) : a * b ≤ 16785409 := Nat.mul_le_mul ha hb
theorem wrap_mul {a b : Nat} (ha : a ≤ 4097) (hb : b ≤ 4097) : wrap64 ((a : Int) * (b : Int)) = ((a * b : Nat) : Int) := by
  have h := mul_bound ha hb
  rw [← Int.natCast_mul]
  generalize a * b = z at *
  exact wrap_nat (by omega)
theorem wrap_sum {a b c : Nat} (ha : a ≤ 4097) (hb : b ≤ 4097) (hc : c ≤ 4097) : wrap64 ((c : Int) + ((a * b : Nat) : Int)) = ((c + a * b : Nat) : Int) := by
  have h := mul_bound ha hb
  generalize a * b = z at *
  rw [← Int.natCast_add]
  exact wrap_nat (by omega)
theorem CI.grow {w : World} {B7 Bn Bt r n : Nat} {D : DataW Unit} {left : Lit → Bool} {cnt : Nat} {W W' : World} {D1 : DataW Unit} (h : CI w B7 Bn Bt r n D left cnt W D1) (hk : Kp W W') : CI w B7 Bn Bt r n D left cnt W' D1 := by
  have g : W.grownBy W' none := ⟨hk.os, hk.tape, hk.output, hk.size, fun k h _ => hk.block k h⟩
  exact ⟨h.kp.trans hk, h.b7.kept g (by simp), h.own.kept g (by simp), h.rng.kept g (by simp) (by simp), h.has⟩
theorem CI.next {w : World} {B7 Bn Bt r n : Nat} {D : DataW Unit} {left left' : Lit → Bool} {cnt cnt' : Nat} {W W' : World} {D1 : DataW Unit} (h : CI w B7 Bn Bt r n D left cnt W D1) (hA : w.heap.size ≤ Bn ∧ Bn < B7 ∧ B7 < r ∧ Bt < Bn)
    (hg : W.grownBy W' (some r)) (hr : W'.ranges Try.prog 3 (plainElem (H := Unit) Try.prog 3) Bt r n D (fun z => left z && left' z) cnt') : CI w B7 Bn Bt r n D (fun z => left z && left' z) cnt' W' D1 :=
  ⟨Kp.of_grown h.kp hg (fun k e => by cases e; omega), h.b7.kept hg (fun e => by cases e; omega), h.own.kept hg (fun e => by cases e; omega), hr, fun kl hk => h.has kl (by simp only [Bool.and_eq_true] at hk; exact hk.1)⟩

set_option maxRecDepth 100000 in
set_option maxHeartbeats 8000000 in
theorem count_any (a : Option Addr) (c : Nat) (gs : List (List Nd)) (g : Nat) (w : World) (h : Graphs w (.slice a gs.length c) gs) (hg : g < gs.length) (hw : WholeP gs (g : Int)) :
    Calls Try.prog 21 #[.slice a gs.length c, .int .i64 (g : Int)] w fun e w' => ∃ dp : Bool, e = .returned (.tuple #[.int .i64 (sat (wk gs g 9) : Int), .bool dp]) ∧ (dp = true ↔ DeepP gs g) ∧ Kp w w' := by
  have hroom := h.room
  have H := hide h
  have HW := hide hw
  have hwf : (Lit.int .i64 (g : Int)).wf = true := wf_I64 (by unfold I64; omega)
  clear h hw
  have hmm := @run_makeMap Try.prog
  refine (callsIn_wide (n := 3)).1 ?_
  refine callsIn_of_wp_marks Try.func21 rfl trivial ?_ rfl
  refine wpIn_wide.2 ?_
  simp only [Try.ntmps21, List.size_toArray, List.length_cons, List.length_nil, Nat.reduceAdd, Nat.reduceSub, Array.replicate_succ, Array.replicate_zero, List.push_toArray, List.append_toArray, List.nil_append, List.cons_append]
  go_wp2_with (refine wpList_insert_own _ rfl _ _ _ 81 rfl 3 3 law85 Try.underlying81 (plainElem (H := Unit) Try.prog 3) _ 0 (.map []) rfl (World.ownsMap_made _ _ _ _) (by decide) _ _ _ rfl rfl (Maps.keyOf_int_mk Try.underlying3 hwf) (.lit (.int .i64 1)) [] (plainElem_int Try.underlying3 (by decide)) ?_; intro w1 hown1 hgrow1)
  have k1 : Kp w w1 := Kp.of_grown (Kp.alloc w _) hgrow1 (fun k e => by cases e; exact Nat.le_refl _)
  have hm1 : MapF gs.length ((DataW.map []).put (.int .i64 (g : Int)) (.lit (.int .i64 1))) (fun k => sat (lv gs g 0 k)) := by
    refine ((MapF.empty gs.length).put Maps.isMap_empty hg (show 0 < 1 by omega)).ext (fun k hk => ?_)
    simp only [lv]
    by_cases e : k = g
    · subst e; simp [sat]
    · simp [e, sat, show ¬ ((k : Int) = (g : Int)) by omega]
  have ho1 := hide (OwnsM.tight hown1 hm1)
  have hm1' := hide hm1
  clear hown1 hgrow1 hm1
  refine wp_loop_ghost_k (fun m a' w' => ∃ (u7 u8 u9 u15 u16 u17 u18 u19 u20 u21 u22 u23 u24 u25 u26 u27 u28 u29 u30 u31 u32 u33 u34 u35 u36 u37 u38 u39 u40 u50 u51 : Value) (ds : List Deferred) (d Bt : Nat) (D : DataW Unit), a' = { tmps := (.slice a gs.length c :: .int .i64 (g : Int) :: undef :: undef :: .int .i64 (sat (wk gs g d) : Int) :: .bool false :: .map (some Bt) :: u7 :: u8 :: u9 :: undef :: .map (some w.heap.size) :: .int .i64 (g : Int) :: .map (some w.heap.size) :: .int .i64 (d : Int) :: u15 :: u16 :: u17 :: u18 :: u19 :: u20 :: u21 :: u22 :: u23 :: u24 :: u25 :: u26 :: u27 :: u28 :: u29 :: u30 :: u31 :: u32 :: u33 :: u34 :: u35 :: u36 :: u37 :: u38 :: u39 :: u40 :: undef :: undef :: undef :: undef :: undef :: undef :: undef :: undef :: undef :: u50 :: u51 :: undef :: undef :: undef :: undef :: []).toArray, defers := ds } ∧ Kp w w' ∧ w.heap.size ≤ Bt ∧ OwnsM w' Bt gs.length D ∧ MapF gs.length D (fun k => sat (lv gs g d k)) ∧ Marks w.heap.size w' ds ∧ d + m = 9) 9 ?_ ?_
  · exact ⟨_, _, _, _, _, _, _, _, _, _, _, _, _, _, _, _, _, _, _, _, _, _, _, _, _, _, _, _, _, _, _, [], 0, w.heap.size, _, rfl, k1, Nat.le_refl _, unhide ho1, unhide hm1', trivial, rfl⟩
  · rintro m a' W ⟨u7, u8, u9, u15, u16, u17, u18, u19, u20, u21, u22, u23, u24, u25, u26, u27, u28, u29, u30, u31, u32, u33, u34, u35, u36, u37, u38, u39, u40, u50, u51, ds, d, Bt, D, rfl, hk, hBt, hO, hF, hM, hd⟩ J K hJ hK
    have HO := hide hO
    have HF := hide hF
    have HM := hide hM
    have HK := hide hk
    have hz := hk.size
    clear ho1 hm1' k1 hO hF hM hk
    by_cases hd9 : d < 9
    · have hdI : (d : Int) < 9 := by omega
      go_wp2_with (at_range; refine wpList_range_own _ rfl _ 81 rfl 3 3 law85 Try.underlying81 (plainElem (H := Unit) Try.prog 3) Bt gs.length D rfl (((unhide HO).alloc _).alloc _) ?_; intro w0 hrg0 hg0 hs0)
      have hb7 : Boxed ((W.alloc (.map #[] 0)).alloc (.cells #[.map (some W.heap.size)] 81)) (W.heap.size + 1) 81 (.map (some W.heap.size)) := by
        have := Boxed.new (W.alloc (.map #[] 0)) 81 (.map (some W.heap.size))
        rw [World.size_alloc] at this
        exact this
      have hbn : OwnsM ((W.alloc (.map #[] 0)).alloc (.cells #[.map (some W.heap.size)] 81)) W.heap.size gs.length (.map []) := ((World.ownsMap_made W Try.prog 3 (plainElem (H := Unit) Try.prog 3)).mono (Nat.zero_le _)).alloc _
      have hkp : Kp W ((W.alloc (.map #[] 0)).alloc (.cells #[.map (some W.heap.size)] 81)) := (Kp.alloc _ _).trans (Kp.alloc _ _)
      have hsz : ((W.alloc (.map #[] 0)).alloc (.cells #[.map (some W.heap.size)] 81)).heap.size = W.heap.size + 1 + 1 := by simp
      generalize (W.alloc (.map #[] 0)).alloc (.cells #[.map (some W.heap.size)] 81) = W1 at *
      rw [hsz] at hrg0 hs0 ⊢
      have hbt : Bt < W.heap.size := (unhide HO).lt
      have hCI : CI w (W.heap.size + 1) W.heap.size Bt (W.heap.size + 1 + 1) gs.length D (Maps.has D) (Maps.size D) w0 (.map []) :=
        ⟨(unhide HK).trans (hkp.trans ⟨hg0.os, hg0.tape, hg0.output, hg0.size, fun k hk => hg0.block k hk (by simp)⟩), hb7.kept hg0 (by simp), hbn.kept hg0 (by simp), hrg0, fun _ h => h⟩
      have hKD : KD W w0 := (KD.kp hkp).trans (KD.grown hg0 (by simp))
      have hM0 := hide ((unhide HM).keep hKD)
      have e0 : ∀ F : Nat → Nat, sumN gs.length (dn (lft (Maps.has D)) (fun i => sat (lv gs g d i) * F i)) = 0 := fun F => dn_none _ (fun k hk he => by
        have : ¬ 0 < sat (lv gs g d k) := fun hp => by
          have := (unhide HF).has k hk hp
          unfold lft at he
          rw [this] at he
          cases he
        rw [show sat (lv gs g d k) = 0 by omega, Nat.zero_mul])
      have hMF : MapF gs.length (.map []) (fun k => sat (sumN gs.length (dn (lft (Maps.has D)) (fun i => sat (lv gs g d i) * cnt gs i k)))) := (MapF.empty _).ext (fun k _ => by rw [e0]; rfl)
      have hS0 : sat (wk gs g d) = sat (sat (wk gs g d) + sumN gs.length (dn (lft (Maps.has D)) (fun i => sat (lv gs g d i) * lenG gs i))) := by rw [e0]; unfold sat; omega
      obtain ⟨B7, hB7⟩ : ∃ B7, B7 = W.heap.size + 1 := ⟨_, rfl⟩
      obtain ⟨r, hr⟩ : ∃ r, r = W.heap.size + 1 + 1 := ⟨_, rfl⟩
      obtain ⟨Bn, hBn⟩ : ∃ Bn, Bn = W.heap.size := ⟨_, rfl⟩
      have HA : Hid (w.heap.size ≤ Bn ∧ Bn < B7 ∧ B7 < r ∧ Bt < Bn) := by unfold Hid; omega
      rw [← hr, ← hB7, ← hBn] at hCI
      rw [← hr, ← hB7, ← hBn]
      clear hb7 hbn hkp hrg0 hg0 hs0 hsz hB7 hr hBn hKD
      go_frame
      rw [hS0]
      refine wp_loop_ghost_k (fun mm a' w' => ∃ (u8 u9 u19 u20 u21 u22 u23 u24 u25 u26 u27 u28 u29 u30 u31 u32 u33 u34 u35 u36 u37 u38 u39 u40 : Value) (ds : List Deferred) (left : Lit → Bool) (D1 : DataW Unit), a' = { tmps := (.slice a gs.length c :: .int .i64 (g : Int) :: undef :: undef :: .int .i64 (sat (sat (wk gs g d) + sumN gs.length (dn (lft left) (fun i => sat (lv gs g d i) * lenG gs i))) : Int) :: .bool false :: .map (some Bt) :: .pointer (some ⟨B7, 0, none⟩) :: u8 :: u9 :: undef :: .map (some w.heap.size) :: .int .i64 (g : Int) :: .map (some w.heap.size) :: .int .i64 (d : Int) :: .bool true :: .map (some Bn) :: .map (some Bt) :: .pointer (some ⟨r, 0, none⟩) :: u19 :: u20 :: u21 :: u22 :: u23 :: u24 :: u25 :: u26 :: u27 :: u28 :: u29 :: u30 :: u31 :: u32 :: u33 :: u34 :: u35 :: u36 :: u37 :: u38 :: u39 :: u40 :: undef :: undef :: undef :: undef :: undef :: undef :: undef :: undef :: undef :: u50 :: u51 :: undef :: undef :: undef :: undef :: []).toArray, defers := ds } ∧ CI w B7 Bn Bt r gs.length D left mm w' D1 ∧ MapF gs.length D1 (fun k => sat (sumN gs.length (dn (lft left) (fun i => sat (lv gs g d i) * cnt gs i k)))) ∧ Marks w.heap.size w' ds) (Maps.size D) ?_ ?_
      · exact ⟨_, _, _, _, _, _, _, _, _, _, _, _, _, _, _, _, _, _, _, _, _, _, _, _, ds, Maps.has D, .map [], rfl, hCI, hMF, unhide hM0⟩
      · rintro mm a' W2 ⟨u8, u9, u19, u20, u21, u22, u23, u24, u25, u26, u27, u28, u29, u30, u31, u32, u33, u34, u35, u36, u37, u38, u39, u40, ds2, left, D1, rfl, hI, hM1, hM2⟩ J2 K2 hJ2 hK2
        have HI := hide hI
        have HM1 := hide hM1
        have HM2 := hide hM2
        clear hI hM1 hM2 hCI hMF hM0 hS0 e0
        go_wp2_with (at_next; refine wpList_next_ranges_ii _ rfl _ rfl 3 3 .i64 .i64 law85 Try.underlying3 Try.underlying3 Bt r gs.length D left mm rfl (unhide HI).rng ?_ ?_)
        · intro hc0 hl0
          have HL := hide hl0
          clear hl0
          have c7 := (unhide HI).b7.cell
          go_wp2
          have e4 : sat (sat (wk gs g d) + sumN gs.length (dn (lft left) (fun i => sat (lv gs g d i) * lenG gs i))) = sat (wk gs g (d + 1)) := by
            rw [dn_all (left := lft left) _ (fun k => unhide HL _), sat_add, ← sat_add', sat_sum _ (fun k => lv gs g d k * lenG gs k) (fun k => sat_mul1 _ _), sat_add']
            rfl
          have e14 : (d : Int) + 1 = ((d + 1 : Nat) : Int) := by omega
          rw [e4, e14]
          have hF2 : MapF gs.length D1 (fun k => sat (lv gs g (d + 1) k)) := (unhide HM1).ext (fun k _ => by
            show sat (sumN gs.length (dn (lft left) (fun i => sat (lv gs g d i) * cnt gs i k))) = sat (lv gs g (d + 1) k)
            rw [dn_all (left := lft left) _ (fun k => unhide HL _), sat_sum _ (fun i => lv gs g d i * cnt gs i k) (fun i => sat_mul1 _ _)]
            rfl)
          exact Handed.intro (m - 1) (by omega) (hJ _ _ _ ⟨_, _, _, _, _, _, _, _, _, _, _, _, _, _, _, _, _, _, _, _, _, _, _, _, _, _, _, _, _, _, _, ds2, d + 1, Bn, D1, rfl, (unhide HI).kp, (unhide HA).1, (unhide HI).own, hF2, unhide HM2, by omega⟩)
        · intro x cc u1 mm1 hwx hwc hlx hat hrg1 hlt hg1 hs1 hen
          obtain ⟨k, hk, ek, hpos⟩ := (unhide HF).keys _ ((unhide HI).has _ hlx)
          obtain rfl : x = (k : Int) := by injection ek
          have hat0 := (hat (.lit (.int .i64 0))).symm.trans ((unhide HF).val k hk)
          obtain ⟨o, ho⟩ : ∃ o, o = sat (lv gs g d k) := ⟨_, rfl⟩
          rw [← ho] at hat0 hpos
          obtain rfl : cc = (o : Int) := by injection hat0 with h0; injection h0
          have ho4 : o ≤ 4097 := by rw [ho]; exact sat_le _
          have HO2 := hide ho
          clear ho hat hat0 ek
          have HPos := hide hpos
          have HLx := hide hlx
          have HRk : Hid (Rch gs g k) := lv_rch d k hk (by rw [unhide HO2] at hpos; exact sat_pos.1 hpos)
          have HI1 := hide ((unhide HI).next (unhide HA) hg1 hrg1)
          have HM2' := hide ((unhide HM2).keep (KD.grown hg1 (fun q e h0 => by cases e; obtain ⟨_, _, _, _, _, _, _, _, _, hr0, _⟩ := (unhide HI).rng; rw [hr0] at h0; cases h0)))
          obtain ⟨b, off, a', c', hav, hb, cg', hnd⟩ := (unhide H).one (Kp.refl w) hk
          subst hav
          have hns : Hid (tg gs (k : Int) = callsL (gs.getD k []) ∧ lenG gs k = (gs.getD k []).length ∧ ∀ j : Nat, cnt gs k j = (callsL (gs.getD k [])).count (j : Int)) := ⟨by unfold tg; simp, rfl, fun _ => rfl⟩
          have hnr := hnd.room
          have HN := hide hnd
          have cg := (unhide HI1).kp.cellT cg'
          have hz1 := (unhide HI1).kp.size
          clear cg' hnd
          generalize gs.getD k [] = ns at *
          obtain ⟨Mv, hMv⟩ : ∃ Mv, Mv = sat (sat (wk gs g d) + sumN gs.length (dn (lft left) (fun i => sat (lv gs g d i) * lenG gs i))) := ⟨_, rfl⟩
          have hMv4 : Mv ≤ 4097 := by rw [hMv]; exact sat_le _
          rw [← hMv]
          have HMv := hide hMv
          have hkI : (k : Int) < (gs.length : Int) := by omega
          clear hMv hrg1 hg1 hpos hlx hs1
          go_wp2
          have b9 := Boxed.new u1 3 (.int .i64 (o : Int))
          have k3 := Kp.alloc u1 (.cells #[.int .i64 (o : Int)] 3)
          have hI3 := hide ((unhide HI1).grow k3)
          have hM3 := hide ((unhide HM2').keep (KD.kp k3))
          have cg3 := k3.cellT cg
          have c9 := b9.cell
          have hB9 := hide b9
          have z9 : u1.heap.size < (u1.alloc (.cells #[.int .i64 (o : Int)] 3)).heap.size := b9.lt
          clear b9 k3 cg hen
          generalize u1.alloc (.cells #[.int .i64 (o : Int)] 3) = u3 at *
          obtain ⟨B9, hB9e⟩ : ∃ B9, B9 = u1.heap.size := ⟨_, rfl⟩
          have hr9 : Hid (r < B9) := by have := (unhide HI1).rng.lt; unfold Hid; omega
          rw [← hB9e] at hB9 c9 z9 ⊢
          clear hB9e HI1
          go_region
          have eL : (if (4097 : Int) < (ns.length : Int) then (4097 : Int) else (ns.length : Int)) = ((sat ns.length : Nat) : Int) := by unfold sat; split <;> omega
          rw [eL]
          have eP := wrap_mul ho4 (sat_le ns.length)
          rw [eP]
          have eQ := wrap_sum (c := Mv) ho4 (sat_le ns.length) hMv4
          rw [eQ]
          have eR : (if (4097 : Int) < ((Mv + o * sat ns.length : Nat) : Int) then (4097 : Int) else ((Mv + o * sat ns.length : Nat) : Int)) = ((sat (Mv + o * ns.length) : Nat) : Int) := by
            have e1 : sat (Mv + o * ns.length) = sat (Mv + o * sat ns.length) := by
              rw [← sat_add', ← sat_add' Mv (o * sat ns.length), Nat.mul_comm o, Nat.mul_comm o, sat_mul1]
            rw [e1]
            generalize Mv + o * sat ns.length = z
            unfold sat
            split <;> omega
          rw [eR]
          obtain ⟨Mv2, hMv2⟩ : ∃ Mv2, Mv2 = sat (Mv + o * ns.length) := ⟨_, rfl⟩
          rw [← hMv2]
          have HMv2 := hide hMv2
          clear hMv2 eL eP eQ eR
          have kd := Kp.drew u3
          have hI4 := hide ((unhide hI3).grow kd)
          have hM4 := hide ((unhide hM3).keep (KD.kp kd))
          have cg4 := kd.cellT cg3
          have hB4 : Hid (Boxed u3.drew B9 3 (.int .i64 (o : Int))) := unhide hB9
          have c94 := (unhide hB4).cell
          clear kd cg3 c9 hB9 hI3 hM3 z9
          generalize u3.drew = u4 at *
          generalize Value.int .i64 ((sat ns.length : Nat) : Int) = s32
          generalize Value.int .i64 ((o * sat ns.length : Nat) : Int) = s33
          generalize Value.int .i64 ((Mv + o * sat ns.length : Nat) : Int) = s34
          go_wp2_with (go_at_call 38; refine (calls_any _ _ _ _).mono ?_; rintro e w' ⟨rfl, rfl⟩)
          have hCI5 := (unhide hI4).grow (Kp.alloc u4 (.cells #[.slice a' ns.length c'] 34))
          have hB5 := (unhide hB4).alloc (.cells #[.slice a' ns.length c'] 34)
          have hz4 := (unhide hI4).kp.size
          have hlr := (unhide hI4).rng.lt
          have hlb := (unhide hB4).lt
          have hA := unhide HA
          obtain ⟨T, hT⟩ : ∃ T : Nat → Nat, T = fun j => sumN gs.length (dn (lft left) (fun i => sat (lv gs g d i) * cnt gs i j)) := ⟨_, rfl⟩
          have hM5 : MapF gs.length D1 (fun j => sat (T j + o * ([] : List Int).count (j : Int))) := (unhide HM1).ext (fun j _ => by rw [hT]; simp)
          have HT := hide hT
          have HI4k := hide (unhide hI4).kp
          clear hT HM1 HI hI4 hB4 HM2 HM2' cg4 c94
          refine (wpIn_wide (n := 3)).1 ?_
          refine wpIn_rangeFunc_ownG (F := Fence.wide) (n := 3) rfl (by omega) (gf := 51) (lb := #[.pointer (some ⟨u4.heap.size, 0, none⟩)]) rfl trivial (enters_of Try.func51 (by kernel_rfl) rfl)
            (calls_stops 2 (by omega) w u4 a' c' ns (unhide HN) (unhide HI4k) u4.heap.size rfl) belowK_t (belowK_b (by simp; omega)) (Below.refl _ _) (fun _ => rfl)
            (fun pre W' => (∃ D2, CI w B7 Bn Bt r gs.length D (fun z => left z && !z.sameKey (.int .i64 (k : Int))) mm1 W' D2 ∧ MapF gs.length D2 (fun j => sat (T j + o * (pre.map Subtype.val).count (j : Int))) ∧ Boxed W' B9 3 (.int .i64 (o : Int))) ∧ KD (u4.alloc (.cells #[.slice a' ns.length c'] 34)) W')
            (fun _ _ _ => False)
            (OwnFrom.and (fun pre A B row hs hg hr => by
              obtain ⟨D2, h1, h2, h3⟩ := hs
              exact ⟨D2, h1.turn hg hr (by simp; omega) (by simp; omega) (by simp; omega) (by simp; omega), h2, h3.kept hg (fun e => by have := (hr _ e.symm).1; simp at this; omega)⟩) (ownFrom_kd (Nat.le_refl _)))
            (fun _ _ _ _ _ hs _ _ => hs)
            ⟨⟨D1, hCI5, hM5, hB5⟩, KD.refl _⟩
            (fun x => { tmps := (.slice (some ⟨b, off, none⟩) gs.length c :: .int .i64 (g : Int) :: undef :: undef :: .int .i64 (Mv2 : Int) :: .bool false :: .map (some Bt) :: .pointer (some ⟨B7, 0, none⟩) :: .int .i64 (k : Int) :: .pointer (some ⟨B9, 0, none⟩) :: .int .i64 x.1 :: .map (some w.heap.size) :: .int .i64 (g : Int) :: .map (some w.heap.size) :: .int .i64 (d : Int) :: .bool true :: .map (some Bn) :: .map (some Bt) :: .pointer (some ⟨r, 0, none⟩) :: .tuple #[.bool true, .int .i64 (k : Int), .int .i64 (o : Int)] :: .bool true :: .tuple #[.int .i64 (k : Int), .int .i64 (o : Int)] :: .int .i64 (k : Int) :: .int .i64 (o : Int) :: .int .i64 (Mv : Int) :: .int .i64 (o : Int) :: .slice (some ⟨b, off, none⟩) gs.length c :: .int .i64 (k : Int) :: .pointer (some ⟨b, off + k, none⟩) :: .pointer (some ⟨b, off + k, none⟩) :: Value.slice a' ns.length c' :: .int .i64 (ns.length : Int) :: s32 :: s33 :: s34 :: .int .i64 (Mv2 : Int) :: .slice (some ⟨b, off, none⟩) gs.length c :: .int .i64 (k : Int) :: .pointer (some ⟨b, off + k, none⟩) :: Value.agg #[Value.slice a' ns.length c'] :: .func (.func 51) #[] #[.pointer (some ⟨u4.heap.size, 0, none⟩)] :: .int .i64 x.1 :: undef :: undef :: undef :: undef :: undef :: undef :: undef :: undef :: u50 :: u51 :: undef :: undef :: undef :: undef :: []).toArray, defers := [] }) ?assign ?body ?done ?stop
          case assign =>
            intro l x W K hK
            gi_wp2
            exact hK
          case body =>
            rintro l pre ⟨x, hx, hxw⟩ W' ⟨⟨D2, hI6, hM6, hB6⟩, hkd6⟩ hlen
            dsimp only
            have hxr : inRg gs x := (unhide HW) x (.step (unhide HRk) ⟨by omega, by omega⟩ (by rw [(unhide hns).1]; exact hx))
            obtain ⟨j, rfl⟩ : ∃ j : Nat, x = (j : Int) := ⟨x.toNat, by have := hxr.1; omega⟩
            have hj : j < gs.length := by have := hxr.2; omega
            obtain ⟨q, hq⟩ : ∃ q, q = sat (T j + o * (pre.map Subtype.val).count (j : Int)) := ⟨_, rfl⟩
            have hval := hM6.val j hj
            rw [← hq] at hval
            have hq4 : q ≤ 4097 := by rw [hq]; exact sat_le _
            have hkey := Maps.keyOf_int_mk Try.underlying3 hxw
            have HQ := hide hq
            have HM6 := hide hM6
            have HI6 := hide hI6
            have c7 := hI6.b7.cell
            have c9 := hB6.cell
            have HB6 := hide hB6
            have hown := hI6.own
            have hkd6' := hide hkd6
            have z6 := hI6.kp.size
            have hpo := unhide HPos
            clear hq hM6 hI6 hB6 hkd6 hCI5 hB5 hM5 hxr
            by_cases h97 : 4097 < (q : Int) + (o : Int)
            · gi_wp2_with (first
                | (gi_at_lookup; refine wpListIn_lookup_own_int _ rfl _ _ 81 rfl 3 3 .i64 law85 Try.underlying81 Try.underlying3 (zeroI _) Bn gs.length _ rfl hown _ _ rfl hkey ?_; intro cc hat hwcc; obtain rfl : cc = (q : Int) := lit_int_eq (hat.symm.trans hval))
                | (gi_at_mapUpdate; refine wpListIn_mapUpdate_own _ rfl _ _ _ 81 rfl 3 3 law85 Try.underlying81 _ Bn gs.length _ rfl hown (by unfold maxLen; omega) _ _ _ rfl rfl hkey _ [] (plainElem_int Try.underlying3 (wf_I64 (by unfold I64; omega))) ?_; intro v1 hown1 hgrow1))
              obtain ⟨ho6, hm6⟩ := put_step (unhide HM6) hown.isMap hj (unhide HQ) (X := 4097) (by unfold sat; omega) hpo hown1
              have st := St.map (B := (u4.alloc (.cells #[.slice a' ns.length c'] 34)).heap.size) (n₀ := w.heap.size) hgrow1 hA.1 (by simp; omega) z6 (by obtain ⟨es, ck, hm, _⟩ := hown; exact ⟨es, ck, hm⟩)
              exact ⟨by first | exact st.from_ | simpa using st.from_, st.below, ⟨_, (unhide HI6).mapped hA hgrow1 ho6, by first | (rw [List.map_append]; exact hm6) | simpa using hm6, (unhide HB6).kept hgrow1 (fun e => by have := unhide hr9; cases e; omega)⟩, (unhide hkd6').trans st.kd⟩
            · gi_wp2_with (first
                | (gi_at_lookup; refine wpListIn_lookup_own_int _ rfl _ _ 81 rfl 3 3 .i64 law85 Try.underlying81 Try.underlying3 (zeroI _) Bn gs.length _ rfl hown _ _ rfl hkey ?_; intro cc hat hwcc; obtain rfl : cc = (q : Int) := lit_int_eq (hat.symm.trans hval))
                | (gi_at_mapUpdate; refine wpListIn_mapUpdate_own _ rfl _ _ _ 81 rfl 3 3 law85 Try.underlying81 _ Bn gs.length _ rfl hown (by unfold maxLen; omega) _ _ _ rfl rfl hkey _ [] (plainElem_int Try.underlying3 (wf_I64 (by unfold I64; omega))) ?_; intro v1 hown1 hgrow1))
              obtain ⟨ho6, hm6⟩ := put_step (unhide HM6) hown.isMap hj (unhide HQ) (X := (q : Int) + (o : Int)) (by unfold sat; omega) hpo hown1
              have st := St.map (B := (u4.alloc (.cells #[.slice a' ns.length c'] 34)).heap.size) (n₀ := w.heap.size) hgrow1 hA.1 (by simp; omega) z6 (by obtain ⟨es, ck, hm, _⟩ := hown; exact ⟨es, ck, hm⟩)
              exact ⟨by first | exact st.from_ | simpa using st.from_, st.below, ⟨_, (unhide HI6).mapped hA hgrow1 ho6, by first | (rw [List.map_append]; exact hm6) | simpa using hm6, (unhide HB6).kept hgrow1 (fun e => by have := unhide hr9; cases e; omega)⟩, (unhide hkd6').trans st.kd⟩
          case done =>
            rintro Dd ys W' hD hys ⟨⟨D2, hI6, hM6, hB6⟩, hkd6⟩ hDD
            have hMp := hide ((unhide hM4).push ((KD.kp (Kp.alloc u4 _)).trans hkd6) (by simp at hD; omega) (show u4.heap.size ≤ Dd by simp at hD; omega) hDD)
            have HI6 := hide hI6
            have HM6 := hide hM6
            clear hI6 hM6 hCI5 hB5 hM5 hB6
            go_wp2
            have hl1 : ∀ j, j ≠ k → lft (fun z => left z && !z.sameKey (.int .i64 (k : Int))) j = lft left j := fun j hne => by
              unfold lft
              dsimp only
              rw [Maps.sameKey_ne (int_ne hne)]
              simp
            have hl2 : lft (fun z => left z && !z.sameKey (.int .i64 (k : Int))) k = false := by
              unfold lft
              dsimp only
              rw [WideAt.sameKey_self (isKey_int _)]
              simp
            have e4 : Mv2 = sat (sat (wk gs g d) + sumN gs.length (dn (lft (fun z => left z && !z.sameKey (.int .i64 (k : Int)))) (fun i => sat (lv gs g d i) * lenG gs i))) := by
              rw [dn_step _ hk (show lft left k = true from unhide HLx) hl2 hl1, unhide HMv2, unhide HMv, sat_add, ← Nat.add_assoc, (unhide hns).2.1, unhide HO2]
            rw [e4]
            have hF6 : MapF gs.length D2 (fun j => sat (sumN gs.length (dn (lft (fun z => left z && !z.sameKey (.int .i64 (k : Int)))) (fun i => sat (lv gs g d i) * cnt gs i j)))) := (unhide HM6).ext (fun j _ => by
              show sat (T j + o * (ys.map Subtype.val).count (j : Int)) = _
              rw [dn_step _ hk (show lft left k = true from unhide HLx) hl2 hl1, unhide HT, hys, (unhide hns).2.2 j, unhide HO2])
            exact Handed.intro mm1 hlt (hJ2 _ _ _ ⟨_, _, _, _, _, _, _, _, _, _, _, _, _, _, _, _, _, _, _, _, _, _, _, _, _, _, D2, rfl, unhide HI6, hF6, unhide hMp⟩)
          case stop =>
            rintro Dd cd pre W' _ _ h _
            exact h.elim
    · obtain rfl : d = 9 := by omega
      go_wp2_with (at_len; refine wpList_len_own _ rfl _ 81 rfl 3 3 Try.underlying81 _ Bt gs.length D rfl (unhide HO) ?_)
      have hiff : (decide (0 < Maps.size D) = true ↔ DeepP gs g) := by
        rw [decide_eq_true_iff]
        refine (OwnsM.size (unhide HO) (unhide HF)).trans ?_
        unfold DeepP
        simp only [sat_pos]
      refine leaves_marks (fun W' => Kp w W') (fun W' r hr _ hj => kp_putObj hj hr) (fun W' hj => ⟨_, ?_, _, rfl, hiff, hj⟩) ds _ (unhide HM) (unhide HK)
      simp [results, Try.f21, go_sem]

end Go.Proofs.Ytliddjpcbhdplaa
