
/- container/heap's down, over whatever holds the row. -/
import Derived.Test.YthcilobmoeihbaaHepB
namespace Go.Proofs.Ythcilobmoeihbaa
open Go.RowKit

theorem Ord2.irr {α : Type} {lt : α → α → Bool} (h : Ord2 lt) (a : α) : lt a a = false := by
  cases e : lt a a
  · rfl
  · have := h.asym e
    rw [e] at this
    cases this
/-- a step down: what lies then -/
structure Dwn {α : Type} (d : α) (lt : α → α → Bool) (Hd : World → List α → Prop) (R : World → World → Prop) (w : World) (xs : List α) (lo n : Nat) (wr : World) (ys : List α) : Prop where
  hd : Hd wr ys
  perm : ys.Perm xs
  far : ∀ k, n ≤ k → atL d ys k = atL d xs k
  rel : R w wr
/-- what is chosen among those under i -/
theorem down_pick {α : Type} {lt : α → α → Bool} (ho : Ord2 lt) {f : Nat → α} {n i j : Nat} (h : (j = 2 * i + 1 ∧ (n ≤ 2 * i + 2 ∨ lt (f (2 * i + 2)) (f (2 * i + 1)) = false)) ∨ (j = 2 * i + 2 ∧ lt (f (2 * i + 2)) (f (2 * i + 1)) = true)) : ∀ k, 0 < k → k < n → par k = i → lt (f k) (f j) = false := fun k k0 hk hp => by
  rcases h with ⟨rfl, h⟩ | ⟨rfl, h⟩
  · rcases par_cases k0 hp with rfl | rfl
    · exact ho.irr _
    · rcases h with h | h
      · omega
      · exact h
  · rcases par_cases k0 hp with rfl | rfl
    · exact ho.asym h
    · exact ho.irr _

set_option maxRecDepth 20000 in
set_option maxHeartbeats 8000000 in
theorem down_any {α : Type} {T : TypeId} {v : Value} {d : α} {lt : α → α → Bool} {Hd : World → List α → Prop} {R : World → World → Prop} (H : Heapy T v d lt Hd R) (xs : List α) (lo n : Nat) (w : World) (h : Hd w xs) (hn : n ≤ xs.length) (hlo : lo ≤ n) (hu : DownAt lt (atL d xs) lo n lo) :
    Calls Try.prog 24 #[.iface T v, .int .i64 (lo : Int), .int .i64 (n : Int)] w fun e w' => ∃ b ys, e = .returned (.bool b) ∧ Dwn d lt Hd R w xs lo n w' ys ∧ HeapFrom lt (atL d ys) lo n := by
  have HH := hide H
  have HD := hide h
  have HU := hide hu
  have hrm := H.room h
  clear H h hu
  go_enter Try.func24, Try.ntmps24
  go_wp2
  go_loopw [7] (fun i wr => ∃ (k : Nat) (ys : List α), k ≤ n ∧ i = .int .i64 k ∧ Hid (Dwn d lt Hd R w xs lo n wr ys ∧ DownAt lt (atL d ys) lo n k)) (fun i _ => n - (intOf i).toNat)
  case atStart => exact ⟨lo, xs, hlo, rfl, ⟨unhide HD, List.Perm.refl _, fun _ _ => rfl, (unhide HH).refl w⟩, unhide HU⟩
  case round =>
    obtain ⟨k, ys, hkn, rfl, HR⟩ := hrel
    have hyl := (unhide HR).1.perm.length_eq
    by_cases h1 : n ≤ 2 * k + 1
    · have h1I : (n : Int) ≤ 2 * (k : Int) + 1 := by omega
      have HE : Hid (∃ ys, Dwn d lt Hd R w xs lo n wr ys ∧ HeapFrom lt (atL d ys) lo n) := ⟨ys, (unhide HR).1, (unhide HR).2.done (fun q q0 hq hp => by rcases par_cases q0 hp with rfl | rfl <;> omega)⟩
      go_wp2
      go_ret
      obtain ⟨zs, z1, z2⟩ := unhide HE
      exact ⟨_, zs, rfl, z1, z2⟩
    · have h1I : ¬ (n : Int) ≤ 2 * (k : Int) + 1 := by omega
      have h1J : ¬ 2 * (k : Int) + 1 < 0 := by omega
      by_cases h2 : 2 * k + 2 < n
      · have h2I : 2 * (k : Int) + 1 + 1 < (n : Int) := by omega
        obtain ⟨f, rv, ⟨hm, hc⟩, hC⟩ := (unhide HH).less (unhide HR).1.hd
        have HC := hide (hC (2 * k + 2) (2 * k + 1) (by omega) (by omega))
        have e1 : ((2 * k + 2 : Nat) : Int) = 2 * (k : Int) + 1 + 1 := by omega
        have e2 : ((2 * k + 1 : Nat) : Int) = 2 * (k : Int) + 1 := by omega
        rw [e1, e2] at HC
        clear hC e1 e2
        go_wp2_with fail
        refine (unhide HC).mono ?_
        rintro e w2 ⟨rfl, hd2, r2⟩
        have HD2 := hide hd2
        have R2 := hide ((unhide HH).trans (unhide HR).1.rel r2)
        clear hd2 r2 hm hc HC
        cases hq : lt (atL d ys (2 * k + 2)) (atL d ys (2 * k + 1)) with
        | true =>
          have hJn : 2 * k + 2 < n := by omega
          have hJp : par (2 * k + 2) = k := by unfold par; omega
          have HPK := hide (down_pick (n := n) (unhide HH).ord (f := atL d ys) (i := k) (j := 2 * k + 2) (.inr ⟨rfl, hq⟩))
          obtain ⟨f3, rv3, ⟨hm3, hc3⟩, hC3⟩ := (unhide HH).less (unhide HD2)
          have HC3 := hide (hC3 (2 * k + 2) k (by omega) (by omega))
          have e1 : ((2 * k + 2 : Nat) : Int) = 2 * (k : Int) + 1 + 1 := by omega
          rw [e1] at HC3
          clear hC3 e1
          go_wp2_with fail
          refine (unhide HC3).mono ?_
          rintro e w4 ⟨rfl, hd4, r4⟩
          have H4 := hide hd4
          have R4 := hide ((unhide HH).trans (unhide R2) r4)
          clear hd4 r4 hm3 hc3 HC3
          cases hl : lt (atL d ys (2 * k + 2)) (atL d ys k) with
          | false =>
            have HE : Hid (∃ ys, Dwn d lt Hd R w xs lo n w4 ys ∧ HeapFrom lt (atL d ys) lo n) := ⟨ys, ⟨unhide H4, (unhide HR).1.perm, (unhide HR).1.far, unhide R4⟩, (unhide HR).2.done (fun q q0 hq hp => (unhide HH).ord.trans hl (unhide HPK q q0 hq hp))⟩
            clear hl
            go_wp2
            go_ret
            obtain ⟨zs, z1, z2⟩ := unhide HE
            exact ⟨_, zs, rfl, z1, z2⟩
          | true =>
            obtain ⟨f5, rv5, ⟨hm5, hc5⟩, hC5⟩ := (unhide HH).swap (unhide H4)
            have HC5 := hide (hC5 k (2 * k + 2) (by omega) (by omega))
            have HU5 := hide ((unhide HR).2.step (unhide HH).ord (j := 2 * k + 2) (by omega) hJn hJp (unhide HPK) hl)
            have e1 : ((2 * k + 2 : Nat) : Int) = 2 * (k : Int) + 1 + 1 := by omega
            rw [e1] at HC5
            clear hC5 hl e1
            go_wp2_with fail
            refine (unhide HC5).mono ?_
            rintro e w5 ⟨rfl, hd5, r5⟩
            have HR5 : Hid (Dwn d lt Hd R w xs lo n w5 (swpL d ys k (2 * k + 2)) ∧ DownAt lt (atL d (swpL d ys k (2 * k + 2))) lo n (2 * k + 2)) := by
              have e1 : atL d (swpL d ys k (2 * k + 2)) = swp (atL d ys) k (2 * k + 2) := funext fun q => swpL_at d (by omega) (by omega) q
              refine ⟨⟨hd5, (swpL_perm d (by omega) (by omega)).trans (unhide HR).1.perm, fun q hq => ?_, (unhide HH).trans (unhide R4) r5⟩, ?_⟩
              · rw [e1, swp_n _ (by omega) (by omega)]
                exact (unhide HR).1.far q hq
              · rw [e1]
                exact unhide HU5
            clear hd5 r5 hm5 hc5 HC5
            go_wp2
            go_roundw
            case rel => exact ⟨2 * k + 2, _, by omega, by go_num, unhide HR5⟩
            case measure => simp [intOf]; omega
        | false =>
          have hJn : 2 * k + 1 < n := by omega
          have hJp : par (2 * k + 1) = k := by unfold par; omega
          have HPK := hide (down_pick (n := n) (unhide HH).ord (f := atL d ys) (i := k) (j := 2 * k + 1) (.inl ⟨rfl, .inr hq⟩))
          obtain ⟨f3, rv3, ⟨hm3, hc3⟩, hC3⟩ := (unhide HH).less (unhide HD2)
          have HC3 := hide (hC3 (2 * k + 1) k (by omega) (by omega))
          have e1 : ((2 * k + 1 : Nat) : Int) = 2 * (k : Int) + 1 := by omega
          rw [e1] at HC3
          clear hC3 e1
          go_wp2_with fail
          refine (unhide HC3).mono ?_
          rintro e w4 ⟨rfl, hd4, r4⟩
          have H4 := hide hd4
          have R4 := hide ((unhide HH).trans (unhide R2) r4)
          clear hd4 r4 hm3 hc3 HC3
          cases hl : lt (atL d ys (2 * k + 1)) (atL d ys k) with
          | false =>
            have HE : Hid (∃ ys, Dwn d lt Hd R w xs lo n w4 ys ∧ HeapFrom lt (atL d ys) lo n) := ⟨ys, ⟨unhide H4, (unhide HR).1.perm, (unhide HR).1.far, unhide R4⟩, (unhide HR).2.done (fun q q0 hq hp => (unhide HH).ord.trans hl (unhide HPK q q0 hq hp))⟩
            clear hl
            go_wp2
            go_ret
            obtain ⟨zs, z1, z2⟩ := unhide HE
            exact ⟨_, zs, rfl, z1, z2⟩
          | true =>
            obtain ⟨f5, rv5, ⟨hm5, hc5⟩, hC5⟩ := (unhide HH).swap (unhide H4)
            have HC5 := hide (hC5 k (2 * k + 1) (by omega) (by omega))
            have HU5 := hide ((unhide HR).2.step (unhide HH).ord (j := 2 * k + 1) (by omega) hJn hJp (unhide HPK) hl)
            have e1 : ((2 * k + 1 : Nat) : Int) = 2 * (k : Int) + 1 := by omega
            rw [e1] at HC5
            clear hC5 hl e1
            go_wp2_with fail
            refine (unhide HC5).mono ?_
            rintro e w5 ⟨rfl, hd5, r5⟩
            have HR5 : Hid (Dwn d lt Hd R w xs lo n w5 (swpL d ys k (2 * k + 1)) ∧ DownAt lt (atL d (swpL d ys k (2 * k + 1))) lo n (2 * k + 1)) := by
              have e1 : atL d (swpL d ys k (2 * k + 1)) = swp (atL d ys) k (2 * k + 1) := funext fun q => swpL_at d (by omega) (by omega) q
              refine ⟨⟨hd5, (swpL_perm d (by omega) (by omega)).trans (unhide HR).1.perm, fun q hq => ?_, (unhide HH).trans (unhide R4) r5⟩, ?_⟩
              · rw [e1, swp_n _ (by omega) (by omega)]
                exact (unhide HR).1.far q hq
              · rw [e1]
                exact unhide HU5
            clear hd5 r5 hm5 hc5 HC5
            go_wp2
            go_roundw
            case rel => exact ⟨2 * k + 1, _, by omega, by go_num, unhide HR5⟩
            case measure => simp [intOf]; omega
      · have h2I : ¬ 2 * (k : Int) + 1 + 1 < (n : Int) := by omega
        have hJn : 2 * k + 1 < n := by omega
        have hJp : par (2 * k + 1) = k := by unfold par; omega
        have HPK := hide (down_pick (n := n) (unhide HH).ord (f := atL d ys) (i := k) (j := 2 * k + 1) (.inl ⟨rfl, .inl (by omega)⟩))
        obtain ⟨f3, rv3, ⟨hm3, hc3⟩, hC3⟩ := (unhide HH).less ((unhide HR).1.hd)
        have HC3 := hide (hC3 (2 * k + 1) k (by omega) (by omega))
        have e1 : ((2 * k + 1 : Nat) : Int) = 2 * (k : Int) + 1 := by omega
        rw [e1] at HC3
        clear hC3 e1
        go_wp2_with fail
        refine (unhide HC3).mono ?_
        rintro e w4 ⟨rfl, hd4, r4⟩
        have H4 := hide hd4
        have R4 := hide ((unhide HH).trans ((unhide HR).1.rel) r4)
        clear hd4 r4 hm3 hc3 HC3
        cases hl : lt (atL d ys (2 * k + 1)) (atL d ys k) with
        | false =>
          have HE : Hid (∃ ys, Dwn d lt Hd R w xs lo n w4 ys ∧ HeapFrom lt (atL d ys) lo n) := ⟨ys, ⟨unhide H4, (unhide HR).1.perm, (unhide HR).1.far, unhide R4⟩, (unhide HR).2.done (fun q q0 hq hp => (unhide HH).ord.trans hl (unhide HPK q q0 hq hp))⟩
          clear hl
          go_wp2
          go_ret
          obtain ⟨zs, z1, z2⟩ := unhide HE
          exact ⟨_, zs, rfl, z1, z2⟩
        | true =>
          obtain ⟨f5, rv5, ⟨hm5, hc5⟩, hC5⟩ := (unhide HH).swap (unhide H4)
          have HC5 := hide (hC5 k (2 * k + 1) (by omega) (by omega))
          have HU5 := hide ((unhide HR).2.step (unhide HH).ord (j := 2 * k + 1) (by omega) hJn hJp (unhide HPK) hl)
          have e1 : ((2 * k + 1 : Nat) : Int) = 2 * (k : Int) + 1 := by omega
          rw [e1] at HC5
          clear hC5 hl e1
          go_wp2_with fail
          refine (unhide HC5).mono ?_
          rintro e w5 ⟨rfl, hd5, r5⟩
          have HR5 : Hid (Dwn d lt Hd R w xs lo n w5 (swpL d ys k (2 * k + 1)) ∧ DownAt lt (atL d (swpL d ys k (2 * k + 1))) lo n (2 * k + 1)) := by
            have e1 : atL d (swpL d ys k (2 * k + 1)) = swp (atL d ys) k (2 * k + 1) := funext fun q => swpL_at d (by omega) (by omega) q
            refine ⟨⟨hd5, (swpL_perm d (by omega) (by omega)).trans (unhide HR).1.perm, fun q hq => ?_, (unhide HH).trans (unhide R4) r5⟩, ?_⟩
            · rw [e1, swp_n _ (by omega) (by omega)]
              exact (unhide HR).1.far q hq
            · rw [e1]
              exact unhide HU5
          clear hd5 r5 hm5 hc5 HC5
          go_wp2
          go_roundw
          case rel => exact ⟨2 * k + 1, _, by omega, by go_num, unhide HR5⟩
          case measure => simp [intOf]; omega

end Go.Proofs.Ythcilobmoeihbaa
