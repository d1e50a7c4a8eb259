
/- A scheduler: Run, told by what a step may do. -/
import Derived.Test.YtenbmfhhmbfgoaaSchJ
namespace Go.Proofs.Ytenbmfhhmbfgoaa
open Go.RowKit

section
variable {γ : Type}
/-- one step -/
def oneF (ps : List Int) (stepF : γ → SS → Nat → Int × γ × SS) (x : γ × SS) : γ × SS :=
  ((stepF x.1 { x.2 with st := true, now := ((pickS ps x.2).toNat : Int) } (pickS ps x.2).toNat).2.1,
   afterS (stepF x.1 { x.2 with st := true, now := ((pickS ps x.2).toNat : Int) } (pickS ps x.2).toNat).2.2 (pickS ps x.2).toNat (stepF x.1 { x.2 with st := true, now := ((pickS ps x.2).toNat : Int) } (pickS ps x.2).toNat).1)
def endE (A : SS) : Int := if A.wt.length = 0 then 0 else 12
def runF (ps : List Int) (stepF : γ → SS → Nat → Int × γ × SS) : Nat → γ × SS → Nat × Int × (γ × SS)
  | 0, x => (0, if x.2.ab.length = 0 then endE x.2 else 13, x)
  | m + 1, x => if x.2.ab.length = 0 then (0, endE x.2, x) else ((runF ps stepF m (oneF ps stepF x)).1 + 1, (runF ps stepF m (oneF ps stepF x)).2)
theorem runF_none {ps : List Int} {stepF : γ → SS → Nat → Int × γ × SS} {m : Nat} {x : γ × SS} (h : x.2.ab.length = 0) : runF ps stepF m x = (0, endE x.2, x) := by
  cases m with
  | zero => unfold runF; rw [if_pos h]
  | succ m => unfold runF; rw [if_pos h]
/-- what a task's step has to keep -/
def Steps (s : Nat) (ps : List Int) (stepF : γ → SS → Nat → Int × γ × SS) (P : γ → SS → (Nat → Prop) → World → Prop) : Prop :=
  ∀ c A F w, Sc w s F ps A → A.st = false → 0 < A.ab.length → P c A F w → ∃ f, (A.ts.getD (pickS ps A).toNat tk0).1 = wrapF f ∧
    ∀ w1, Sc w1 s F ps { A with st := true, now := ((pickS ps A).toNat : Int) } → Wd F F w w1 → Calls Try.prog 30 #[f] w1 fun e w2 =>
      e = .returned (.int .i64 (stepF c { A with st := true, now := ((pickS ps A).toNat : Int) } (pickS ps A).toNat).1) ∧
      ∃ F', Sc w2 s F' ps (stepF c { A with st := true, now := ((pickS ps A).toNat : Int) } (pickS ps A).toNat).2.2 ∧
        (((pickS ps A).toNat : Nat) : Int) ∈ (stepF c { A with st := true, now := ((pickS ps A).toNat : Int) } (pickS ps A).toNat).2.2.ab ∧
        (stepF c { A with st := true, now := ((pickS ps A).toNat : Int) } (pickS ps A).toNat).2.2.k ≤ 1000000000000 ∧
        ∀ F'' w3, Sc w3 s F'' ps (oneF ps stepF (c, A)).2 → Wd F' F'' w2 w3 → P (oneF ps stepF (c, A)).1 (oneF ps stepF (c, A)).2 F'' w3
theorem settle_st (A : SS) (i : Nat) (r : Int) : (settleS A i r).st = A.st := by
  unfold settleS
  split
  · rfl
  · split
    · split
      · rfl
      · rfl
    · rfl
theorem one_st {ps : List Int} {stepF : γ → SS → Nat → Int × γ × SS} {x : γ × SS} : (oneF ps stepF x).2.st = false := by
  unfold oneF afterS
  rw [settle_st]
theorem pick_in {ps : List Int} {A : SS} (h : 0 < A.ab.length) : pickS ps A ∈ A.ab := by
  have hi : pickI ps A.k A.ab.length < A.ab.length := by
    unfold pickI
    split
    · exact h
    · exact Nat.mod_lt _ h
  have e : pickS ps A = A.ab[pickI ps A.k A.ab.length] := by unfold pickS; simp [hi]
  rw [e]
  exact List.getElem_mem _

/-- what holds between two steps -/
def RunI (s : Nat) (ps : List Int) (P : γ → SS → (Nat → Prop) → World → Prop) (x : γ × SS) (F : Nat → Prop) (w : World) : Prop := Sc w s F ps x.2 ∧ P x.1 x.2 F w ∧ x.2.st = false

set_option maxRecDepth 20000 in
set_option maxHeartbeats 4000000 in
theorem run_any (s : Nat) (ps : List Int) (stepF : γ → SS → Nat → Int × γ × SS) (P : γ → SS → (Nat → Prop) → World → Prop) (c : γ) (A : SS) (F : Nat → Prop) (most : Nat) (w : World) (h : Sc w s F ps A) (hst : A.st = false) (hp : P c A F w) (hm : most ≤ 1048576)
    (hP : ∀ c A F F' w w', P c A F w → Wd F F' w w' → P c A F' w') (hS : Steps s ps stepF P) :
    Calls Try.prog 15 #[.pointer (some ⟨s, 0, none⟩), .int .i64 (most : Int)] w fun e w' => e = .returned (.tuple #[.int .i64 ((runF ps stepF most (c, A)).1 : Int), .int .i64 (runF ps stepF most (c, A)).2.1]) ∧ ∃ F', RunI s ps P (runF ps stepF most (c, A)).2.2 F' w' := by
  have HI : Hid (RunI s ps P (c, A) F w) := ⟨h, hp, hst⟩
  obtain ⟨pv, tv, av, wv, v⟩ := h.opn
  obtain ⟨-, -, -, -, -, c5, -⟩ := v.sb.cells
  rw [hst] at c5
  -- what the two tests read
  have HL := hide (fun (x : γ × SS) (F : Nat → Prop) (w : World) (h : RunI s ps P x F w) => (show (∃ a cap, w.cell? ⟨s, 2, none⟩ = some (.slice a x.2.ab.length cap)) ∧ (∃ a cap, w.cell? ⟨s, 3, none⟩ = some (.slice a x.2.wt.length cap)) ∧ x.2.ab.length ≤ 128 ∧ x.2.wt.length ≤ 128 from by
    obtain ⟨pv, tv, av, wv, v⟩ := h.1.opn
    obtain ⟨-, -, c2, c3, -, -, -⟩ := v.sb.cells
    obtain ⟨a, acap, rfl, -⟩ := v.ao.shape
    obtain ⟨b, bcap, rfl, -⟩ := v.wo.shape
    exact ⟨⟨a, acap, c2⟩, ⟨b, bcap, c3⟩, h.1.lab, h.1.lwt⟩))
  have HN := hide (fun (x : γ × SS) (F : Nat → Prop) (w : World) (h : RunI s ps P x F w) (h0 : 0 < x.2.ab.length) => (next_any s F ps x.2 w h.1 h0).mono (R' := fun e w' => ∃ i : Nat, e = .returned (.int .i64 (i : Int)) ∧ Hid (RunI s ps P x F w' ∧ i = (pickS ps x.2).toNat)) (by
    rintro e w' ⟨rfl, k⟩
    have hb := h.1.ok.abb _ (pick_in (ps := ps) h0)
    refine ⟨(pickS ps x.2).toNat, ?_, ⟨h.1.keep k, hP _ _ _ _ _ _ h.2.1 (Wd.of_kp k), h.2.2⟩, rfl⟩
    rw [show (((pickS ps x.2).toNat : Nat) : Int) = pickS ps x.2 by omega]))
  have HO := hide (fun (x : γ × SS) (F : Nat → Prop) (w : World) (i : Nat) (h0 : 0 < x.2.ab.length) (h : RunI s ps P x F w ∧ i = (pickS ps x.2).toNat) => (show Calls Try.prog 32 #[.pointer (some ⟨s, 0, none⟩), .int .i64 (i : Int)] w fun e w' => e = .returned (.tuple #[]) ∧ ∃ F', RunI s ps P (oneF ps stepF x) F' w' from by
    obtain ⟨⟨h1, h2, h3⟩, rfl⟩ := h
    have hb := h1.ok.abb _ (pick_in (ps := ps) h0)
    have hi : (((pickS ps x.2).toNat : Nat) : Int) ∈ x.2.ab := by
      rw [show (((pickS ps x.2).toNat : Nat) : Int) = pickS ps x.2 by omega]
      exact pick_in h0
    obtain ⟨f, hf, hstep⟩ := hS x.1 x.2 F w h1 h3 h0 h2
    refine (one_any s F ps x.2 (pickS ps x.2).toNat f (fun r A' F' w2 => r = (stepF x.1 { x.2 with st := true, now := ((pickS ps x.2).toNat : Int) } (pickS ps x.2).toNat).1 ∧ A' = (stepF x.1 { x.2 with st := true, now := ((pickS ps x.2).toNat : Int) } (pickS ps x.2).toNat).2.2 ∧
      ∀ F'' w3, Sc w3 s F'' ps (oneF ps stepF x).2 → Wd F' F'' w2 w3 → P (oneF ps stepF x).1 (oneF ps stepF x).2 F'' w3) w h1 hi hf (fun w1 hs1 hd1 => (hstep w1 hs1 hd1).mono ?_)).mono ?_
    · rintro e w2 ⟨rfl, F', q1, q2, q3, q4⟩
      exact ⟨_, rfl, _, F', q1, q2, q3, rfl, rfl, q4⟩
    · rintro e w' ⟨rfl, r, A', F', w2, F'', ⟨rfl, rfl, q⟩, hs, hd⟩
      exact ⟨rfl, F'', hs, q F'' w' hs hd, one_st⟩))
  have HE := hide (fun (m : Nat) (x : γ × SS) (h0 : ¬ x.2.ab.length = 0) => (show runF ps stepF (m + 1) x = ((runF ps stepF m (oneF ps stepF x)).1 + 1, (runF ps stepF m (oneF ps stepF x)).2) from by
    conv => lhs; unfold runF
    rw [if_neg h0]))
  have hmI : (most : Int) ≤ 1048576 := by omega
  clear h hp hst hP hS v
  go_enter Try.func15, Try.ntmps15
  go_wp2_with fail
  go_loopw [6] (fun i wr => ∃ (k : Nat) (x : γ × SS) (F' : Nat → Prop), k ≤ most ∧ i = .int .i64 k ∧ Hid (RunI s ps P x F' wr) ∧ Hid (runF ps stepF most (c, A) = ((runF ps stepF (most - k) x).1 + k, (runF ps stepF (most - k) x).2))) (fun i _ => most - (intOf i).toNat)
  case atStart => exact ⟨0, (c, A), F, Nat.zero_le _, rfl, HI, by unfold Hid; simp⟩
  case round =>
    obtain ⟨k, x, F', hk, rfl, HR, HQ⟩ := hrel
    obtain ⟨⟨a, acap, c2⟩, ⟨b, bcap, c3⟩, l1, l2⟩ := unhide HL x F' wr (unhide HR)
    by_cases h0 : x.2.ab.length = 0
    · have HX : Hid (runF ps stepF most (c, A) = (k, endE x.2, x)) := by
        unfold Hid
        rw [unhide HQ, runF_none h0]
        simp
      rw [h0] at c2
      by_cases hw : x.2.wt.length = 0
      · have HY : Hid (Ending.returned (.tuple #[.int .i64 (k : Int), .int .i64 0]) = .returned (.tuple #[.int .i64 ((runF ps stepF most (c, A)).1 : Int), .int .i64 (runF ps stepF most (c, A)).2.1])) := by
          unfold Hid
          rw [unhide HX]
          simp [endE, hw]
        have HZ : Hid (∃ F', RunI s ps P (runF ps stepF most (c, A)).2.2 F' wr) := by
          rw [unhide HX]
          exact ⟨F', unhide HR⟩
        rw [hw] at c3
        clear HX h0 hw HQ HR l1 l2
        go_wp2_with fail
        go_ret2
        exact ⟨unhide HY, unhide HZ⟩
      · have HY : Hid (Ending.returned (.tuple #[.int .i64 (k : Int), .int .i64 12]) = .returned (.tuple #[.int .i64 ((runF ps stepF most (c, A)).1 : Int), .int .i64 (runF ps stepF most (c, A)).2.1])) := by
          unfold Hid
          rw [unhide HX]
          simp [endE, hw]
        have HZ : Hid (∃ F', RunI s ps P (runF ps stepF most (c, A)).2.2 F' wr) := by
          rw [unhide HX]
          exact ⟨F', unhide HR⟩
        have hw2 : 0 < x.2.wt.length := by omega
        clear HX h0 hw HQ HR l1
        generalize x.2.wt.length = m at *
        go_wp2_with fail
        go_ret2
        exact ⟨unhide HY, unhide HZ⟩
    · have h1 : 0 < x.2.ab.length := by omega
      by_cases hkm : k = most
      · have HX : Hid (runF ps stepF most (c, A) = (k, 13, x)) := by
          unfold Hid
          rw [unhide HQ, hkm, Nat.sub_self]
          unfold runF
          rw [if_neg h0]
          simp
        have HY : Hid (Ending.returned (.tuple #[.int .i64 (k : Int), .int .i64 13]) = .returned (.tuple #[.int .i64 ((runF ps stepF most (c, A)).1 : Int), .int .i64 (runF ps stepF most (c, A)).2.1])) := by
          unfold Hid
          rw [unhide HX]
        have HZ : Hid (∃ F', RunI s ps P (runF ps stepF most (c, A)).2.2 F' wr) := by
          rw [unhide HX]
          exact ⟨F', unhide HR⟩
        have hkI : (k : Int) = (most : Int) := by omega
        clear HX h0 HQ HR l2
        generalize x.2.ab.length = m at *
        go_wp2_with fail
        go_ret2
        exact ⟨unhide HY, unhide HZ⟩
      · have CN := hide (unhide HN x F' wr (unhide HR) h1)
        have CO := hide (fun w i => unhide HO x F' w i h1)
        have HX : Hid (runF ps stepF most (c, A) = ((runF ps stepF (most - (k + 1)) (oneF ps stepF x)).1 + (k + 1), (runF ps stepF (most - (k + 1)) (oneF ps stepF x)).2)) := by
          unfold Hid
          rw [unhide HQ, show most - k = (most - (k + 1)) + 1 by omega, unhide HE _ x h0]
          simp
          omega
        have hkI : ¬ (k : Int) = (most : Int) := by omega
        clear h0 HQ HR l2 c3
        generalize x.2.ab.length = m at *
        go_wp2_with fail
        refine (unhide CN).mono ?_
        clear CN
        rintro e w2 ⟨i, rfl, HR2⟩
        have CO2 := hide (unhide CO w2 i (unhide HR2))
        clear CO HR2
        go_wp2_with fail
        refine (unhide CO2).mono ?_
        clear CO2
        rintro e w3 ⟨rfl, F3, r3⟩
        have R3 := hide r3
        clear r3
        go_wp2_with fail
        go_roundw
        case rel => exact ⟨k + 1, oneF ps stepF x, F3, by omega, by go_num, R3, HX⟩
        case measure => simp [intOf]; omega
end

end Go.Proofs.Ytenbmfhhmbfgoaa
