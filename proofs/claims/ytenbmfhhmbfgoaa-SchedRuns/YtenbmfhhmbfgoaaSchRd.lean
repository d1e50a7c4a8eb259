
/- The document's scheduler: who can run, how many are open. -/
import Derived.Test.YtenbmfhhmbfgoaaSchRc
import Derived.Test.YtenbmfhhmbfgoaaSchP
import Derived.Test.YtenbmfhhmbfgoaaSchCb
namespace Go.Proofs.Ytenbmfhhmbfgoaa
open Go.RowKit

/-- an own row of this call -/
def Row0 (w0 w : World) (v : Value) (xs : List Int) : Prop := Own w 3 0 v xs ∧ (∀ q, v.ownBlock = some q → w0.heap.size ≤ q) ∧ Kp w0 w
theorem Row0.push {w0 w : World} {v : Value} {xs : List Int} (h : Row0 w0 w v xs) (hl : xs.length + 1 ≤ 1000000000) (x : Int) :
    ∃ g cap w', (∀ ty, Sem.run Try.prog (Builtin.append_ #[31, 31] ty #[v, .slice (some ⟨w.heap.size, 0, none⟩) 1 1]) (w.alloc (.cells #[.int .i64 x] 3)) = .ok (.slice (some ⟨g, 0, none⟩) (xs.length + 1) cap) w') ∧ Row0 w0 w' (.slice (some ⟨g, 0, none⟩) (xs.length + 1) cap) (xs ++ [x]) := by
  obtain ⟨h1, h2, h3⟩ := h
  have k1 := Kp.alloc w (.cells #[.int .i64 x] 3)
  have o1 : Own (w.alloc (.cells #[.int .i64 x] 3)) 3 0 v xs := own_wide h1 (g := none) ⟨k1.os, k1.tape, k1.output, k1.size, fun i hi _ => k1.block i hi⟩ (by intro q e; cases e)
  obtain ⟨g, cap, w', hr, r1, r2, r3⟩ := run_push1 (w.alloc (.cells #[.int .i64 x] 3)) 31 Try.underlying31 v xs x w.heap.size 1 o1 hl (cell_lit1 w _ _ _ rfl)
  have z := h3.size
  refine ⟨g, cap, w', hr, r1, fun q e => ?_, ?_⟩
  · cases e
    show w0.heap.size ≤ g
    rcases r3 with e | e
    · exact h2 _ e
    · rw [size_alloc] at e; omega
  · refine ⟨(r2.os.trans k1.os).trans h3.os, (r2.tape.trans k1.tape).trans h3.tape, (r2.output.trans k1.output).trans h3.output, Nat.le_trans z (Nat.le_trans k1.size r2.size), fun i hi => ?_⟩
    refine ((r2.block i (Nat.lt_of_lt_of_le hi (Nat.le_trans z k1.size)) (fun e => ?_)).trans (k1.block i (Nat.lt_of_lt_of_le hi z))).trans (h3.block i hi)
    have := h2 i e.symm
    omega
theorem Row0.cells {w0 w : World} {v : Value} {xs : List Int} (h : Row0 w0 w v xs) : ∃ a cap, v = .slice a xs.length cap ∧ (0 < xs.length → ∃ g, a = some ⟨g, 0, none⟩ ∧ ∀ i, i < xs.length → w.cell? ⟨g, i, none⟩ = some (.int .i64 (xs.getD i 0))) := by
  obtain ⟨a, cap, rfl, hg⟩ := h.1.shape
  refine ⟨a, cap, rfl, fun h0 => ?_⟩
  obtain ⟨g, rfl, _⟩ := hg h0
  exact ⟨g, rfl, fun i hi => h.1.cell rfl hi⟩

section
variable {W0 w : World} {M : Nat} {pv : Value} {ps : List Int} {Bs : List Nat} {Lv : Nat → Value} {K : Nat} {told : List Int} {an : Nat → Nat} {A : SS} {G : Nat → Prop}
/-- what both loops read -/
theorem MW.reads (h : MW W0 w M pv ps Bs Lv K told an A G) : ∃ a cap, w.cell? ⟨M, 1, none⟩ = some (.slice a Bs.length cap) ∧ (0 < Bs.length → ∃ g, a = some ⟨g, 0, none⟩ ∧ ∀ i, i < Bs.length → ∃ B, w.cell? ⟨g, i, none⟩ = some (.pointer (some ⟨B, 0, none⟩)) ∧ w.cell? ⟨B, 2, none⟩ = some (.int .i64 (stA A i))) := by
  obtain ⟨wk, tv, ov, m, -⟩ := h.at_
  obtain ⟨a, cap, rfl, hr⟩ := m.row
  obtain ⟨-, c1, -, -⟩ := m.ms.cells
  refine ⟨a, cap, c1, fun h0 => ?_⟩
  obtain ⟨g, rfl, hg⟩ := hr h0
  exact ⟨g, rfl, fun i hi => ⟨_, hg i hi, (m.tk i hi).cells.2.2.1⟩⟩

set_option maxRecDepth 20000 in
set_option maxHeartbeats 4000000 in
theorem mopen_any (h : MW W0 w M pv ps Bs Lv K told an A G) :
    Calls Try.prog 18 #[.pointer (some ⟨M, 0, none⟩)] w fun e w' => e = .returned (.int .i64 ((A.ab.length : Int) + (A.wt.length : Int))) ∧ w' = w := by
  have hn : Bs.length ≤ 128 := by rw [← h.ln]; exact h.ok.lts
  have hc := cntA_all h.ok
  rw [h.ln] at hc
  have HC : Hid ((cntA A Bs.length : Int) = (A.ab.length : Int) + (A.wt.length : Int)) := by unfold Hid; omega
  obtain ⟨a, cap, c1, hr⟩ := h.reads
  have HR := hide hr
  clear h hr hc
  generalize Bs.length = n at *
  go_enter Try.func18, Try.ntmps18
  go_wp2_with fail
  go_loopw [3, 4] (fun m i wr => ∃ k : Nat, k ≤ n ∧ i = .int .i64 k ∧ m = .int .i64 (cntA A k : Int) ∧ wr = w) (fun _ i _ => n - (intOf i).toNat)
  case atStart => exact ⟨0, Nat.zero_le _, rfl, rfl, rfl⟩
  case round =>
    obtain ⟨k, hk, rfl, rfl, rfl⟩ := hrel
    by_cases hkn : k < n
    · have kI : (k : Int) < (n : Int) := by omega
      obtain ⟨g, rfl, hg⟩ := unhide HR (by omega)
      obtain ⟨B, p1, p2⟩ := hg k hkn
      have hle := cntA_le A k
      have hE : Hid (cntA A (k + 1) = if stA A k = 3 then cntA A k else cntA A k + 1) := rfl
      clear hg
      by_cases h3 : stA A k = 3
      · have hE2 : Hid (cntA A (k + 1) = cntA A k) := by rw [unhide hE, if_pos h3]; exact rfl
        rw [h3] at p2
        clear hE h3
        generalize cntA A k = q at *
        go_wp2_with fail
        go_roundw
        case rel => exact ⟨k + 1, by omega, by go_num, by rw [unhide hE2], trivial⟩
        case measure => simp [intOf]; omega
      · have hE2 : Hid (cntA A (k + 1) = cntA A k + 1) := by rw [unhide hE, if_neg h3]; exact rfl
        clear hE
        generalize cntA A k = q at *
        generalize stA A k = s at *
        go_wp2_with fail
        go_roundw
        case rel => exact ⟨k + 1, by omega, by go_num, by rw [unhide hE2]; go_num, trivial⟩
        case measure => simp [intOf]; omega
    · obtain rfl : k = n := by omega
      go_wp2_with fail
      go_ret
      exact ⟨ret_int (unhide HC), rfl⟩

set_option maxRecDepth 20000 in
set_option maxHeartbeats 4000000 in
theorem mrun_able (h : MW W0 w M pv ps Bs Lv K told an A G) :
    Calls Try.prog 34 #[.pointer (some ⟨M, 0, none⟩)] w fun e w' => ∃ v, e = .returned v ∧ Hid (Row0 w w' v A.ab) := by
  have hn : Bs.length ≤ 128 := by rw [← h.ln]; exact h.ok.lts
  have hc : RL A.ab Bs.length = A.ab := RL_all h.ok.abr (by rw [← h.ln]; exact h.ok.abb)
  have HC := hide hc
  obtain ⟨a, cap, c1, hr⟩ := h.reads
  have HR := hide hr
  have ok := hide h.ok
  clear h hr hc
  generalize Bs.length = n at *
  go_enter Try.func34, Try.ntmps34
  go_wp2_with fail
  go_loopw [3, 4] (fun v i wr => ∃ k : Nat, k ≤ n ∧ i = .int .i64 k ∧ Hid (Row0 w wr v (RL A.ab k))) (fun _ i _ => n - (intOf i).toNat)
  case atStart => exact ⟨0, Nat.zero_le _, rfl, World.ownsRow_nil _ _ _ _, (by intro q e; cases e), Kp.refl w⟩
  case round v _ wr =>
    obtain ⟨k, hk, rfl, HRow⟩ := hrel
    have c2 := cell_of (unhide HRow).2.2 c1
    by_cases hkn : k < n
    · have kI : (k : Int) < (n : Int) := by omega
      obtain ⟨g, rfl, hg⟩ := unhide HR (by omega)
      obtain ⟨B, p1, p2⟩ := hg k hkn
      have p3 := cell_of (unhide HRow).2.2 p1
      have p4 := cell_of (unhide HRow).2.2 p2
      have hE : Hid (RL A.ab (k + 1) = if (k : Int) ∈ A.ab then RL A.ab k ++ [(k : Int)] else RL A.ab k) := rfl
      have hl := RL_len A.ab k
      clear hg
      by_cases h1 : (k : Int) ∈ A.ab
      · have hE2 : Hid (RL A.ab (k + 1) = RL A.ab k ++ [(k : Int)]) := by rw [unhide hE, if_pos h1]; exact rfl
        rw [stA_one h1] at p4
        obtain ⟨g1, cap1, w1, hrun, hrow⟩ := (unhide HRow).push (by omega) (k : Int)
        obtain ⟨a2, cap2, rfl, -⟩ := (unhide HRow).cells
        have HRow2 := hide hrow
        clear hE h1 hrow HRow p1 p2 c1
        generalize (RL A.ab k).length = q at *
        go_wp2_with (at_builtin; refine wpList_append_eq _ rfl _ _ 31 31 rfl _ _ rfl rfl (hrun _) ?_)
        go_roundw
        case rel => exact ⟨k + 1, by omega, by go_num, by rw [unhide hE2]; exact unhide HRow2⟩
        case measure => simp [intOf]; omega
      · have hE2 : Hid (RL A.ab (k + 1) = RL A.ab k) := by rw [unhide hE, if_neg h1]; exact rfl
        have hs : ¬ stA A k = 1 := by
          unfold stA
          rw [if_neg h1]
          split <;> omega
        clear hE h1 p1 p2 c1
        generalize stA A k = s at *
        go_wp2_with fail
        go_roundw
        case rel => exact ⟨k + 1, by omega, by go_num, by rw [unhide hE2]; exact unhide HRow⟩
        case measure => simp [intOf]; omega
    · obtain rfl : k = n := by omega
      rw [unhide HC] at HRow
      obtain ⟨a2, cap2, rfl, -⟩ := (unhide HRow).cells
      go_wp2_with fail
      go_ret
      exact ⟨_, rfl, unhide HRow⟩
end

end Go.Proofs.Ytenbmfhhmbfgoaa
