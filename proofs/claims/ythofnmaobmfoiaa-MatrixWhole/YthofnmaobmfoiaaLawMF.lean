
/- The law MatrixWhole, walked. -/
import Derived.Test.YthofnmaobmfoiaaMatM
import Derived.Test.YthofnmaobmfoiaaMatT
import Derived.Test.YthofnmaobmfoiaaMatL
import Derived.Test.YthofnmaobmfoiaaFMatB
import Derived.Test.YthofnmaobmfoiaaMatG
import Derived.Deep.DeepCutAuto
namespace Go.Proofs.Ythofnmaobmfoiaa
open Go.RowKit Go.ChangeShapes

/-- block B holds four values -/
def Qd (w : World) (e : TypeId) (B : Nat) (x y z u : Value) : Prop := w.heap[B]? = some (.cells #[x, y, z, u] e)
theorem Qd.keep {w w' : World} {e : TypeId} {B : Nat} {x y z u : Value} (h : Qd w e B x y z u) (k : Kp w w') : Qd w' e B x y z u := by
  unfold Qd
  rw [k.block B (Array.getElem?_eq_some_iff.1 h).1]
  exact h
theorem Qd.made (w : World) (x y z u : Value) (e : TypeId) : Qd (w.alloc (.cells #[x, y, z, u] e)) e w.heap.size x y z u := by
  unfold Qd
  simp only [World.alloc, Array.getElem?_push_size]
theorem Qd.o {w : World} {e : TypeId} {B : Nat} {x y z u : Value} (h : Qd w e B x y z u) : w.cell? ⟨B, 0, none⟩ = some x ∧ w.cell? ⟨B, 1, none⟩ = some y ∧ w.cell? ⟨B, 2, none⟩ = some z ∧ w.cell? ⟨B, 3, none⟩ = some u ∧ B < w.heap.size := by
  unfold Qd at h
  exact ⟨by simp [World.cell?, h], by simp [World.cell?, h], by simp [World.cell?, h], by simp [World.cell?, h], (Array.getElem?_eq_some_iff.1 h).1⟩
theorem fold4 {F : Nat → Array Bool → Act → World → Prop} {n : Nat} {L : Array Bool} {a : Act} {w : World} (h : ∀ F' A, F' = F → A = a → F' n L A w) : F n L a w := h F a rfl rfl
set_option maxRecDepth 10000 in
set_option maxHeartbeats 16000000 in
theorem whole_walk (a0 : Option Addr) (l0 c0 : Nat) (zs : List Int) (x0 x1 x2 x3 : Int) (w : World) (m0 : l0 ≤ 9223372036854775807) (h0 : 0 ≤ x0 ∧ x0 ≤ 255) (h1 : 0 ≤ x1 ∧ x1 ≤ 255) (h2 : 0 ≤ x2 ∧ x2 ≤ 255) (h3 : 0 ≤ x3 ∧ x3 ≤ 255) (hr : Rw8 w a0 l0 zs) :
    Calls Try.prog 3 #[.agg #[.int .u8 x0, .int .u8 x1, .int .u8 x2, .int .u8 x3], .slice a0 l0 c0] w fun e w' => e = .returned (.bool true) ∧ Kp w w' := by
  obtain ⟨n0, e0⟩ : ∃ n : Nat, 1 + x0 % 4 = (n : Int) := ⟨(1 + x0 % 4).toNat, by omega⟩
  obtain ⟨n1, e1⟩ : ∃ n : Nat, 1 + x1 % 4 = (n : Int) := ⟨(1 + x1 % 4).toNat, by omega⟩
  obtain ⟨n2, e2⟩ : ∃ n : Nat, 1 + x2 % 4 = (n : Int) := ⟨(1 + x2 % 4).toNat, by omega⟩
  obtain ⟨n3, e3⟩ : ∃ n : Nat, 1 + x3 % 4 = (n : Int) := ⟨(1 + x3 % 4).toNat, by omega⟩
  have g0 : 1 ≤ n0 ∧ n0 ≤ 4 := by omega
  have g1 : 1 ≤ n1 ∧ n1 ≤ 4 := by omega
  have g2 : 1 ≤ n2 ∧ n2 ≤ 4 := by omega
  have g3 : 1 ≤ n3 ∧ n3 ≤ 4 := by omega
  have t0 : x0.tmod 4 = x0 % 4 := Int.tmod_eq_emod_of_nonneg h0.1
  have t1 : x1.tmod 4 = x1 % 4 := Int.tmod_eq_emod_of_nonneg h1.1
  have t2 : x2.tmod 4 = x2 % 4 := Int.tmod_eq_emod_of_nonneg h2.1
  have t3 : x3.tmod 4 = x3 % 4 := Int.tmod_eq_emod_of_nonneg h3.1
  have r0 : IntKind.i64.wrap x0 = x0 := wrap_64 (by omega) (by omega)
  have r1 : IntKind.i64.wrap x1 = x1 := wrap_64 (by omega) (by omega)
  have r2 : IntKind.i64.wrap x2 = x2 := wrap_64 (by omega) (by omega)
  have r3 : IntKind.i64.wrap x3 = x3 := wrap_64 (by omega) (by omega)
  have v0 : IntKind.i64.wrap (n0 : Int) = (n0 : Int) := wrap_64 (by omega) (by omega)
  have v1 : IntKind.i64.wrap (n1 : Int) = (n1 : Int) := wrap_64 (by omega) (by omega)
  have v2 : IntKind.i64.wrap (n2 : Int) = (n2 : Int) := wrap_64 (by omega) (by omega)
  have v3 : IntKind.i64.wrap (n3 : Int) = (n3 : Int) := wrap_64 (by omega) (by omega)
  have HR := hide hr
  clear hr
  go_enter Try.func3, Try.ntmps3
  go_wp2_with fail
  have q0 := Qd.made w (.int .u8 x0) (.int .u8 x1) (.int .u8 x2) (.int .u8 x3) 22
  have k0 := Kp.alloc w (.cells #[.int .u8 x0, .int .u8 x1, .int .u8 x2, .int .u8 x3] 22)
  have HR0 := hide ((unhide HR).keep k0)
  have K0 := hide k0
  have Q0 := hide q0
  clear k0 q0 HR
  generalize w.alloc (.cells #[.int .u8 x0, .int .u8 x1, .int .u8 x2, .int .u8 x3] 22) = w1 at *
  generalize w.heap.size = B at Q0 ⊢
  refine (awake5_any w1).mono ?_
  rintro e w2 ⟨rfl, k2⟩
  have HR2 := hide ((unhide HR0).keep k2)
  have K2 := hide ((unhide K0).trans k2)
  have Q2 := hide ((unhide Q0).keep k2)
  clear k2 HR0 K0 Q0
  have SK : Hid (∀ w', Kp w2 w' → w'.cell? ⟨B, 0, none⟩ = some (.int .u8 x0) ∧ w'.cell? ⟨B, 1, none⟩ = some (.int .u8 x1) ∧ w'.cell? ⟨B, 2, none⟩ = some (.int .u8 x2) ∧ w'.cell? ⟨B, 3, none⟩ = some (.int .u8 x3)) := by
    intro w' k
    obtain ⟨a, b, c, d, -⟩ := ((unhide Q2).keep k).o
    exact ⟨a, b, c, d⟩
  have M0 : Hid (∀ (a b fr : Nat), 1 ≤ a ∧ a ≤ 4 → 1 ≤ b ∧ b ≤ 4 → fr ≤ 32 → ∀ w, Kp w2 w → Calls Try.prog 5 #[.int .i64 (a : Int), .int .i64 (b : Int), .slice a0 l0 c0, .int .i64 (fr : Int)] w fun e w' => ∃ v, e = .returned v ∧ Tn w2 w' v a b (mofT zs l0 fr (a * b)) ∧ Kp w w') := by
    intro a b fr ha hb hf w k
    refine (mof_any a0 l0 c0 zs a b fr w ha hb hf m0 ((unhide HR2).keep k)).mono ?_
    rintro e w' ⟨L, a2, n2, c2, rfl, o, d, k'⟩
    exact ⟨_, rfl, ⟨L, a2, n2, c2, rfl, o.weak k.size, d.weak k.size⟩, k'⟩
  obtain ⟨D1, hD1⟩ : ∃ D, D = mofT zs l0 0 (n0 * n1) := ⟨_, rfl⟩
  obtain ⟨D2, hD2⟩ : ∃ D, D = mofT zs l0 16 (n1 * n2) := ⟨_, rfl⟩
  obtain ⟨D3, hD3⟩ : ∃ D, D = mofT zs l0 32 (n2 * n3) := ⟨_, rfl⟩
  have M1 : ∀ w, Kp w2 w → Calls Try.prog 5 #[.int .i64 (n0 : Int), .int .i64 (n1 : Int), .slice a0 l0 c0, .int .i64 0] w fun e w' => ∃ v, e = .returned v ∧ Tn w2 w' v n0 n1 D1 ∧ Kp w w' := by rw [hD1]; exact unhide M0 n0 n1 0 g0 g1 (by decide)
  have M2 : ∀ w, Kp w2 w → Calls Try.prog 5 #[.int .i64 (n1 : Int), .int .i64 (n2 : Int), .slice a0 l0 c0, .int .i64 16] w fun e w' => ∃ v, e = .returned v ∧ Tn w2 w' v n1 n2 D2 ∧ Kp w w' := by rw [hD2]; exact unhide M0 n1 n2 16 g1 g2 (by decide)
  have M3 : ∀ w, Kp w2 w → Calls Try.prog 5 #[.int .i64 (n2 : Int), .int .i64 (n3 : Int), .slice a0 l0 c0, .int .i64 32] w fun e w' => ∃ v, e = .returned v ∧ Tn w2 w' v n2 n3 D3 ∧ Kp w w' := by rw [hD3]; exact unhide M0 n2 n3 32 g2 g3 (by decide)
  have HM1 := hide M1
  have HM2 := hide M2
  have HM3 := hide M3
  have HD1 := hide hD1
  have HD2 := hide hD2
  have HD3 := hide hD3
  clear M0 M1 M2 M3 hD1 hD2 hD3
  obtain ⟨s0, s1, s2, s3, s4⟩ := (unhide Q2).o
  go_upto_region 3 with fail
  go_cut [5, 6, 7] (fun u v t wx => ∃ T5 T6 T7 u37 u49 u61, u = .pointer (some ⟨T5, 0, none⟩) ∧ v = .pointer (some ⟨T6, 0, none⟩) ∧ t = .pointer (some ⟨T7, 0, none⟩) ∧ Hid (St w2 wx true true true true true true true true true (pt T5) (pt T6) (pt T7) u37 u49 u61 n0 n1 n2 n3 D1 D2 D3))
  case first =>
    refine wp_region_held_drew (S := fun w' => w'.cell? ⟨B, 0, none⟩ = some (.int .u8 x0) ∧ w'.cell? ⟨B, 1, none⟩ = some (.int .u8 x1) ∧ w'.cell? ⟨B, 2, none⟩ = some (.int .u8 x2) ∧ w'.cell? ⟨B, 3, none⟩ = some (.int .u8 x3)) (by kernel_rfl) (by go_keep) (fun hHeld => ?_)
    try (change wpAnyH _ _ _ _ _ _ _ _ (World.drew _))
    refine wpAnyH_take (i := 0) (v := ?_) rfl (by kernel_rfl) (by kernel_rfl) (by kernel_rfl) (fun _ _ _ h => h) (Or.inl ⟨by rfl, ?_⟩) (by assumption) ?_
    rotate_left
    focus (intro w hSw; (try dsimp only at hSw); go_simp; try with_reducible rfl)
    simp only [List.getElem_toArray, List.getElem_cons_zero, Act.put, List.setIfInBounds_toArray, List.set_cons_zero, List.set_cons_succ]
    refine wpAnyH_take (i := 1) (v := ?_) rfl (by kernel_rfl) (by kernel_rfl) (by kernel_rfl) (fun _ _ _ h => h) (Or.inl ⟨by rfl, ?_⟩) (by assumption) ?_
    rotate_left
    focus (intro w hSw; (try dsimp only at hSw); go_simp; try with_reducible rfl)
    simp only [List.getElem_toArray, List.getElem_cons_succ, List.getElem_cons_zero, Act.put, List.setIfInBounds_toArray, List.set_cons_zero, List.set_cons_succ]
    refine wpAnyH_take (i := 2) (v := ?_) rfl (by kernel_rfl) (by kernel_rfl) (by kernel_rfl) (fun _ _ _ h => h) (Or.inl ⟨by rfl, ?_⟩) (by assumption) ?_
    rotate_left
    focus (intro w hSw; (try dsimp only at hSw); go_simp; try with_reducible rfl)
    simp only [List.getElem_toArray, List.getElem_cons_succ, List.getElem_cons_zero, Act.put, List.setIfInBounds_toArray, List.set_cons_zero, List.set_cons_succ]
    refine wpAnyH_take (i := 3) (v := ?_) rfl (by kernel_rfl) (by kernel_rfl) (by kernel_rfl) (fun _ _ _ h => h) (Or.inl ⟨by rfl, ?_⟩) (by assumption) ?_
    rotate_left
    focus (intro w hSw; (try dsimp only at hSw); go_simp; try with_reducible rfl)
    simp only [List.getElem_toArray, List.getElem_cons_succ, List.getElem_cons_zero, Act.put, List.setIfInBounds_toArray, List.set_cons_zero, List.set_cons_succ]
    refine wpAnyH_take (i := 4) (v := ?_) rfl (by kernel_rfl) (by kernel_rfl) (by kernel_rfl) (fun _ _ _ h => h) (Or.inl ⟨by rfl, ?_⟩) (by assumption) ?_
    rotate_left
    focus (intro w hSw; (try dsimp only at hSw); go_simp; try with_reducible rfl)
    simp only [List.getElem_toArray, List.getElem_cons_succ, List.getElem_cons_zero, Act.put, List.setIfInBounds_toArray, List.set_cons_zero, List.set_cons_succ]
    refine wpAnyH_take (i := 5) (v := ?_) rfl (by kernel_rfl) (by kernel_rfl) (by kernel_rfl) (fun _ _ _ h => h) (Or.inl ⟨by rfl, ?_⟩) (by assumption) ?_
    rotate_left
    focus (intro w hSw; (try dsimp only at hSw); go_simp; try with_reducible rfl)
    simp only [List.getElem_toArray, List.getElem_cons_succ, List.getElem_cons_zero, Act.put, List.setIfInBounds_toArray, List.set_cons_zero, List.set_cons_succ]
    refine wpAnyH_take (i := 6) (v := ?_) rfl (by kernel_rfl) (by kernel_rfl) (by kernel_rfl) (fun _ _ _ h => h) (Or.inl ⟨by rfl, ?_⟩) (by assumption) ?_
    rotate_left
    focus (intro w hSw; (try dsimp only at hSw); go_simp; try with_reducible rfl)
    simp only [List.getElem_toArray, List.getElem_cons_succ, List.getElem_cons_zero, Act.put, List.setIfInBounds_toArray, List.set_cons_zero, List.set_cons_succ]
    refine wpAnyH_take (i := 7) (v := ?_) rfl (by kernel_rfl) (by kernel_rfl) (by kernel_rfl) (fun _ _ _ h => h) (Or.inl ⟨by rfl, ?_⟩) (by assumption) ?_
    rotate_left
    focus (intro w hSw; (try dsimp only at hSw); go_simp; try with_reducible rfl)
    simp only [List.getElem_toArray, List.getElem_cons_succ, List.getElem_cons_zero, Act.put, List.setIfInBounds_toArray, List.set_cons_zero, List.set_cons_succ]
    refine wpAnyH_take (i := 8) (v := ?_) rfl (by kernel_rfl) (by kernel_rfl) (by kernel_rfl) (fun _ _ _ h => h) (Or.inl ⟨by rfl, ?_⟩) (by assumption) ?_
    rotate_left
    focus (intro w hSw; (try dsimp only at hSw); go_simp; try with_reducible rfl)
    simp only [List.getElem_toArray, List.getElem_cons_succ, List.getElem_cons_zero, Act.put, List.setIfInBounds_toArray, List.set_cons_zero, List.set_cons_succ]
    refine wpAnyH_take (i := 9) (v := ?_) rfl (by kernel_rfl) (by kernel_rfl) (by kernel_rfl) (fun _ _ _ h => h) (Or.inl ⟨by rfl, ?_⟩) (by assumption) ?_
    rotate_left
    focus (intro w hSw; (try dsimp only at hSw); go_simp; try with_reducible rfl)
    simp only [List.getElem_toArray, List.getElem_cons_succ, List.getElem_cons_zero, Act.put, List.setIfInBounds_toArray, List.set_cons_zero, List.set_cons_succ]
    refine wpAnyH_take (i := 10) (v := ?_) rfl (by kernel_rfl) (by kernel_rfl) (by kernel_rfl) (fun _ _ _ h => h) (Or.inl ⟨by rfl, ?_⟩) (by assumption) ?_
    rotate_left
    focus (intro w hSw; (try dsimp only at hSw); go_simp; try with_reducible rfl)
    simp only [List.getElem_toArray, List.getElem_cons_succ, List.getElem_cons_zero, Act.put, List.setIfInBounds_toArray, List.set_cons_zero, List.set_cons_succ]
    refine wpAnyH_take (i := 12) (v := ?_) rfl (by kernel_rfl) (by kernel_rfl) (by kernel_rfl) (fun _ _ _ h => h) (Or.inl ⟨by rfl, ?_⟩) (by assumption) ?_
    rotate_left
    focus (intro w hSw; (try dsimp only at hSw); go_simp; try with_reducible rfl)
    simp only [List.getElem_toArray, List.getElem_cons_succ, List.getElem_cons_zero, Act.put, List.setIfInBounds_toArray, List.set_cons_zero, List.set_cons_succ]
    refine wpAnyH_take (i := 13) (v := ?_) rfl (by kernel_rfl) (by kernel_rfl) (by kernel_rfl) (fun _ _ _ h => h) (Or.inl ⟨by rfl, ?_⟩) (by assumption) ?_
    rotate_left
    focus (intro w hSw; (try dsimp only at hSw); go_simp; try with_reducible rfl)
    simp only [List.getElem_toArray, List.getElem_cons_succ, List.getElem_cons_zero, Act.put, List.setIfInBounds_toArray, List.set_cons_zero, List.set_cons_succ]
    refine wpAnyH_take (i := 14) (v := ?_) rfl (by kernel_rfl) (by kernel_rfl) (by kernel_rfl) (fun _ _ _ h => h) (Or.inl ⟨by rfl, ?_⟩) (by assumption) ?_
    rotate_left
    focus (intro w hSw; (try dsimp only at hSw); go_simp; try with_reducible rfl)
    simp only [List.getElem_toArray, List.getElem_cons_succ, List.getElem_cons_zero, Act.put, List.setIfInBounds_toArray, List.set_cons_zero, List.set_cons_succ]
    refine wpAnyH_take (i := 15) (v := ?_) rfl (by kernel_rfl) (by kernel_rfl) (by kernel_rfl) (fun _ _ _ h => h) (Or.inl ⟨by rfl, ?_⟩) (by assumption) ?_
    rotate_left
    focus (intro w hSw; (try dsimp only at hSw); go_simp; try with_reducible rfl)
    simp only [List.getElem_toArray, List.getElem_cons_succ, List.getElem_cons_zero, Act.put, List.setIfInBounds_toArray, List.set_cons_zero, List.set_cons_succ]
    refine wpAnyH_take (i := 16) (v := ?_) rfl (by kernel_rfl) (by kernel_rfl) (by kernel_rfl) (fun _ _ _ h => h) (Or.inl ⟨by rfl, ?_⟩) (by assumption) ?_
    rotate_left
    focus (intro w hSw; (try dsimp only at hSw); go_simp; try with_reducible rfl)
    simp only [List.getElem_toArray, List.getElem_cons_succ, List.getElem_cons_zero, Act.put, List.setIfInBounds_toArray, List.set_cons_zero, List.set_cons_succ]
    refine wpAnyH_take (i := 17) (v := ?_) rfl (by kernel_rfl) (by kernel_rfl) (by kernel_rfl) (fun _ _ _ h => h) (Or.inl ⟨by rfl, ?_⟩) (by assumption) ?_
    rotate_left
    focus (intro w hSw; (try dsimp only at hSw); go_simp; try with_reducible rfl)
    simp only [List.getElem_toArray, List.getElem_cons_succ, List.getElem_cons_zero, Act.put, List.setIfInBounds_toArray, List.set_cons_zero, List.set_cons_succ]
    refine wpAnyH_take (i := 18) (v := ?_) rfl (by kernel_rfl) (by kernel_rfl) (by kernel_rfl) (fun _ _ _ h => h) (Or.inl ⟨by rfl, ?_⟩) (by assumption) ?_
    rotate_left
    focus (intro w hSw; (try dsimp only at hSw); go_simp; try with_reducible rfl)
    simp only [List.getElem_toArray, List.getElem_cons_succ, List.getElem_cons_zero, Act.put, List.setIfInBounds_toArray, List.set_cons_zero, List.set_cons_succ]
    refine wpAnyH_take (i := 19) (v := ?_) rfl (by kernel_rfl) (by kernel_rfl) (by kernel_rfl) (fun _ _ _ h => h) (Or.inl ⟨by rfl, ?_⟩) (by assumption) ?_
    rotate_left
    focus (intro w hSw; (try dsimp only at hSw); go_simp; try with_reducible rfl)
    simp only [List.getElem_toArray, List.getElem_cons_succ, List.getElem_cons_zero, Act.put, List.setIfInBounds_toArray, List.set_cons_zero, List.set_cons_succ]
    refine wpAnyH_take (i := 20) (v := ?_) rfl (by kernel_rfl) (by kernel_rfl) (by kernel_rfl) (fun _ _ _ h => h) (Or.inl ⟨by rfl, ?_⟩) (by assumption) ?_
    rotate_left
    focus (intro w hSw; (try dsimp only at hSw); go_simp; try with_reducible rfl)
    simp only [List.getElem_toArray, List.getElem_cons_succ, List.getElem_cons_zero, Act.put, List.setIfInBounds_toArray, List.set_cons_zero, List.set_cons_succ]
    refine wpAnyH_take (i := 21) (v := ?_) rfl (by kernel_rfl) (by kernel_rfl) (by kernel_rfl) (fun _ _ _ h => h) (Or.inl ⟨by rfl, ?_⟩) (by assumption) ?_
    rotate_left
    focus (intro w hSw; (try dsimp only at hSw); go_simp; try with_reducible rfl)
    simp only [List.getElem_toArray, List.getElem_cons_succ, List.getElem_cons_zero, Act.put, List.setIfInBounds_toArray, List.set_cons_zero, List.set_cons_succ]
    refine wpAnyH_take (i := 22) (v := ?_) rfl (by kernel_rfl) (by kernel_rfl) (by kernel_rfl) (fun _ _ _ h => h) (Or.inl ⟨by rfl, ?_⟩) (by assumption) ?_
    rotate_left
    focus (intro w hSw; (try dsimp only at hSw); go_simp; try with_reducible rfl)
    simp only [List.getElem_toArray, List.getElem_cons_succ, List.getElem_cons_zero, Act.put, List.setIfInBounds_toArray, List.set_cons_zero, List.set_cons_succ]
    refine wpAnyH_take (i := 24) (v := ?_) rfl (by kernel_rfl) (by kernel_rfl) (by kernel_rfl) (fun _ _ _ h => h) (Or.inl ⟨by rfl, ?_⟩) (by assumption) ?_
    rotate_left
    focus (intro w hSw; (try dsimp only at hSw); go_simp; try with_reducible rfl)
    simp only [List.getElem_toArray, List.getElem_cons_succ, List.getElem_cons_zero, Act.put, List.setIfInBounds_toArray, List.set_cons_zero, List.set_cons_succ]
    refine wpAnyH_take (i := 25) (v := ?_) rfl (by kernel_rfl) (by kernel_rfl) (by kernel_rfl) (fun _ _ _ h => h) (Or.inl ⟨by rfl, ?_⟩) (by assumption) ?_
    rotate_left
    focus (intro w hSw; (try dsimp only at hSw); go_simp; try with_reducible rfl)
    simp only [List.getElem_toArray, List.getElem_cons_succ, List.getElem_cons_zero, Act.put, List.setIfInBounds_toArray, List.set_cons_zero, List.set_cons_succ]
    refine wpAnyH_take (i := 26) (v := ?_) rfl (by kernel_rfl) (by kernel_rfl) (by kernel_rfl) (fun _ _ _ h => h) (Or.inl ⟨by rfl, ?_⟩) (by assumption) ?_
    rotate_left
    focus (intro w hSw; (try dsimp only at hSw); go_simp; try with_reducible rfl)
    simp only [List.getElem_toArray, List.getElem_cons_succ, List.getElem_cons_zero, Act.put, List.setIfInBounds_toArray, List.set_cons_zero, List.set_cons_succ]
    refine wpAnyH_take (i := 27) (v := ?_) rfl (by kernel_rfl) (by kernel_rfl) (by kernel_rfl) (fun _ _ _ h => h) (Or.inl ⟨by rfl, ?_⟩) (by assumption) ?_
    rotate_left
    focus (intro w hSw; (try dsimp only at hSw); go_simp; try with_reducible rfl)
    simp only [List.getElem_toArray, List.getElem_cons_succ, List.getElem_cons_zero, Act.put, List.setIfInBounds_toArray, List.set_cons_zero, List.set_cons_succ]
    refine wpAnyH_take (i := 28) (v := ?_) rfl (by kernel_rfl) (by kernel_rfl) (by kernel_rfl) (fun _ _ _ h => h) (Or.inl ⟨by rfl, ?_⟩) (by assumption) ?_
    rotate_left
    focus (intro w hSw; (try dsimp only at hSw); go_simp; try with_reducible rfl)
    simp only [List.getElem_toArray, List.getElem_cons_succ, List.getElem_cons_zero, Act.put, List.setIfInBounds_toArray, List.set_cons_zero, List.set_cons_succ]
    refine wpAnyH_take (i := 29) (v := ?_) rfl (by kernel_rfl) (by kernel_rfl) (by kernel_rfl) (fun _ _ _ h => h) (Or.inl ⟨by rfl, ?_⟩) (by assumption) ?_
    rotate_left
    focus (intro w hSw; (try dsimp only at hSw); go_simp; try with_reducible rfl)
    simp only [List.getElem_toArray, List.getElem_cons_succ, List.getElem_cons_zero, Act.put, List.setIfInBounds_toArray, List.set_cons_zero, List.set_cons_succ]
    refine wpAnyH_take (i := 30) (v := ?_) rfl (by kernel_rfl) (by kernel_rfl) (by kernel_rfl) (fun _ _ _ h => h) (Or.inl ⟨by rfl, ?_⟩) (by assumption) ?_
    rotate_left
    focus (intro w hSw; (try dsimp only at hSw); go_simp; try with_reducible rfl)
    simp only [List.getElem_toArray, List.getElem_cons_succ, List.getElem_cons_zero, Act.put, List.setIfInBounds_toArray, List.set_cons_zero, List.set_cons_succ]
    refine wpAnyH_take (i := 31) (v := ?_) rfl (by kernel_rfl) (by kernel_rfl) (by kernel_rfl) (fun _ _ _ h => h) (Or.inl ⟨by rfl, ?_⟩) (by assumption) ?_
    rotate_left
    focus (intro w hSw; (try dsimp only at hSw); go_simp; try with_reducible rfl)
    simp only [List.getElem_toArray, List.getElem_cons_succ, List.getElem_cons_zero, Act.put, List.setIfInBounds_toArray, List.set_cons_zero, List.set_cons_succ]
    refine wpAnyH_take (i := 32) (v := ?_) rfl (by kernel_rfl) (by kernel_rfl) (by kernel_rfl) (fun _ _ _ h => h) (Or.inl ⟨by rfl, ?_⟩) (by assumption) ?_
    rotate_left
    focus (intro w hSw; (try dsimp only at hSw); go_simp; try with_reducible rfl)
    simp only [List.getElem_toArray, List.getElem_cons_succ, List.getElem_cons_zero, Act.put, List.setIfInBounds_toArray, List.set_cons_zero, List.set_cons_succ]
    refine wpAnyH_take (i := 33) (v := ?_) rfl (by kernel_rfl) (by kernel_rfl) (by kernel_rfl) (fun _ _ _ h => h) (Or.inl ⟨by rfl, ?_⟩) (by assumption) ?_
    rotate_left
    focus (intro w hSw; (try dsimp only at hSw); go_simp; try with_reducible rfl)
    simp only [List.getElem_toArray, List.getElem_cons_succ, List.getElem_cons_zero, Act.put, List.setIfInBounds_toArray, List.set_cons_zero, List.set_cons_succ]
    refine wpAnyH_take (i := 34) (v := ?_) rfl (by kernel_rfl) (by kernel_rfl) (by kernel_rfl) (fun _ _ _ h => h) (Or.inl ⟨by rfl, ?_⟩) (by assumption) ?_
    rotate_left
    focus (intro w hSw; (try dsimp only at hSw); go_simp; try with_reducible rfl)
    simp only [List.getElem_toArray, List.getElem_cons_succ, List.getElem_cons_zero, Act.put, List.setIfInBounds_toArray, List.set_cons_zero, List.set_cons_succ]
    refine fold4 (F := wpAnyH Try.prog .any _ _ _) ?_
    intro F A hF hA
    have hsz : 61 < A.tmps.size := by rw [hA]; simp only [List.size_toArray, List.length_cons, List.length_nil]; omega
    have hA30 : A.tmps[30]?.getD undef = .int .i64 (n0 : Int) := by rw [hA]; simp only [List.getElem?_toArray, List.getElem?_cons_succ, List.getElem?_cons_zero, Option.getD_some]
    have hA35 : A.tmps[35]?.getD undef = .int .i64 (n1 : Int) := by rw [hA]; simp only [List.getElem?_toArray, List.getElem?_cons_succ, List.getElem?_cons_zero, Option.getD_some]
    have hA36 : A.tmps[36]?.getD undef = .slice a0 l0 c0 := by rw [hA]; simp only [List.getElem?_toArray, List.getElem?_cons_succ, List.getElem?_cons_zero, Option.getD_some]
    have hA42 : A.tmps[42]?.getD undef = .int .i64 (n1 : Int) := by rw [hA]; simp only [List.getElem?_toArray, List.getElem?_cons_succ, List.getElem?_cons_zero, Option.getD_some]
    have hA47 : A.tmps[47]?.getD undef = .int .i64 (n2 : Int) := by rw [hA]; simp only [List.getElem?_toArray, List.getElem?_cons_succ, List.getElem?_cons_zero, Option.getD_some]
    have hA48 : A.tmps[48]?.getD undef = .slice a0 l0 c0 := by rw [hA]; simp only [List.getElem?_toArray, List.getElem?_cons_succ, List.getElem?_cons_zero, Option.getD_some]
    have hA54 : A.tmps[54]?.getD undef = .int .i64 (n2 : Int) := by rw [hA]; simp only [List.getElem?_toArray, List.getElem?_cons_succ, List.getElem?_cons_zero, Option.getD_some]
    have hA59 : A.tmps[59]?.getD undef = .int .i64 (n3 : Int) := by rw [hA]; simp only [List.getElem?_toArray, List.getElem?_cons_succ, List.getElem?_cons_zero, Option.getD_some]
    have hA60 : A.tmps[60]?.getD undef = .slice a0 l0 c0 := by rw [hA]; simp only [List.getElem?_toArray, List.getElem?_cons_succ, List.getElem?_cons_zero, Option.getD_some]
    have hch : A = ch A undef undef undef undef undef undef := by
      subst hA
      simp only [ch, List.setIfInBounds_toArray, List.set_cons_zero, List.set_cons_succ]
    rw [hch, hF]
    change wpAnyH _ _ _ _ _ 9 (li false false false 0 0) _ _
    refine three_made (A := A) (a0 := a0) (l0 := l0) (c0 := c0) (n0 := n0) (n1 := n1) (n2 := n2) (n3 := n3) (D1 := D1) (D2 := D2) (D3 := D3) (w2 := w2) (by kernel_rfl) (by kernel_rfl) (by kernel_rfl) (by kernel_rfl) (by kernel_rfl) (by kernel_rfl) (by kernel_rfl) (by kernel_rfl) (by kernel_rfl) (by kernel_rfl) (by kernel_rfl) (by kernel_rfl) (by kernel_rfl) (by kernel_rfl) (by kernel_rfl) (by kernel_rfl) (by kernel_rfl) (by kernel_rfl) (by kernel_rfl) (by kernel_rfl) (by kernel_rfl) (by kernel_rfl) (by kernel_rfl) (by kernel_rfl) (by kernel_rfl) (by kernel_rfl) (by kernel_rfl) (by kernel_rfl) (by kernel_rfl) (by kernel_rfl) (by kernel_rfl) (by kernel_rfl) (by kernel_rfl) (by kernel_rfl) (by kernel_rfl) (by kernel_rfl) (by kernel_rfl) (by kernel_rfl) (by kernel_rfl) (by kernel_rfl) (by kernel_rfl) (by kernel_rfl) (by kernel_rfl) (by kernel_rfl) hA30 hA35 hA36 hA42 hA47 hA48 hA54 hA59 hA60 (unhide HM1) (unhide HM2) (unhide HM3) (unhide SK) hsz ?_ _ (Kp.drew _)
    intro u5 u6 u7 u37 u49 u61 w h
    obtain ⟨T5, x5, y5, rfl, -, -⟩ := h.x5 rfl
    obtain ⟨T6, x6, y6, rfl, -, -⟩ := h.x6 rfl
    obtain ⟨T7, x7, y7, rfl, -, -⟩ := h.x7 rfl
    have HH := hide h
    rw [hA]
    simp only [ch, pt, List.setIfInBounds_toArray, List.set_cons_zero, List.set_cons_succ]
    clear h hF hA hch
    go_wp2_with fail
    go_meet
    exact ⟨T5, T6, T7, u37, u49, u61, rfl, rfl, rfl, unhide HH⟩
  case rest =>
    obtain ⟨T5, T6, T7, u37, u49, u61, rfl, rfl, rfl, HH⟩ := hcut
    have HZ : Hid (∀ i, i < l0 → -128 ≤ zs.getD i 0 ∧ zs.getD i 0 ≤ 127) := fun i hi => (unhide HR2 i hi).2
    have WA : Hid (WhM (n0 * n1) D1 (mofZ zs l0 0) 128) := by rw [unhide HD1]; exact mofT_wh (unhide HZ) _ _
    have WB : Hid (WhM (n1 * n2) D2 (mofZ zs l0 16) 128) := by rw [unhide HD2]; exact mofT_wh (unhide HZ) _ _
    have WC : Hid (WhM (n2 * n3) D3 (mofZ zs l0 32) 128) := by rw [unhide HD3]; exact mofT_wh (unhide HZ) _ _
    have b1 : n0 * n1 ≤ 4 * 4 := Nat.mul_le_mul g0.2 g1.2
    have b2 : n1 * n2 ≤ 4 * 4 := Nat.mul_le_mul g1.2 g2.2
    have b3 : n2 * n3 ≤ 4 * 4 := Nat.mul_le_mul g2.2 g3.2
    obtain ⟨⟨L1, p1, q1, y1, i1, f1, z1⟩, ⟨L2, p2, q2, y2, i2, f2, z2⟩, ⟨L3, p3, q3, y3, i3, f3, z3⟩⟩ := (unhide HH).boxes g0.2 g1.2 g2.2 g3.2 (by rw [unhide HD1]; exact mofT_w64 _ _ _ _) (by rw [unhide HD2]; exact mofT_w64 _ _ _ _) (by rw [unhide HD3]; exact mofT_w64 _ _ _ _) (by rw [(unhide WA).len]; omega) (by rw [(unhide WB).len]; omega) (by rw [(unhide WC).len]; omega)
    have K10 := hide ((unhide K2).trans (unhide HH).kp)
    have E1_10 := hide i1
    have E2_10 := hide i2
    have E3_10 := hide i3
    have F1_10 := hide f1
    have F2_10 := hide f2
    have F3_10 := hide f3
    have R1 := hide z1
    have R2 := hide z2
    have R3 := hide z3
    have Y1_10 := hide y1
    have Y2_10 := hide y2
    have Y3_10 := hide y3
    clear HM1 HM2 HM3 HD1 HD2 HD3 HR2 K2 Q2 SK HZ HH s0 s1 s2 s3 s4 t0 t1 t2 t3 r0 r1 r2 r3 v0 v1 v2 v3 e0 e1 e2 e3 h0 h1 h2 h3 b1 b2 b3 i1 i2 i3 f1 f2 f3 z1 z2 z3 y1 y2 y3
    generalize wc = w10 at *
    by_cases hl : 300 < l0
    · have hlI : (300 : Int) < (l0 : Int) := by omega
      have hlJ : decide ((l0 : Int) > 300) = true := decide_eq_true (by omega)
      obtain ⟨Y10_10, Y11_10, -, -, Y14_10⟩ := (unhide Y1_10).o
      obtain ⟨Y20_10, Y21_10, -, -, Y24_10⟩ := (unhide Y2_10).o
      obtain ⟨Y30_10, Y31_10, -, -, Y34_10⟩ := (unhide Y3_10).o
      go_wp2
      go_ret
      exact ⟨rfl, unhide K10⟩
    · have hlI : ¬ (300 : Int) < (l0 : Int) := by omega
      have hlJ : decide ((l0 : Int) > 300) = false := decide_eq_false (by omega)
      obtain ⟨Y10_10, Y11_10, -, -, Y14_10⟩ := (unhide Y1_10).o
      obtain ⟨Y20_10, Y21_10, -, -, Y24_10⟩ := (unhide Y2_10).o
      obtain ⟨Y30_10, Y31_10, -, -, Y34_10⟩ := (unhide Y3_10).o
      go_wp2_with fail
      refine (mul4 _ _ _ _ n0 n1 n2 D1 D2 w10 g0 g1 g2 (unhide WA).len (unhide WB).len (unhide E1_10) (unhide F1_10) (unhide R1) (unhide E2_10) (unhide F2_10)).mono ?_
      rintro e w11 ⟨lx1, ⟨ax1, cx1, bx1, dx1, rfl, sx1, fx1, ux1, vx1⟩, hx1, k11⟩
      have K11 := hide ((unhide K10).trans k11)
      have E1_11 := hide ((unhide E1_10).keep k11)
      have E2_11 := hide ((unhide E2_10).keep k11)
      have E3_11 := hide ((unhide E3_10).keep k11)
      have F1_11 := hide ((unhide F1_10).keep k11)
      have F2_11 := hide ((unhide F2_10).keep k11)
      have F3_11 := hide ((unhide F3_10).keep k11)
      have Y1_11 := hide ((unhide Y1_10).keep k11)
      have Y2_11 := hide ((unhide Y2_10).keep k11)
      have Y3_11 := hide ((unhide Y3_10).keep k11)
      clear K10 E1_10 E2_10 E3_10 F1_10 F2_10 F3_10 Y1_10 Y10_10 Y11_10 Y14_10 Y2_10 Y20_10 Y21_10 Y24_10 Y3_10 Y30_10 Y31_10 Y34_10
      obtain ⟨Y10_11, Y11_11, -, -, Y14_11⟩ := (unhide Y1_11).o
      obtain ⟨Y20_11, Y21_11, -, -, Y24_11⟩ := (unhide Y2_11).o
      obtain ⟨Y30_11, Y31_11, -, -, Y34_11⟩ := (unhide Y3_11).o
      clear k11
      have Hx1 := hide hx1
      clear hx1
      have Rx1 : Hid (Roomy (.slice bx1 lx1.length dx1)) := roomy _ _ _ ux1 vx1
      clear ux1 vx1
      have Sx1_11 := hide sx1
      have Dx1_11 := hide fx1
      clear sx1 fx1
      go_wp2_with fail
      have Bx1_12 := hide (Bx.madeAt w11 (.slice ax1 [(n0 : Int), (n2 : Int)].length cx1) (.slice bx1 lx1.length dx1) (w11.heap.size) rfl)
      have q12 := Kp.alloc w11 (.cells #[(.slice ax1 [(n0 : Int), (n2 : Int)].length cx1), (.slice bx1 lx1.length dx1)] 28)
      generalize (w11.alloc (.cells #[(.slice ax1 [(n0 : Int), (n2 : Int)].length cx1), (.slice bx1 lx1.length dx1)] 28)) = w12 at *
      have K12 := hide ((unhide K11).trans q12)
      have E1_12 := hide ((unhide E1_11).keep q12)
      have E2_12 := hide ((unhide E2_11).keep q12)
      have E3_12 := hide ((unhide E3_11).keep q12)
      have F1_12 := hide ((unhide F1_11).keep q12)
      have F2_12 := hide ((unhide F2_11).keep q12)
      have F3_12 := hide ((unhide F3_11).keep q12)
      have Sx1_12 := hide ((unhide Sx1_11).keep q12)
      have Dx1_12 := hide ((unhide Dx1_11).keep q12)
      have Y1_12 := hide ((unhide Y1_11).keep q12)
      have Y2_12 := hide ((unhide Y2_11).keep q12)
      have Y3_12 := hide ((unhide Y3_11).keep q12)
      clear K11 E1_11 E2_11 E3_11 F1_11 F2_11 F3_11 Sx1_11 Dx1_11 Y1_11 Y10_11 Y11_11 Y14_11 Y2_11 Y20_11 Y21_11 Y24_11 Y3_11 Y30_11 Y31_11 Y34_11
      obtain ⟨Y10_12, Y11_12, -, -, Y14_12⟩ := (unhide Y1_12).o
      obtain ⟨Y20_12, Y21_12, -, -, Y24_12⟩ := (unhide Y2_12).o
      obtain ⟨Y30_12, Y31_12, -, -, Y34_12⟩ := (unhide Y3_12).o
      clear q12
      generalize w11.heap.size = B_Bx1 at *
      obtain ⟨Bx10_12, Bx11_12, -, -, Bx14_12⟩ := (unhide Bx1_12).o
      refine (mul4 _ _ _ _ n1 n2 n3 D2 D3 w12 g1 g2 g3 (unhide WB).len (unhide WC).len (unhide E2_12) (unhide F2_12) (unhide R2) (unhide E3_12) (unhide F3_12)).mono ?_
      rintro e w13 ⟨lx2, ⟨ax2, cx2, bx2, dx2, rfl, sx2, fx2, ux2, vx2⟩, hx2, k13⟩
      have K13 := hide ((unhide K12).trans k13)
      have E1_13 := hide ((unhide E1_12).keep k13)
      have E2_13 := hide ((unhide E2_12).keep k13)
      have E3_13 := hide ((unhide E3_12).keep k13)
      have F1_13 := hide ((unhide F1_12).keep k13)
      have F2_13 := hide ((unhide F2_12).keep k13)
      have F3_13 := hide ((unhide F3_12).keep k13)
      have Sx1_13 := hide ((unhide Sx1_12).keep k13)
      have Dx1_13 := hide ((unhide Dx1_12).keep k13)
      have Y1_13 := hide ((unhide Y1_12).keep k13)
      have Y2_13 := hide ((unhide Y2_12).keep k13)
      have Y3_13 := hide ((unhide Y3_12).keep k13)
      have Bx1_13 := hide ((unhide Bx1_12).keep k13)
      clear K12 E1_12 E2_12 E3_12 F1_12 F2_12 F3_12 Sx1_12 Dx1_12 Y1_12 Y10_12 Y11_12 Y14_12 Y2_12 Y20_12 Y21_12 Y24_12 Y3_12 Y30_12 Y31_12 Y34_12 Bx1_12 Bx10_12 Bx11_12 Bx14_12
      obtain ⟨Y10_13, Y11_13, -, -, Y14_13⟩ := (unhide Y1_13).o
      obtain ⟨Y20_13, Y21_13, -, -, Y24_13⟩ := (unhide Y2_13).o
      obtain ⟨Y30_13, Y31_13, -, -, Y34_13⟩ := (unhide Y3_13).o
      obtain ⟨Bx10_13, Bx11_13, -, -, Bx14_13⟩ := (unhide Bx1_13).o
      clear k13
      have Hx2 := hide hx2
      clear hx2
      have Rx2 : Hid (Roomy (.slice bx2 lx2.length dx2)) := roomy _ _ _ ux2 vx2
      clear ux2 vx2
      have Sx2_13 := hide sx2
      have Dx2_13 := hide fx2
      clear sx2 fx2
      go_wp2_with fail
      have Bx2_14 := hide (Bx.madeAt w13 (.slice ax2 [(n1 : Int), (n3 : Int)].length cx2) (.slice bx2 lx2.length dx2) (w13.heap.size) rfl)
      have q14 := Kp.alloc w13 (.cells #[(.slice ax2 [(n1 : Int), (n3 : Int)].length cx2), (.slice bx2 lx2.length dx2)] 28)
      generalize (w13.alloc (.cells #[(.slice ax2 [(n1 : Int), (n3 : Int)].length cx2), (.slice bx2 lx2.length dx2)] 28)) = w14 at *
      have K14 := hide ((unhide K13).trans q14)
      have E1_14 := hide ((unhide E1_13).keep q14)
      have E2_14 := hide ((unhide E2_13).keep q14)
      have E3_14 := hide ((unhide E3_13).keep q14)
      have F1_14 := hide ((unhide F1_13).keep q14)
      have F2_14 := hide ((unhide F2_13).keep q14)
      have F3_14 := hide ((unhide F3_13).keep q14)
      have Sx1_14 := hide ((unhide Sx1_13).keep q14)
      have Dx1_14 := hide ((unhide Dx1_13).keep q14)
      have Sx2_14 := hide ((unhide Sx2_13).keep q14)
      have Dx2_14 := hide ((unhide Dx2_13).keep q14)
      have Y1_14 := hide ((unhide Y1_13).keep q14)
      have Y2_14 := hide ((unhide Y2_13).keep q14)
      have Y3_14 := hide ((unhide Y3_13).keep q14)
      have Bx1_14 := hide ((unhide Bx1_13).keep q14)
      clear K13 E1_13 E2_13 E3_13 F1_13 F2_13 F3_13 Sx1_13 Dx1_13 Sx2_13 Dx2_13 Y1_13 Y10_13 Y11_13 Y14_13 Y2_13 Y20_13 Y21_13 Y24_13 Y3_13 Y30_13 Y31_13 Y34_13 Bx1_13 Bx10_13 Bx11_13 Bx14_13
      obtain ⟨Y10_14, Y11_14, -, -, Y14_14⟩ := (unhide Y1_14).o
      obtain ⟨Y20_14, Y21_14, -, -, Y24_14⟩ := (unhide Y2_14).o
      obtain ⟨Y30_14, Y31_14, -, -, Y34_14⟩ := (unhide Y3_14).o
      obtain ⟨Bx10_14, Bx11_14, -, -, Bx14_14⟩ := (unhide Bx1_14).o
      clear q14
      generalize w13.heap.size = B_Bx2 at *
      obtain ⟨Bx20_14, Bx21_14, -, -, Bx24_14⟩ := (unhide Bx2_14).o
      refine (mul4 _ _ _ _ n0 n2 n3 lx1 D3 w14 g0 g2 g3 (unhide Hx1).2 (unhide WC).len (unhide Sx1_14) (unhide Dx1_14) (unhide Rx1) (unhide E3_14) (unhide F3_14)).mono ?_
      rintro e w15 ⟨lx3, ⟨ax3, cx3, bx3, dx3, rfl, sx3, fx3, ux3, vx3⟩, hx3, k15⟩
      have K15 := hide ((unhide K14).trans k15)
      have E1_15 := hide ((unhide E1_14).keep k15)
      have E2_15 := hide ((unhide E2_14).keep k15)
      have E3_15 := hide ((unhide E3_14).keep k15)
      have F1_15 := hide ((unhide F1_14).keep k15)
      have F2_15 := hide ((unhide F2_14).keep k15)
      have F3_15 := hide ((unhide F3_14).keep k15)
      have Sx1_15 := hide ((unhide Sx1_14).keep k15)
      have Dx1_15 := hide ((unhide Dx1_14).keep k15)
      have Sx2_15 := hide ((unhide Sx2_14).keep k15)
      have Dx2_15 := hide ((unhide Dx2_14).keep k15)
      have Y1_15 := hide ((unhide Y1_14).keep k15)
      have Y2_15 := hide ((unhide Y2_14).keep k15)
      have Y3_15 := hide ((unhide Y3_14).keep k15)
      have Bx1_15 := hide ((unhide Bx1_14).keep k15)
      have Bx2_15 := hide ((unhide Bx2_14).keep k15)
      clear K14 E1_14 E2_14 E3_14 F1_14 F2_14 F3_14 Sx1_14 Dx1_14 Sx2_14 Dx2_14 Y1_14 Y10_14 Y11_14 Y14_14 Y2_14 Y20_14 Y21_14 Y24_14 Y3_14 Y30_14 Y31_14 Y34_14 Bx1_14 Bx10_14 Bx11_14 Bx14_14 Bx2_14 Bx20_14 Bx21_14 Bx24_14
      obtain ⟨Y10_15, Y11_15, -, -, Y14_15⟩ := (unhide Y1_15).o
      obtain ⟨Y20_15, Y21_15, -, -, Y24_15⟩ := (unhide Y2_15).o
      obtain ⟨Y30_15, Y31_15, -, -, Y34_15⟩ := (unhide Y3_15).o
      obtain ⟨Bx10_15, Bx11_15, -, -, Bx14_15⟩ := (unhide Bx1_15).o
      obtain ⟨Bx20_15, Bx21_15, -, -, Bx24_15⟩ := (unhide Bx2_15).o
      clear k15
      have Hx3 := hide hx3
      clear hx3
      have Rx3 : Hid (Roomy (.slice bx3 lx3.length dx3)) := roomy _ _ _ ux3 vx3
      clear ux3 vx3
      have Sx3_15 := hide sx3
      have Dx3_15 := hide fx3
      clear sx3 fx3
      go_wp2_with fail
      have Bx3_16 := hide (Bx.madeAt w15 (.slice ax3 [(n0 : Int), (n3 : Int)].length cx3) (.slice bx3 lx3.length dx3) (w15.heap.size) rfl)
      have q16 := Kp.alloc w15 (.cells #[(.slice ax3 [(n0 : Int), (n3 : Int)].length cx3), (.slice bx3 lx3.length dx3)] 28)
      generalize (w15.alloc (.cells #[(.slice ax3 [(n0 : Int), (n3 : Int)].length cx3), (.slice bx3 lx3.length dx3)] 28)) = w16 at *
      have K16 := hide ((unhide K15).trans q16)
      have E1_16 := hide ((unhide E1_15).keep q16)
      have E2_16 := hide ((unhide E2_15).keep q16)
      have E3_16 := hide ((unhide E3_15).keep q16)
      have F1_16 := hide ((unhide F1_15).keep q16)
      have F2_16 := hide ((unhide F2_15).keep q16)
      have F3_16 := hide ((unhide F3_15).keep q16)
      have Sx1_16 := hide ((unhide Sx1_15).keep q16)
      have Dx1_16 := hide ((unhide Dx1_15).keep q16)
      have Sx2_16 := hide ((unhide Sx2_15).keep q16)
      have Dx2_16 := hide ((unhide Dx2_15).keep q16)
      have Sx3_16 := hide ((unhide Sx3_15).keep q16)
      have Dx3_16 := hide ((unhide Dx3_15).keep q16)
      have Y1_16 := hide ((unhide Y1_15).keep q16)
      have Y2_16 := hide ((unhide Y2_15).keep q16)
      have Y3_16 := hide ((unhide Y3_15).keep q16)
      have Bx1_16 := hide ((unhide Bx1_15).keep q16)
      have Bx2_16 := hide ((unhide Bx2_15).keep q16)
      clear K15 E1_15 E2_15 E3_15 F1_15 F2_15 F3_15 Sx1_15 Dx1_15 Sx2_15 Dx2_15 Sx3_15 Dx3_15 Y1_15 Y10_15 Y11_15 Y14_15 Y2_15 Y20_15 Y21_15 Y24_15 Y3_15 Y30_15 Y31_15 Y34_15 Bx1_15 Bx10_15 Bx11_15 Bx14_15 Bx2_15 Bx20_15 Bx21_15 Bx24_15
      obtain ⟨Y10_16, Y11_16, -, -, Y14_16⟩ := (unhide Y1_16).o
      obtain ⟨Y20_16, Y21_16, -, -, Y24_16⟩ := (unhide Y2_16).o
      obtain ⟨Y30_16, Y31_16, -, -, Y34_16⟩ := (unhide Y3_16).o
      obtain ⟨Bx10_16, Bx11_16, -, -, Bx14_16⟩ := (unhide Bx1_16).o
      obtain ⟨Bx20_16, Bx21_16, -, -, Bx24_16⟩ := (unhide Bx2_16).o
      clear q16
      generalize w15.heap.size = B_Bx3 at *
      obtain ⟨Bx30_16, Bx31_16, -, -, Bx34_16⟩ := (unhide Bx3_16).o
      refine (mul4 _ _ _ _ n0 n1 n3 D1 lx2 w16 g0 g1 g3 (unhide WA).len (unhide Hx2).2 (unhide E1_16) (unhide F1_16) (unhide R1) (unhide Sx2_16) (unhide Dx2_16)).mono ?_
      rintro e w17 ⟨lx4, ⟨ax4, cx4, bx4, dx4, rfl, sx4, fx4, ux4, vx4⟩, hx4, k17⟩
      have K17 := hide ((unhide K16).trans k17)
      have E1_17 := hide ((unhide E1_16).keep k17)
      have E2_17 := hide ((unhide E2_16).keep k17)
      have E3_17 := hide ((unhide E3_16).keep k17)
      have F1_17 := hide ((unhide F1_16).keep k17)
      have F2_17 := hide ((unhide F2_16).keep k17)
      have F3_17 := hide ((unhide F3_16).keep k17)
      have Sx1_17 := hide ((unhide Sx1_16).keep k17)
      have Dx1_17 := hide ((unhide Dx1_16).keep k17)
      have Sx2_17 := hide ((unhide Sx2_16).keep k17)
      have Dx2_17 := hide ((unhide Dx2_16).keep k17)
      have Sx3_17 := hide ((unhide Sx3_16).keep k17)
      have Dx3_17 := hide ((unhide Dx3_16).keep k17)
      have Y1_17 := hide ((unhide Y1_16).keep k17)
      have Y2_17 := hide ((unhide Y2_16).keep k17)
      have Y3_17 := hide ((unhide Y3_16).keep k17)
      have Bx1_17 := hide ((unhide Bx1_16).keep k17)
      have Bx2_17 := hide ((unhide Bx2_16).keep k17)
      have Bx3_17 := hide ((unhide Bx3_16).keep k17)
      clear K16 E1_16 E2_16 E3_16 F1_16 F2_16 F3_16 Sx1_16 Dx1_16 Sx2_16 Dx2_16 Sx3_16 Dx3_16 Y1_16 Y10_16 Y11_16 Y14_16 Y2_16 Y20_16 Y21_16 Y24_16 Y3_16 Y30_16 Y31_16 Y34_16 Bx1_16 Bx10_16 Bx11_16 Bx14_16 Bx2_16 Bx20_16 Bx21_16 Bx24_16 Bx3_16 Bx30_16 Bx31_16 Bx34_16
      obtain ⟨Y10_17, Y11_17, -, -, Y14_17⟩ := (unhide Y1_17).o
      obtain ⟨Y20_17, Y21_17, -, -, Y24_17⟩ := (unhide Y2_17).o
      obtain ⟨Y30_17, Y31_17, -, -, Y34_17⟩ := (unhide Y3_17).o
      obtain ⟨Bx10_17, Bx11_17, -, -, Bx14_17⟩ := (unhide Bx1_17).o
      obtain ⟨Bx20_17, Bx21_17, -, -, Bx24_17⟩ := (unhide Bx2_17).o
      obtain ⟨Bx30_17, Bx31_17, -, -, Bx34_17⟩ := (unhide Bx3_17).o
      clear k17
      have Hx4 := hide hx4
      clear hx4
      have Rx4 : Hid (Roomy (.slice bx4 lx4.length dx4)) := roomy _ _ _ ux4 vx4
      clear ux4 vx4
      have Sx4_17 := hide sx4
      have Dx4_17 := hide fx4
      clear sx4 fx4
      go_wp2_with fail
      have Bx4_18 := hide (Bx.madeAt w17 (.slice ax4 [(n0 : Int), (n3 : Int)].length cx4) (.slice bx4 lx4.length dx4) (w17.heap.size) rfl)
      have q18 := Kp.alloc w17 (.cells #[(.slice ax4 [(n0 : Int), (n3 : Int)].length cx4), (.slice bx4 lx4.length dx4)] 28)
      generalize (w17.alloc (.cells #[(.slice ax4 [(n0 : Int), (n3 : Int)].length cx4), (.slice bx4 lx4.length dx4)] 28)) = w18 at *
      have K18 := hide ((unhide K17).trans q18)
      have E1_18 := hide ((unhide E1_17).keep q18)
      have E2_18 := hide ((unhide E2_17).keep q18)
      have E3_18 := hide ((unhide E3_17).keep q18)
      have F1_18 := hide ((unhide F1_17).keep q18)
      have F2_18 := hide ((unhide F2_17).keep q18)
      have F3_18 := hide ((unhide F3_17).keep q18)
      have Sx1_18 := hide ((unhide Sx1_17).keep q18)
      have Dx1_18 := hide ((unhide Dx1_17).keep q18)
      have Sx2_18 := hide ((unhide Sx2_17).keep q18)
      have Dx2_18 := hide ((unhide Dx2_17).keep q18)
      have Sx3_18 := hide ((unhide Sx3_17).keep q18)
      have Dx3_18 := hide ((unhide Dx3_17).keep q18)
      have Sx4_18 := hide ((unhide Sx4_17).keep q18)
      have Dx4_18 := hide ((unhide Dx4_17).keep q18)
      have Y1_18 := hide ((unhide Y1_17).keep q18)
      have Y2_18 := hide ((unhide Y2_17).keep q18)
      have Y3_18 := hide ((unhide Y3_17).keep q18)
      have Bx1_18 := hide ((unhide Bx1_17).keep q18)
      have Bx2_18 := hide ((unhide Bx2_17).keep q18)
      have Bx3_18 := hide ((unhide Bx3_17).keep q18)
      clear K17 E1_17 E2_17 E3_17 F1_17 F2_17 F3_17 Sx1_17 Dx1_17 Sx2_17 Dx2_17 Sx3_17 Dx3_17 Sx4_17 Dx4_17 Y1_17 Y10_17 Y11_17 Y14_17 Y2_17 Y20_17 Y21_17 Y24_17 Y3_17 Y30_17 Y31_17 Y34_17 Bx1_17 Bx10_17 Bx11_17 Bx14_17 Bx2_17 Bx20_17 Bx21_17 Bx24_17 Bx3_17 Bx30_17 Bx31_17 Bx34_17
      obtain ⟨Y10_18, Y11_18, -, -, Y14_18⟩ := (unhide Y1_18).o
      obtain ⟨Y20_18, Y21_18, -, -, Y24_18⟩ := (unhide Y2_18).o
      obtain ⟨Y30_18, Y31_18, -, -, Y34_18⟩ := (unhide Y3_18).o
      obtain ⟨Bx10_18, Bx11_18, -, -, Bx14_18⟩ := (unhide Bx1_18).o
      obtain ⟨Bx20_18, Bx21_18, -, -, Bx24_18⟩ := (unhide Bx2_18).o
      obtain ⟨Bx30_18, Bx31_18, -, -, Bx34_18⟩ := (unhide Bx3_18).o
      clear q18
      generalize w17.heap.size = B_Bx4 at *
      obtain ⟨Bx40_18, Bx41_18, -, -, Bx44_18⟩ := (unhide Bx4_18).o
      refine (turn4 _ _ n0 n1 D1 w18 g0 g1 (unhide WA).len (unhide E1_18) (unhide F1_18)).mono ?_
      rintro e w19 ⟨⟨ax5, cx5, bx5, dx5, rfl, sx5, fx5, ux5, vx5⟩, k19⟩
      have K19 := hide ((unhide K18).trans k19)
      have E1_19 := hide ((unhide E1_18).keep k19)
      have E2_19 := hide ((unhide E2_18).keep k19)
      have E3_19 := hide ((unhide E3_18).keep k19)
      have F1_19 := hide ((unhide F1_18).keep k19)
      have F2_19 := hide ((unhide F2_18).keep k19)
      have F3_19 := hide ((unhide F3_18).keep k19)
      have Sx1_19 := hide ((unhide Sx1_18).keep k19)
      have Dx1_19 := hide ((unhide Dx1_18).keep k19)
      have Sx2_19 := hide ((unhide Sx2_18).keep k19)
      have Dx2_19 := hide ((unhide Dx2_18).keep k19)
      have Sx3_19 := hide ((unhide Sx3_18).keep k19)
      have Dx3_19 := hide ((unhide Dx3_18).keep k19)
      have Sx4_19 := hide ((unhide Sx4_18).keep k19)
      have Dx4_19 := hide ((unhide Dx4_18).keep k19)
      have Y1_19 := hide ((unhide Y1_18).keep k19)
      have Y2_19 := hide ((unhide Y2_18).keep k19)
      have Y3_19 := hide ((unhide Y3_18).keep k19)
      have Bx1_19 := hide ((unhide Bx1_18).keep k19)
      have Bx2_19 := hide ((unhide Bx2_18).keep k19)
      have Bx3_19 := hide ((unhide Bx3_18).keep k19)
      have Bx4_19 := hide ((unhide Bx4_18).keep k19)
      clear K18 E1_18 E2_18 E3_18 F1_18 F2_18 F3_18 Sx1_18 Dx1_18 Sx2_18 Dx2_18 Sx3_18 Dx3_18 Sx4_18 Dx4_18 Y1_18 Y10_18 Y11_18 Y14_18 Y2_18 Y20_18 Y21_18 Y24_18 Y3_18 Y30_18 Y31_18 Y34_18 Bx1_18 Bx10_18 Bx11_18 Bx14_18 Bx2_18 Bx20_18 Bx21_18 Bx24_18 Bx3_18 Bx30_18 Bx31_18 Bx34_18 Bx4_18 Bx40_18 Bx41_18 Bx44_18
      obtain ⟨Y10_19, Y11_19, -, -, Y14_19⟩ := (unhide Y1_19).o
      obtain ⟨Y20_19, Y21_19, -, -, Y24_19⟩ := (unhide Y2_19).o
      obtain ⟨Y30_19, Y31_19, -, -, Y34_19⟩ := (unhide Y3_19).o
      obtain ⟨Bx10_19, Bx11_19, -, -, Bx14_19⟩ := (unhide Bx1_19).o
      obtain ⟨Bx20_19, Bx21_19, -, -, Bx24_19⟩ := (unhide Bx2_19).o
      obtain ⟨Bx30_19, Bx31_19, -, -, Bx34_19⟩ := (unhide Bx3_19).o
      obtain ⟨Bx40_19, Bx41_19, -, -, Bx44_19⟩ := (unhide Bx4_19).o
      clear k19
      have Rx5 : Hid (Roomy (.slice bx5 (turnD n0 n1 D1).length dx5)) := roomy _ _ _ ux5 vx5
      clear ux5 vx5
      have Sx5_19 := hide sx5
      have Dx5_19 := hide fx5
      clear sx5 fx5
      go_wp2_with fail
      have Bx5_20 := hide (Bx.madeAt w19 (.slice ax5 [(n1 : Int), (n0 : Int)].length cx5) (.slice bx5 (turnD n0 n1 D1).length dx5) (w19.heap.size) rfl)
      have q20 := Kp.alloc w19 (.cells #[(.slice ax5 [(n1 : Int), (n0 : Int)].length cx5), (.slice bx5 (turnD n0 n1 D1).length dx5)] 28)
      generalize (w19.alloc (.cells #[(.slice ax5 [(n1 : Int), (n0 : Int)].length cx5), (.slice bx5 (turnD n0 n1 D1).length dx5)] 28)) = w20 at *
      have K20 := hide ((unhide K19).trans q20)
      have E1_20 := hide ((unhide E1_19).keep q20)
      have E2_20 := hide ((unhide E2_19).keep q20)
      have E3_20 := hide ((unhide E3_19).keep q20)
      have F1_20 := hide ((unhide F1_19).keep q20)
      have F2_20 := hide ((unhide F2_19).keep q20)
      have F3_20 := hide ((unhide F3_19).keep q20)
      have Sx1_20 := hide ((unhide Sx1_19).keep q20)
      have Dx1_20 := hide ((unhide Dx1_19).keep q20)
      have Sx2_20 := hide ((unhide Sx2_19).keep q20)
      have Dx2_20 := hide ((unhide Dx2_19).keep q20)
      have Sx3_20 := hide ((unhide Sx3_19).keep q20)
      have Dx3_20 := hide ((unhide Dx3_19).keep q20)
      have Sx4_20 := hide ((unhide Sx4_19).keep q20)
      have Dx4_20 := hide ((unhide Dx4_19).keep q20)
      have Sx5_20 := hide ((unhide Sx5_19).keep q20)
      have Dx5_20 := hide ((unhide Dx5_19).keep q20)
      have Y1_20 := hide ((unhide Y1_19).keep q20)
      have Y2_20 := hide ((unhide Y2_19).keep q20)
      have Y3_20 := hide ((unhide Y3_19).keep q20)
      have Bx1_20 := hide ((unhide Bx1_19).keep q20)
      have Bx2_20 := hide ((unhide Bx2_19).keep q20)
      have Bx3_20 := hide ((unhide Bx3_19).keep q20)
      have Bx4_20 := hide ((unhide Bx4_19).keep q20)
      clear K19 E1_19 E2_19 E3_19 F1_19 F2_19 F3_19 Sx1_19 Dx1_19 Sx2_19 Dx2_19 Sx3_19 Dx3_19 Sx4_19 Dx4_19 Sx5_19 Dx5_19 Y1_19 Y10_19 Y11_19 Y14_19 Y2_19 Y20_19 Y21_19 Y24_19 Y3_19 Y30_19 Y31_19 Y34_19 Bx1_19 Bx10_19 Bx11_19 Bx14_19 Bx2_19 Bx20_19 Bx21_19 Bx24_19 Bx3_19 Bx30_19 Bx31_19 Bx34_19 Bx4_19 Bx40_19 Bx41_19 Bx44_19
      obtain ⟨Y10_20, Y11_20, -, -, Y14_20⟩ := (unhide Y1_20).o
      obtain ⟨Y20_20, Y21_20, -, -, Y24_20⟩ := (unhide Y2_20).o
      obtain ⟨Y30_20, Y31_20, -, -, Y34_20⟩ := (unhide Y3_20).o
      obtain ⟨Bx10_20, Bx11_20, -, -, Bx14_20⟩ := (unhide Bx1_20).o
      obtain ⟨Bx20_20, Bx21_20, -, -, Bx24_20⟩ := (unhide Bx2_20).o
      obtain ⟨Bx30_20, Bx31_20, -, -, Bx34_20⟩ := (unhide Bx3_20).o
      obtain ⟨Bx40_20, Bx41_20, -, -, Bx44_20⟩ := (unhide Bx4_20).o
      clear q20
      generalize w19.heap.size = B_Bx5 at *
      obtain ⟨Bx50_20, Bx51_20, -, -, Bx54_20⟩ := (unhide Bx5_20).o
      refine (turn4 _ _ n1 n2 D2 w20 g1 g2 (unhide WB).len (unhide E2_20) (unhide F2_20)).mono ?_
      rintro e w21 ⟨⟨ax6, cx6, bx6, dx6, rfl, sx6, fx6, ux6, vx6⟩, k21⟩
      have K21 := hide ((unhide K20).trans k21)
      have E1_21 := hide ((unhide E1_20).keep k21)
      have E2_21 := hide ((unhide E2_20).keep k21)
      have E3_21 := hide ((unhide E3_20).keep k21)
      have F1_21 := hide ((unhide F1_20).keep k21)
      have F2_21 := hide ((unhide F2_20).keep k21)
      have F3_21 := hide ((unhide F3_20).keep k21)
      have Sx1_21 := hide ((unhide Sx1_20).keep k21)
      have Dx1_21 := hide ((unhide Dx1_20).keep k21)
      have Sx2_21 := hide ((unhide Sx2_20).keep k21)
      have Dx2_21 := hide ((unhide Dx2_20).keep k21)
      have Sx3_21 := hide ((unhide Sx3_20).keep k21)
      have Dx3_21 := hide ((unhide Dx3_20).keep k21)
      have Sx4_21 := hide ((unhide Sx4_20).keep k21)
      have Dx4_21 := hide ((unhide Dx4_20).keep k21)
      have Sx5_21 := hide ((unhide Sx5_20).keep k21)
      have Dx5_21 := hide ((unhide Dx5_20).keep k21)
      have Y1_21 := hide ((unhide Y1_20).keep k21)
      have Y2_21 := hide ((unhide Y2_20).keep k21)
      have Y3_21 := hide ((unhide Y3_20).keep k21)
      have Bx1_21 := hide ((unhide Bx1_20).keep k21)
      have Bx2_21 := hide ((unhide Bx2_20).keep k21)
      have Bx3_21 := hide ((unhide Bx3_20).keep k21)
      have Bx4_21 := hide ((unhide Bx4_20).keep k21)
      have Bx5_21 := hide ((unhide Bx5_20).keep k21)
      clear K20 E1_20 E2_20 E3_20 F1_20 F2_20 F3_20 Sx1_20 Dx1_20 Sx2_20 Dx2_20 Sx3_20 Dx3_20 Sx4_20 Dx4_20 Sx5_20 Dx5_20 Y1_20 Y10_20 Y11_20 Y14_20 Y2_20 Y20_20 Y21_20 Y24_20 Y3_20 Y30_20 Y31_20 Y34_20 Bx1_20 Bx10_20 Bx11_20 Bx14_20 Bx2_20 Bx20_20 Bx21_20 Bx24_20 Bx3_20 Bx30_20 Bx31_20 Bx34_20 Bx4_20 Bx40_20 Bx41_20 Bx44_20 Bx5_20 Bx50_20 Bx51_20 Bx54_20
      obtain ⟨Y10_21, Y11_21, -, -, Y14_21⟩ := (unhide Y1_21).o
      obtain ⟨Y20_21, Y21_21, -, -, Y24_21⟩ := (unhide Y2_21).o
      obtain ⟨Y30_21, Y31_21, -, -, Y34_21⟩ := (unhide Y3_21).o
      obtain ⟨Bx10_21, Bx11_21, -, -, Bx14_21⟩ := (unhide Bx1_21).o
      obtain ⟨Bx20_21, Bx21_21, -, -, Bx24_21⟩ := (unhide Bx2_21).o
      obtain ⟨Bx30_21, Bx31_21, -, -, Bx34_21⟩ := (unhide Bx3_21).o
      obtain ⟨Bx40_21, Bx41_21, -, -, Bx44_21⟩ := (unhide Bx4_21).o
      obtain ⟨Bx50_21, Bx51_21, -, -, Bx54_21⟩ := (unhide Bx5_21).o
      clear k21
      have Rx6 : Hid (Roomy (.slice bx6 (turnD n1 n2 D2).length dx6)) := roomy _ _ _ ux6 vx6
      clear ux6 vx6
      have Sx6_21 := hide sx6
      have Dx6_21 := hide fx6
      clear sx6 fx6
      go_wp2_with fail
      have Bx6_22 := hide (Bx.madeAt w21 (.slice ax6 [(n2 : Int), (n1 : Int)].length cx6) (.slice bx6 (turnD n1 n2 D2).length dx6) (w21.heap.size) rfl)
      have q22 := Kp.alloc w21 (.cells #[(.slice ax6 [(n2 : Int), (n1 : Int)].length cx6), (.slice bx6 (turnD n1 n2 D2).length dx6)] 28)
      generalize (w21.alloc (.cells #[(.slice ax6 [(n2 : Int), (n1 : Int)].length cx6), (.slice bx6 (turnD n1 n2 D2).length dx6)] 28)) = w22 at *
      have K22 := hide ((unhide K21).trans q22)
      have E1_22 := hide ((unhide E1_21).keep q22)
      have E2_22 := hide ((unhide E2_21).keep q22)
      have E3_22 := hide ((unhide E3_21).keep q22)
      have F1_22 := hide ((unhide F1_21).keep q22)
      have F2_22 := hide ((unhide F2_21).keep q22)
      have F3_22 := hide ((unhide F3_21).keep q22)
      have Sx1_22 := hide ((unhide Sx1_21).keep q22)
      have Dx1_22 := hide ((unhide Dx1_21).keep q22)
      have Sx2_22 := hide ((unhide Sx2_21).keep q22)
      have Dx2_22 := hide ((unhide Dx2_21).keep q22)
      have Sx3_22 := hide ((unhide Sx3_21).keep q22)
      have Dx3_22 := hide ((unhide Dx3_21).keep q22)
      have Sx4_22 := hide ((unhide Sx4_21).keep q22)
      have Dx4_22 := hide ((unhide Dx4_21).keep q22)
      have Sx5_22 := hide ((unhide Sx5_21).keep q22)
      have Dx5_22 := hide ((unhide Dx5_21).keep q22)
      have Sx6_22 := hide ((unhide Sx6_21).keep q22)
      have Dx6_22 := hide ((unhide Dx6_21).keep q22)
      have Y1_22 := hide ((unhide Y1_21).keep q22)
      have Y2_22 := hide ((unhide Y2_21).keep q22)
      have Y3_22 := hide ((unhide Y3_21).keep q22)
      have Bx1_22 := hide ((unhide Bx1_21).keep q22)
      have Bx2_22 := hide ((unhide Bx2_21).keep q22)
      have Bx3_22 := hide ((unhide Bx3_21).keep q22)
      have Bx4_22 := hide ((unhide Bx4_21).keep q22)
      have Bx5_22 := hide ((unhide Bx5_21).keep q22)
      clear K21 E1_21 E2_21 E3_21 F1_21 F2_21 F3_21 Sx1_21 Dx1_21 Sx2_21 Dx2_21 Sx3_21 Dx3_21 Sx4_21 Dx4_21 Sx5_21 Dx5_21 Sx6_21 Dx6_21 Y1_21 Y10_21 Y11_21 Y14_21 Y2_21 Y20_21 Y21_21 Y24_21 Y3_21 Y30_21 Y31_21 Y34_21 Bx1_21 Bx10_21 Bx11_21 Bx14_21 Bx2_21 Bx20_21 Bx21_21 Bx24_21 Bx3_21 Bx30_21 Bx31_21 Bx34_21 Bx4_21 Bx40_21 Bx41_21 Bx44_21 Bx5_21 Bx50_21 Bx51_21 Bx54_21
      obtain ⟨Y10_22, Y11_22, -, -, Y14_22⟩ := (unhide Y1_22).o
      obtain ⟨Y20_22, Y21_22, -, -, Y24_22⟩ := (unhide Y2_22).o
      obtain ⟨Y30_22, Y31_22, -, -, Y34_22⟩ := (unhide Y3_22).o
      obtain ⟨Bx10_22, Bx11_22, -, -, Bx14_22⟩ := (unhide Bx1_22).o
      obtain ⟨Bx20_22, Bx21_22, -, -, Bx24_22⟩ := (unhide Bx2_22).o
      obtain ⟨Bx30_22, Bx31_22, -, -, Bx34_22⟩ := (unhide Bx3_22).o
      obtain ⟨Bx40_22, Bx41_22, -, -, Bx44_22⟩ := (unhide Bx4_22).o
      obtain ⟨Bx50_22, Bx51_22, -, -, Bx54_22⟩ := (unhide Bx5_22).o
      clear q22
      generalize w21.heap.size = B_Bx6 at *
      obtain ⟨Bx60_22, Bx61_22, -, -, Bx64_22⟩ := (unhide Bx6_22).o
      refine (mul4 _ _ _ _ n2 n1 n0 (turnD n1 n2 D2) (turnD n0 n1 D1) w22 g2 g1 g0 (turnD_length _ _ _) (turnD_length _ _ _) (unhide Sx6_22) (unhide Dx6_22) (unhide Rx6) (unhide Sx5_22) (unhide Dx5_22)).mono ?_
      rintro e w23 ⟨lx7, ⟨ax7, cx7, bx7, dx7, rfl, sx7, fx7, ux7, vx7⟩, hx7, k23⟩
      have K23 := hide ((unhide K22).trans k23)
      have E1_23 := hide ((unhide E1_22).keep k23)
      have E2_23 := hide ((unhide E2_22).keep k23)
      have E3_23 := hide ((unhide E3_22).keep k23)
      have F1_23 := hide ((unhide F1_22).keep k23)
      have F2_23 := hide ((unhide F2_22).keep k23)
      have F3_23 := hide ((unhide F3_22).keep k23)
      have Sx1_23 := hide ((unhide Sx1_22).keep k23)
      have Dx1_23 := hide ((unhide Dx1_22).keep k23)
      have Sx2_23 := hide ((unhide Sx2_22).keep k23)
      have Dx2_23 := hide ((unhide Dx2_22).keep k23)
      have Sx3_23 := hide ((unhide Sx3_22).keep k23)
      have Dx3_23 := hide ((unhide Dx3_22).keep k23)
      have Sx4_23 := hide ((unhide Sx4_22).keep k23)
      have Dx4_23 := hide ((unhide Dx4_22).keep k23)
      have Sx5_23 := hide ((unhide Sx5_22).keep k23)
      have Dx5_23 := hide ((unhide Dx5_22).keep k23)
      have Sx6_23 := hide ((unhide Sx6_22).keep k23)
      have Dx6_23 := hide ((unhide Dx6_22).keep k23)
      have Y1_23 := hide ((unhide Y1_22).keep k23)
      have Y2_23 := hide ((unhide Y2_22).keep k23)
      have Y3_23 := hide ((unhide Y3_22).keep k23)
      have Bx1_23 := hide ((unhide Bx1_22).keep k23)
      have Bx2_23 := hide ((unhide Bx2_22).keep k23)
      have Bx3_23 := hide ((unhide Bx3_22).keep k23)
      have Bx4_23 := hide ((unhide Bx4_22).keep k23)
      have Bx5_23 := hide ((unhide Bx5_22).keep k23)
      have Bx6_23 := hide ((unhide Bx6_22).keep k23)
      clear K22 E1_22 E2_22 E3_22 F1_22 F2_22 F3_22 Sx1_22 Dx1_22 Sx2_22 Dx2_22 Sx3_22 Dx3_22 Sx4_22 Dx4_22 Sx5_22 Dx5_22 Sx6_22 Dx6_22 Y1_22 Y10_22 Y11_22 Y14_22 Y2_22 Y20_22 Y21_22 Y24_22 Y3_22 Y30_22 Y31_22 Y34_22 Bx1_22 Bx10_22 Bx11_22 Bx14_22 Bx2_22 Bx20_22 Bx21_22 Bx24_22 Bx3_22 Bx30_22 Bx31_22 Bx34_22 Bx4_22 Bx40_22 Bx41_22 Bx44_22 Bx5_22 Bx50_22 Bx51_22 Bx54_22 Bx6_22 Bx60_22 Bx61_22 Bx64_22
      obtain ⟨Y10_23, Y11_23, -, -, Y14_23⟩ := (unhide Y1_23).o
      obtain ⟨Y20_23, Y21_23, -, -, Y24_23⟩ := (unhide Y2_23).o
      obtain ⟨Y30_23, Y31_23, -, -, Y34_23⟩ := (unhide Y3_23).o
      obtain ⟨Bx10_23, Bx11_23, -, -, Bx14_23⟩ := (unhide Bx1_23).o
      obtain ⟨Bx20_23, Bx21_23, -, -, Bx24_23⟩ := (unhide Bx2_23).o
      obtain ⟨Bx30_23, Bx31_23, -, -, Bx34_23⟩ := (unhide Bx3_23).o
      obtain ⟨Bx40_23, Bx41_23, -, -, Bx44_23⟩ := (unhide Bx4_23).o
      obtain ⟨Bx50_23, Bx51_23, -, -, Bx54_23⟩ := (unhide Bx5_23).o
      obtain ⟨Bx60_23, Bx61_23, -, -, Bx64_23⟩ := (unhide Bx6_23).o
      clear k23
      have Hx7 := hide hx7
      clear hx7
      have Rx7 : Hid (Roomy (.slice bx7 lx7.length dx7)) := roomy _ _ _ ux7 vx7
      clear ux7 vx7
      have Sx7_23 := hide sx7
      have Dx7_23 := hide fx7
      clear sx7 fx7
      go_wp2_with fail
      have Bx7_24 := hide (Bx.madeAt w23 (.slice ax7 [(n2 : Int), (n0 : Int)].length cx7) (.slice bx7 lx7.length dx7) (w23.heap.size) rfl)
      have q24 := Kp.alloc w23 (.cells #[(.slice ax7 [(n2 : Int), (n0 : Int)].length cx7), (.slice bx7 lx7.length dx7)] 28)
      generalize (w23.alloc (.cells #[(.slice ax7 [(n2 : Int), (n0 : Int)].length cx7), (.slice bx7 lx7.length dx7)] 28)) = w24 at *
      have K24 := hide ((unhide K23).trans q24)
      have E1_24 := hide ((unhide E1_23).keep q24)
      have E2_24 := hide ((unhide E2_23).keep q24)
      have E3_24 := hide ((unhide E3_23).keep q24)
      have F1_24 := hide ((unhide F1_23).keep q24)
      have F2_24 := hide ((unhide F2_23).keep q24)
      have F3_24 := hide ((unhide F3_23).keep q24)
      have Sx1_24 := hide ((unhide Sx1_23).keep q24)
      have Dx1_24 := hide ((unhide Dx1_23).keep q24)
      have Sx2_24 := hide ((unhide Sx2_23).keep q24)
      have Dx2_24 := hide ((unhide Dx2_23).keep q24)
      have Sx3_24 := hide ((unhide Sx3_23).keep q24)
      have Dx3_24 := hide ((unhide Dx3_23).keep q24)
      have Sx4_24 := hide ((unhide Sx4_23).keep q24)
      have Dx4_24 := hide ((unhide Dx4_23).keep q24)
      have Sx5_24 := hide ((unhide Sx5_23).keep q24)
      have Dx5_24 := hide ((unhide Dx5_23).keep q24)
      have Sx6_24 := hide ((unhide Sx6_23).keep q24)
      have Dx6_24 := hide ((unhide Dx6_23).keep q24)
      have Sx7_24 := hide ((unhide Sx7_23).keep q24)
      have Dx7_24 := hide ((unhide Dx7_23).keep q24)
      have Y1_24 := hide ((unhide Y1_23).keep q24)
      have Y2_24 := hide ((unhide Y2_23).keep q24)
      have Y3_24 := hide ((unhide Y3_23).keep q24)
      have Bx1_24 := hide ((unhide Bx1_23).keep q24)
      have Bx2_24 := hide ((unhide Bx2_23).keep q24)
      have Bx3_24 := hide ((unhide Bx3_23).keep q24)
      have Bx4_24 := hide ((unhide Bx4_23).keep q24)
      have Bx5_24 := hide ((unhide Bx5_23).keep q24)
      have Bx6_24 := hide ((unhide Bx6_23).keep q24)
      clear K23 E1_23 E2_23 E3_23 F1_23 F2_23 F3_23 Sx1_23 Dx1_23 Sx2_23 Dx2_23 Sx3_23 Dx3_23 Sx4_23 Dx4_23 Sx5_23 Dx5_23 Sx6_23 Dx6_23 Sx7_23 Dx7_23 Y1_23 Y10_23 Y11_23 Y14_23 Y2_23 Y20_23 Y21_23 Y24_23 Y3_23 Y30_23 Y31_23 Y34_23 Bx1_23 Bx10_23 Bx11_23 Bx14_23 Bx2_23 Bx20_23 Bx21_23 Bx24_23 Bx3_23 Bx30_23 Bx31_23 Bx34_23 Bx4_23 Bx40_23 Bx41_23 Bx44_23 Bx5_23 Bx50_23 Bx51_23 Bx54_23 Bx6_23 Bx60_23 Bx61_23 Bx64_23
      obtain ⟨Y10_24, Y11_24, -, -, Y14_24⟩ := (unhide Y1_24).o
      obtain ⟨Y20_24, Y21_24, -, -, Y24_24⟩ := (unhide Y2_24).o
      obtain ⟨Y30_24, Y31_24, -, -, Y34_24⟩ := (unhide Y3_24).o
      obtain ⟨Bx10_24, Bx11_24, -, -, Bx14_24⟩ := (unhide Bx1_24).o
      obtain ⟨Bx20_24, Bx21_24, -, -, Bx24_24⟩ := (unhide Bx2_24).o
      obtain ⟨Bx30_24, Bx31_24, -, -, Bx34_24⟩ := (unhide Bx3_24).o
      obtain ⟨Bx40_24, Bx41_24, -, -, Bx44_24⟩ := (unhide Bx4_24).o
      obtain ⟨Bx50_24, Bx51_24, -, -, Bx54_24⟩ := (unhide Bx5_24).o
      obtain ⟨Bx60_24, Bx61_24, -, -, Bx64_24⟩ := (unhide Bx6_24).o
      clear q24
      generalize w23.heap.size = B_Bx7 at *
      obtain ⟨Bx70_24, Bx71_24, -, -, Bx74_24⟩ := (unhide Bx7_24).o
      refine (turn4 _ _ n2 n0 lx7 w24 g2 g0 (unhide Hx7).2 (unhide Sx7_24) (unhide Dx7_24)).mono ?_
      rintro e w25 ⟨⟨ax8, cx8, bx8, dx8, rfl, sx8, fx8, ux8, vx8⟩, k25⟩
      have K25 := hide ((unhide K24).trans k25)
      have E1_25 := hide ((unhide E1_24).keep k25)
      have E2_25 := hide ((unhide E2_24).keep k25)
      have E3_25 := hide ((unhide E3_24).keep k25)
      have F1_25 := hide ((unhide F1_24).keep k25)
      have F2_25 := hide ((unhide F2_24).keep k25)
      have F3_25 := hide ((unhide F3_24).keep k25)
      have Sx1_25 := hide ((unhide Sx1_24).keep k25)
      have Dx1_25 := hide ((unhide Dx1_24).keep k25)
      have Sx2_25 := hide ((unhide Sx2_24).keep k25)
      have Dx2_25 := hide ((unhide Dx2_24).keep k25)
      have Sx3_25 := hide ((unhide Sx3_24).keep k25)
      have Dx3_25 := hide ((unhide Dx3_24).keep k25)
      have Sx4_25 := hide ((unhide Sx4_24).keep k25)
      have Dx4_25 := hide ((unhide Dx4_24).keep k25)
      have Sx5_25 := hide ((unhide Sx5_24).keep k25)
      have Dx5_25 := hide ((unhide Dx5_24).keep k25)
      have Sx6_25 := hide ((unhide Sx6_24).keep k25)
      have Dx6_25 := hide ((unhide Dx6_24).keep k25)
      have Sx7_25 := hide ((unhide Sx7_24).keep k25)
      have Dx7_25 := hide ((unhide Dx7_24).keep k25)
      have Y1_25 := hide ((unhide Y1_24).keep k25)
      have Y2_25 := hide ((unhide Y2_24).keep k25)
      have Y3_25 := hide ((unhide Y3_24).keep k25)
      have Bx1_25 := hide ((unhide Bx1_24).keep k25)
      have Bx2_25 := hide ((unhide Bx2_24).keep k25)
      have Bx3_25 := hide ((unhide Bx3_24).keep k25)
      have Bx4_25 := hide ((unhide Bx4_24).keep k25)
      have Bx5_25 := hide ((unhide Bx5_24).keep k25)
      have Bx6_25 := hide ((unhide Bx6_24).keep k25)
      have Bx7_25 := hide ((unhide Bx7_24).keep k25)
      clear K24 E1_24 E2_24 E3_24 F1_24 F2_24 F3_24 Sx1_24 Dx1_24 Sx2_24 Dx2_24 Sx3_24 Dx3_24 Sx4_24 Dx4_24 Sx5_24 Dx5_24 Sx6_24 Dx6_24 Sx7_24 Dx7_24 Y1_24 Y10_24 Y11_24 Y14_24 Y2_24 Y20_24 Y21_24 Y24_24 Y3_24 Y30_24 Y31_24 Y34_24 Bx1_24 Bx10_24 Bx11_24 Bx14_24 Bx2_24 Bx20_24 Bx21_24 Bx24_24 Bx3_24 Bx30_24 Bx31_24 Bx34_24 Bx4_24 Bx40_24 Bx41_24 Bx44_24 Bx5_24 Bx50_24 Bx51_24 Bx54_24 Bx6_24 Bx60_24 Bx61_24 Bx64_24 Bx7_24 Bx70_24 Bx71_24 Bx74_24
      obtain ⟨Y10_25, Y11_25, -, -, Y14_25⟩ := (unhide Y1_25).o
      obtain ⟨Y20_25, Y21_25, -, -, Y24_25⟩ := (unhide Y2_25).o
      obtain ⟨Y30_25, Y31_25, -, -, Y34_25⟩ := (unhide Y3_25).o
      obtain ⟨Bx10_25, Bx11_25, -, -, Bx14_25⟩ := (unhide Bx1_25).o
      obtain ⟨Bx20_25, Bx21_25, -, -, Bx24_25⟩ := (unhide Bx2_25).o
      obtain ⟨Bx30_25, Bx31_25, -, -, Bx34_25⟩ := (unhide Bx3_25).o
      obtain ⟨Bx40_25, Bx41_25, -, -, Bx44_25⟩ := (unhide Bx4_25).o
      obtain ⟨Bx50_25, Bx51_25, -, -, Bx54_25⟩ := (unhide Bx5_25).o
      obtain ⟨Bx60_25, Bx61_25, -, -, Bx64_25⟩ := (unhide Bx6_25).o
      obtain ⟨Bx70_25, Bx71_25, -, -, Bx74_25⟩ := (unhide Bx7_25).o
      clear k25
      have Rx8 : Hid (Roomy (.slice bx8 (turnD n2 n0 lx7).length dx8)) := roomy _ _ _ ux8 vx8
      clear ux8 vx8
      have Sx8_25 := hide sx8
      have Dx8_25 := hide fx8
      clear sx8 fx8
      go_wp2_with fail
      have Bx8_26 := hide (Bx.madeAt w25 (.slice ax8 [(n0 : Int), (n2 : Int)].length cx8) (.slice bx8 (turnD n2 n0 lx7).length dx8) (w25.heap.size) rfl)
      have q26 := Kp.alloc w25 (.cells #[(.slice ax8 [(n0 : Int), (n2 : Int)].length cx8), (.slice bx8 (turnD n2 n0 lx7).length dx8)] 28)
      generalize (w25.alloc (.cells #[(.slice ax8 [(n0 : Int), (n2 : Int)].length cx8), (.slice bx8 (turnD n2 n0 lx7).length dx8)] 28)) = w26 at *
      have K26 := hide ((unhide K25).trans q26)
      have E1_26 := hide ((unhide E1_25).keep q26)
      have E2_26 := hide ((unhide E2_25).keep q26)
      have E3_26 := hide ((unhide E3_25).keep q26)
      have F1_26 := hide ((unhide F1_25).keep q26)
      have F2_26 := hide ((unhide F2_25).keep q26)
      have F3_26 := hide ((unhide F3_25).keep q26)
      have Sx1_26 := hide ((unhide Sx1_25).keep q26)
      have Dx1_26 := hide ((unhide Dx1_25).keep q26)
      have Sx2_26 := hide ((unhide Sx2_25).keep q26)
      have Dx2_26 := hide ((unhide Dx2_25).keep q26)
      have Sx3_26 := hide ((unhide Sx3_25).keep q26)
      have Dx3_26 := hide ((unhide Dx3_25).keep q26)
      have Sx4_26 := hide ((unhide Sx4_25).keep q26)
      have Dx4_26 := hide ((unhide Dx4_25).keep q26)
      have Sx5_26 := hide ((unhide Sx5_25).keep q26)
      have Dx5_26 := hide ((unhide Dx5_25).keep q26)
      have Sx6_26 := hide ((unhide Sx6_25).keep q26)
      have Dx6_26 := hide ((unhide Dx6_25).keep q26)
      have Sx7_26 := hide ((unhide Sx7_25).keep q26)
      have Dx7_26 := hide ((unhide Dx7_25).keep q26)
      have Sx8_26 := hide ((unhide Sx8_25).keep q26)
      have Dx8_26 := hide ((unhide Dx8_25).keep q26)
      have Y1_26 := hide ((unhide Y1_25).keep q26)
      have Y2_26 := hide ((unhide Y2_25).keep q26)
      have Y3_26 := hide ((unhide Y3_25).keep q26)
      have Bx1_26 := hide ((unhide Bx1_25).keep q26)
      have Bx2_26 := hide ((unhide Bx2_25).keep q26)
      have Bx3_26 := hide ((unhide Bx3_25).keep q26)
      have Bx4_26 := hide ((unhide Bx4_25).keep q26)
      have Bx5_26 := hide ((unhide Bx5_25).keep q26)
      have Bx6_26 := hide ((unhide Bx6_25).keep q26)
      have Bx7_26 := hide ((unhide Bx7_25).keep q26)
      clear K25 E1_25 E2_25 E3_25 F1_25 F2_25 F3_25 Sx1_25 Dx1_25 Sx2_25 Dx2_25 Sx3_25 Dx3_25 Sx4_25 Dx4_25 Sx5_25 Dx5_25 Sx6_25 Dx6_25 Sx7_25 Dx7_25 Sx8_25 Dx8_25 Y1_25 Y10_25 Y11_25 Y14_25 Y2_25 Y20_25 Y21_25 Y24_25 Y3_25 Y30_25 Y31_25 Y34_25 Bx1_25 Bx10_25 Bx11_25 Bx14_25 Bx2_25 Bx20_25 Bx21_25 Bx24_25 Bx3_25 Bx30_25 Bx31_25 Bx34_25 Bx4_25 Bx40_25 Bx41_25 Bx44_25 Bx5_25 Bx50_25 Bx51_25 Bx54_25 Bx6_25 Bx60_25 Bx61_25 Bx64_25 Bx7_25 Bx70_25 Bx71_25 Bx74_25
      obtain ⟨Y10_26, Y11_26, -, -, Y14_26⟩ := (unhide Y1_26).o
      obtain ⟨Y20_26, Y21_26, -, -, Y24_26⟩ := (unhide Y2_26).o
      obtain ⟨Y30_26, Y31_26, -, -, Y34_26⟩ := (unhide Y3_26).o
      obtain ⟨Bx10_26, Bx11_26, -, -, Bx14_26⟩ := (unhide Bx1_26).o
      obtain ⟨Bx20_26, Bx21_26, -, -, Bx24_26⟩ := (unhide Bx2_26).o
      obtain ⟨Bx30_26, Bx31_26, -, -, Bx34_26⟩ := (unhide Bx3_26).o
      obtain ⟨Bx40_26, Bx41_26, -, -, Bx44_26⟩ := (unhide Bx4_26).o
      obtain ⟨Bx50_26, Bx51_26, -, -, Bx54_26⟩ := (unhide Bx5_26).o
      obtain ⟨Bx60_26, Bx61_26, -, -, Bx64_26⟩ := (unhide Bx6_26).o
      obtain ⟨Bx70_26, Bx71_26, -, -, Bx74_26⟩ := (unhide Bx7_26).o
      clear q26
      generalize w25.heap.size = B_Bx8 at *
      obtain ⟨Bx80_26, Bx81_26, -, -, Bx84_26⟩ := (unhide Bx8_26).o
      have FQ := hide (whole_eqs g1 g2 (unhide WA) (unhide WB) (unhide WC) (unhide Hx1).1 (unhide Hx2).1 (unhide Hx3).1 (unhide Hx4).1 (unhide Hx7).1)
      refine (equal_any _ _ _ _ [(n0 : Int), (n3 : Int)] lx3 lx4 w26 (unhide Sx3_26) (unhide Dx3_26) (unhide Sx4_26) (unhide Dx4_26) (unhide FQ).1.1 (unhide FQ).1.2).mono ?_
      rintro e w27 ⟨rfl, k27⟩
      have K27 := hide ((unhide K26).trans k27)
      have E1_27 := hide ((unhide E1_26).keep k27)
      have E2_27 := hide ((unhide E2_26).keep k27)
      have E3_27 := hide ((unhide E3_26).keep k27)
      have F1_27 := hide ((unhide F1_26).keep k27)
      have F2_27 := hide ((unhide F2_26).keep k27)
      have F3_27 := hide ((unhide F3_26).keep k27)
      have Sx1_27 := hide ((unhide Sx1_26).keep k27)
      have Dx1_27 := hide ((unhide Dx1_26).keep k27)
      have Sx2_27 := hide ((unhide Sx2_26).keep k27)
      have Dx2_27 := hide ((unhide Dx2_26).keep k27)
      have Sx3_27 := hide ((unhide Sx3_26).keep k27)
      have Dx3_27 := hide ((unhide Dx3_26).keep k27)
      have Sx4_27 := hide ((unhide Sx4_26).keep k27)
      have Dx4_27 := hide ((unhide Dx4_26).keep k27)
      have Sx5_27 := hide ((unhide Sx5_26).keep k27)
      have Dx5_27 := hide ((unhide Dx5_26).keep k27)
      have Sx6_27 := hide ((unhide Sx6_26).keep k27)
      have Dx6_27 := hide ((unhide Dx6_26).keep k27)
      have Sx7_27 := hide ((unhide Sx7_26).keep k27)
      have Dx7_27 := hide ((unhide Dx7_26).keep k27)
      have Sx8_27 := hide ((unhide Sx8_26).keep k27)
      have Dx8_27 := hide ((unhide Dx8_26).keep k27)
      have Y1_27 := hide ((unhide Y1_26).keep k27)
      have Y2_27 := hide ((unhide Y2_26).keep k27)
      have Y3_27 := hide ((unhide Y3_26).keep k27)
      have Bx1_27 := hide ((unhide Bx1_26).keep k27)
      have Bx2_27 := hide ((unhide Bx2_26).keep k27)
      have Bx3_27 := hide ((unhide Bx3_26).keep k27)
      have Bx4_27 := hide ((unhide Bx4_26).keep k27)
      have Bx5_27 := hide ((unhide Bx5_26).keep k27)
      have Bx6_27 := hide ((unhide Bx6_26).keep k27)
      have Bx7_27 := hide ((unhide Bx7_26).keep k27)
      have Bx8_27 := hide ((unhide Bx8_26).keep k27)
      clear K26 E1_26 E2_26 E3_26 F1_26 F2_26 F3_26 Sx1_26 Dx1_26 Sx2_26 Dx2_26 Sx3_26 Dx3_26 Sx4_26 Dx4_26 Sx5_26 Dx5_26 Sx6_26 Dx6_26 Sx7_26 Dx7_26 Sx8_26 Dx8_26 Y1_26 Y10_26 Y11_26 Y14_26 Y2_26 Y20_26 Y21_26 Y24_26 Y3_26 Y30_26 Y31_26 Y34_26 Bx1_26 Bx10_26 Bx11_26 Bx14_26 Bx2_26 Bx20_26 Bx21_26 Bx24_26 Bx3_26 Bx30_26 Bx31_26 Bx34_26 Bx4_26 Bx40_26 Bx41_26 Bx44_26 Bx5_26 Bx50_26 Bx51_26 Bx54_26 Bx6_26 Bx60_26 Bx61_26 Bx64_26 Bx7_26 Bx70_26 Bx71_26 Bx74_26 Bx8_26 Bx80_26 Bx81_26 Bx84_26
      obtain ⟨Y10_27, Y11_27, -, -, Y14_27⟩ := (unhide Y1_27).o
      obtain ⟨Y20_27, Y21_27, -, -, Y24_27⟩ := (unhide Y2_27).o
      obtain ⟨Y30_27, Y31_27, -, -, Y34_27⟩ := (unhide Y3_27).o
      obtain ⟨Bx10_27, Bx11_27, -, -, Bx14_27⟩ := (unhide Bx1_27).o
      obtain ⟨Bx20_27, Bx21_27, -, -, Bx24_27⟩ := (unhide Bx2_27).o
      obtain ⟨Bx30_27, Bx31_27, -, -, Bx34_27⟩ := (unhide Bx3_27).o
      obtain ⟨Bx40_27, Bx41_27, -, -, Bx44_27⟩ := (unhide Bx4_27).o
      obtain ⟨Bx50_27, Bx51_27, -, -, Bx54_27⟩ := (unhide Bx5_27).o
      obtain ⟨Bx60_27, Bx61_27, -, -, Bx64_27⟩ := (unhide Bx6_27).o
      obtain ⟨Bx70_27, Bx71_27, -, -, Bx74_27⟩ := (unhide Bx7_27).o
      obtain ⟨Bx80_27, Bx81_27, -, -, Bx84_27⟩ := (unhide Bx8_27).o
      clear k27
      go_wp2_with fail
      refine (equal_any _ _ _ _ [(n0 : Int), (n2 : Int)] lx1 (turnD n2 n0 lx7) w27 (unhide Sx1_27) (unhide Dx1_27) (unhide Sx8_27) (unhide Dx8_27) (unhide FQ).2.1 (unhide FQ).2.2).mono ?_
      rintro e w28 ⟨rfl, k28⟩
      have K28 := hide ((unhide K27).trans k28)
      have E1_28 := hide ((unhide E1_27).keep k28)
      have E2_28 := hide ((unhide E2_27).keep k28)
      have E3_28 := hide ((unhide E3_27).keep k28)
      have F1_28 := hide ((unhide F1_27).keep k28)
      have F2_28 := hide ((unhide F2_27).keep k28)
      have F3_28 := hide ((unhide F3_27).keep k28)
      have Sx1_28 := hide ((unhide Sx1_27).keep k28)
      have Dx1_28 := hide ((unhide Dx1_27).keep k28)
      have Sx2_28 := hide ((unhide Sx2_27).keep k28)
      have Dx2_28 := hide ((unhide Dx2_27).keep k28)
      have Sx3_28 := hide ((unhide Sx3_27).keep k28)
      have Dx3_28 := hide ((unhide Dx3_27).keep k28)
      have Sx4_28 := hide ((unhide Sx4_27).keep k28)
      have Dx4_28 := hide ((unhide Dx4_27).keep k28)
      have Sx5_28 := hide ((unhide Sx5_27).keep k28)
      have Dx5_28 := hide ((unhide Dx5_27).keep k28)
      have Sx6_28 := hide ((unhide Sx6_27).keep k28)
      have Dx6_28 := hide ((unhide Dx6_27).keep k28)
      have Sx7_28 := hide ((unhide Sx7_27).keep k28)
      have Dx7_28 := hide ((unhide Dx7_27).keep k28)
      have Sx8_28 := hide ((unhide Sx8_27).keep k28)
      have Dx8_28 := hide ((unhide Dx8_27).keep k28)
      have Y1_28 := hide ((unhide Y1_27).keep k28)
      have Y2_28 := hide ((unhide Y2_27).keep k28)
      have Y3_28 := hide ((unhide Y3_27).keep k28)
      have Bx1_28 := hide ((unhide Bx1_27).keep k28)
      have Bx2_28 := hide ((unhide Bx2_27).keep k28)
      have Bx3_28 := hide ((unhide Bx3_27).keep k28)
      have Bx4_28 := hide ((unhide Bx4_27).keep k28)
      have Bx5_28 := hide ((unhide Bx5_27).keep k28)
      have Bx6_28 := hide ((unhide Bx6_27).keep k28)
      have Bx7_28 := hide ((unhide Bx7_27).keep k28)
      have Bx8_28 := hide ((unhide Bx8_27).keep k28)
      clear K27 E1_27 E2_27 E3_27 F1_27 F2_27 F3_27 Sx1_27 Dx1_27 Sx2_27 Dx2_27 Sx3_27 Dx3_27 Sx4_27 Dx4_27 Sx5_27 Dx5_27 Sx6_27 Dx6_27 Sx7_27 Dx7_27 Sx8_27 Dx8_27 Y1_27 Y10_27 Y11_27 Y14_27 Y2_27 Y20_27 Y21_27 Y24_27 Y3_27 Y30_27 Y31_27 Y34_27 Bx1_27 Bx10_27 Bx11_27 Bx14_27 Bx2_27 Bx20_27 Bx21_27 Bx24_27 Bx3_27 Bx30_27 Bx31_27 Bx34_27 Bx4_27 Bx40_27 Bx41_27 Bx44_27 Bx5_27 Bx50_27 Bx51_27 Bx54_27 Bx6_27 Bx60_27 Bx61_27 Bx64_27 Bx7_27 Bx70_27 Bx71_27 Bx74_27 Bx8_27 Bx80_27 Bx81_27 Bx84_27
      obtain ⟨Y10_28, Y11_28, -, -, Y14_28⟩ := (unhide Y1_28).o
      obtain ⟨Y20_28, Y21_28, -, -, Y24_28⟩ := (unhide Y2_28).o
      obtain ⟨Y30_28, Y31_28, -, -, Y34_28⟩ := (unhide Y3_28).o
      obtain ⟨Bx10_28, Bx11_28, -, -, Bx14_28⟩ := (unhide Bx1_28).o
      obtain ⟨Bx20_28, Bx21_28, -, -, Bx24_28⟩ := (unhide Bx2_28).o
      obtain ⟨Bx30_28, Bx31_28, -, -, Bx34_28⟩ := (unhide Bx3_28).o
      obtain ⟨Bx40_28, Bx41_28, -, -, Bx44_28⟩ := (unhide Bx4_28).o
      obtain ⟨Bx50_28, Bx51_28, -, -, Bx54_28⟩ := (unhide Bx5_28).o
      obtain ⟨Bx60_28, Bx61_28, -, -, Bx64_28⟩ := (unhide Bx6_28).o
      obtain ⟨Bx70_28, Bx71_28, -, -, Bx74_28⟩ := (unhide Bx7_28).o
      obtain ⟨Bx80_28, Bx81_28, -, -, Bx84_28⟩ := (unhide Bx8_28).o
      clear k28
      go_wp2
      go_ret
      exact ⟨rfl, unhide K28⟩

end Go.Proofs.Ythofnmaobmfoiaa
