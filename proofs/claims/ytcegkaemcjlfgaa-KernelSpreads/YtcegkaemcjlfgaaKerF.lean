
/- What the kernel's functions hand back, be it a tensor or none, in one form; the law's own example. -/
import Derived.Test.YtcegkaemcjlfgaaKerE
import Derived.Test.YtcegkaemcjlfgaaTenD
namespace Go.Proofs.Ytcegkaemcjlfgaa
open Go.RowKit

theorem Fin.ints {w w9 : World} {s : List Int} {a1 : Option Addr} {n1 c1 G c : Nat} {d : List Nat} (h : Fin w w9 s a1 n1 c1 G c d) (hm : mayT s d = true) (hw : ∀ x ∈ s, I64 x) : Ints w9 (.slice a1 n1 c1) s :=
  h.own.ints hw (by have := (may_good (mayT_may hm)).1; omega)
theorem Fin.flts {w w9 : World} {s : List Int} {a1 : Option Addr} {n1 c1 G c : Nat} {d : List Nat} (h : Fin w w9 s a1 n1 c1 G c d) (hm : mayT s d = true) (hw : ∀ x ∈ d, W64 x) : Flts w9 (.slice (some ⟨G, 0, none⟩) d.length c) d :=
  h.og.flts hw (by have := mayT_len hm; have := may_prod (mayT_may hm); omega)

/-- a pair and an error handed back -/
def Hands (e : Ending) (w' : World) (s : List Int) (d : List Nat) (q : Int) : Prop :=
  ∃ a1 c1 a2 c2, e = .returned (.tuple #[.agg #[.slice a1 s.length c1, .slice a2 d.length c2], .int .i64 q]) ∧ Ints w' (.slice a1 s.length c1) s ∧ Flts w' (.slice a2 d.length c2) d

theorem Hands.nil (w' : World) (q : Int) : Hands (.returned (.tuple #[.agg #[.slice none 0 0, .slice none 0 0], .int .i64 q])) w' [] [] q := ⟨none, 0, none, 0, rfl, Ints.nil _, Flts.nil _⟩
theorem Hands.fin {w w9 : World} {s : List Int} {a1 : Option Addr} {n1 c1 G c : Nat} {d : List Nat} (h : Fin w w9 s a1 n1 c1 G c d) (hm : mayT s d = true) (hs : ∀ x ∈ s, I64 x) (hw : ∀ x ∈ d, W64 x) : Hands (.returned (.tuple #[.agg #[.slice a1 n1 c1, .slice (some ⟨G, 0, none⟩) d.length c], .int .i64 0])) w9 s d 0 := by
  have hi := h.ints hm hs
  obtain ⟨a, cap, e, _⟩ := hi.val
  injection e with e1 e2 e3
  subst e1 e2 e3
  exact ⟨_, _, _, _, rfl, hi, h.flts hm hw⟩

/-- what Reshape makes -/
def rshS (f : List Int) (d : List Nat) (t : List Int) : List Int := if (mayT f d && mayT t d) = true then t else []
def rshD (f : List Int) (d : List Nat) (t : List Int) : List Nat := if (mayT f d && mayT t d) = true then d else []
theorem rsh_yes {f : List Int} {d : List Nat} {t : List Int} (h : (mayT f d && mayT t d) = true) : rshS f d t = t ∧ rshD f d t = d ∧ rshE f d t = 0 := by
  refine ⟨if_pos h, if_pos h, ?_⟩
  simp only [Bool.and_eq_true] at h
  exact rshE_yes h.1 h.2
theorem rsh_no {f : List Int} {d : List Nat} {t : List Int} (h : (mayT f d && mayT t d) = false) : rshS f d t = [] ∧ rshD f d t = [] ∧ rshE f d t ≠ 0 := by
  refine ⟨if_neg (by rw [h]; simp), if_neg (by rw [h]; simp), fun e => ?_⟩
  have := rshE_zero.1 e
  rw [this.1, this.2] at h
  cases h

theorem reshape_all (sv dv u : Value) (f t : List Int) (d : List Nat) (w : World) (h : Ints w sv f) (hd : Flts w dv d) (h' : Ints w u t) :
    Calls Try.prog 12 #[.agg #[sv, dv], u] w fun e w' => Hands e w' (rshS f d t) (rshD f d t) (rshE f d t) ∧ Kp w w' := by
  cases hm : (mayT f d && mayT t d)
  · obtain ⟨e1, e2, _⟩ := rsh_no hm
    rw [e1, e2]
    refine (reshape_no sv dv u f t d w h hd h' hm).mono ?_
    rintro e w' ⟨rfl, k⟩
    exact ⟨Hands.nil _ _, k⟩
  · obtain ⟨e1, e2, e3⟩ := rsh_yes hm
    rw [e1, e2, e3]
    simp only [Bool.and_eq_true] at hm
    refine (reshape_yes sv dv u f t d w h hd h' hm.1 hm.2).mono ?_
    rintro e w' ⟨a1, n1, c1, G, c, rfl, fn⟩
    exact ⟨Hands.fin fn hm.2 h'.wf hd.wf, fn.kp⟩

/-- what Spread makes -/
def kspS (f : List Int) (d : List Nat) (t : List Int) : List Int := if (mayT f d && intoB f t) = true then t else []
def kspD (f : List Int) (d : List Nat) (t : List Int) : List Nat := if (mayT f d && intoB f t) = true then sprD f t d else []
def kspE (f : List Int) (d : List Nat) (t : List Int) : Int := if (mayT f d && intoB f t) = true then 0 else 2
theorem ksp_yes {f : List Int} {d : List Nat} {t : List Int} (h : (mayT f d && intoB f t) = true) : kspS f d t = t ∧ kspD f d t = sprD f t d ∧ kspE f d t = 0 := ⟨if_pos h, if_pos h, if_pos h⟩
theorem ksp_no {f : List Int} {d : List Nat} {t : List Int} (h : (mayT f d && intoB f t) = false) : kspS f d t = [] ∧ kspD f d t = [] ∧ kspE f d t = 2 := ⟨if_neg (by rw [h]; simp), if_neg (by rw [h]; simp), if_neg (by rw [h]; simp)⟩

theorem Kspread_all (sv dv u : Value) (f t : List Int) (d : List Nat) (w : World) (h : Ints w sv f) (hd : Flts w dv d) (h' : Ints w u t) :
    Calls Try.prog 8 #[.agg #[sv, dv], u] w fun e w' => Hands e w' (kspS f d t) (kspD f d t) (kspE f d t) ∧ Kp w w' := by
  cases hm : (mayT f d && intoB f t)
  · obtain ⟨e1, e2, e3⟩ := ksp_no hm
    rw [e1, e2, e3]
    refine (Kspread_no sv dv u f t d w h hd h' hm).mono ?_
    rintro e w' ⟨rfl, k⟩
    exact ⟨Hands.nil _ _, k⟩
  · obtain ⟨e1, e2, e3⟩ := ksp_yes hm
    rw [e1, e2, e3]
    simp only [Bool.and_eq_true] at hm
    refine (Kspread_yes sv dv u f t d w h hd h' hm.1 hm.2).mono ?_
    rintro e w' ⟨a1, n1, c1, G, c, rfl, fn⟩
    exact ⟨Hands.fin fn (sprD_may hm.2) h'.wf (sprD_wf hd.wf), fn.kp⟩

theorem plus_two : Hid (∀ x y w1, W64 x → W64 y → Calls Try.prog 45 #[.float .f64 x, .float .f64 y] w1 fun e w2 => ∃ r, e = .returned (.float .f64 r) ∧ (cn r = adC x y ∧ W64 r) ∧ Kp w1 w2) := by
  intro x y w1 _ _
  refine (plus_any x y w1).mono ?_
  rintro e w2 ⟨r, rfl, h, _, k⟩
  exact ⟨r, rfl, h, k⟩

theorem sprL_wf {a b : List Int} (h : sprE a b = 0) : ∀ x ∈ sprL a b, I64 x := by
  intro x hx
  have hm := (into_spec (spr_into h).1).2.1
  have h1 := (may_good hm).2 x hx
  obtain ⟨k, hk, rfl⟩ := List.mem_iff_getElem.1 hx
  have h2 := getD_le_prodL (may_good hm).2 hk
  have h3 := may_prod hm
  rw [getD_at hk] at h2
  unfold I64
  omega

/-- sums, two by two -/
theorem two_add (sv dv sv2 dv2 : Value) (f f2 : List Int) (d d2 : List Nat) (w : World) (h : Ints w sv f) (hd : Flts w dv d) (h2 : Ints w sv2 f2) (hd2 : Flts w dv2 d2) (hm1 : mayT f d = true) (hm2 : mayT f2 d2 = true) (he : sprE f f2 = 0) :
    Calls Try.prog 16 #[.int .i64 4, .agg #[sv, dv], .agg #[sv2, dv2]] w fun e w' => ∃ ds, Hands e w' (sprL f f2) ds 0 ∧ mayT (sprL f f2) ds = true ∧ (∀ j, j < ds.length → cn (ds.getD j 0) = adC ((sprD f (sprL f f2) d).getD j 0) ((sprD f2 (sprL f f2) d2).getD j 0)) ∧ Kp w w' := by
  refine (two_yes 4 45 (fun x y r => cn r = adC x y) sv dv sv2 dv2 f f2 d d2 w h hd h2 hd2 (fun w => oftwo_add w) Try.call45 plus_two hm1 hm2 he).mono ?_
  rintro e w' ⟨a1, n1, c1, G, c, ds, rfl, fn, hmt, hw, hr⟩
  exact ⟨ds, Hands.fin fn hmt (sprL_wf he) hw, hmt, hr, fn.kp⟩

theorem two_add_no (sv dv sv2 dv2 : Value) (f f2 : List Int) (d d2 : List Nat) (w : World) (h : Ints w sv f) (hd : Flts w dv d) (h2 : Ints w sv2 f2) (hd2 : Flts w dv2 d2) (he : twoE f d f2 d2 ≠ 0) :
    Calls Try.prog 16 #[.int .i64 4, .agg #[sv, dv], .agg #[sv2, dv2]] w fun e w' => e = .returned (.tuple #[.agg #[.slice none 0 0, .slice none 0 0], .int .i64 (twoE f d f2 d2)]) ∧ Kp w w' :=
  two_no 4 45 sv dv sv2 dv2 f f2 d d2 w h hd h2 hd2 (fun w => oftwo_add w) he

theorem aw4a : sprL [2] [1] = [2] := by decide +kernel
theorem aw4b : mayT [2] [4607182418800017408, 4611686018427387904] = true := by decide +kernel
theorem aw4c : mayT [1] [4613937818241073152] = true := by decide +kernel
theorem aw4d : sprE [2] [1] = 0 := by decide +kernel
theorem aw4e : adC ((sprD [2] [2] [4607182418800017408, 4611686018427387904]).getD 0 0) ((sprD [1] [2] [4613937818241073152]).getD 0 0) = 4616189618054758400 := by decide +kernel
theorem aw4f : adC ((sprD [2] [2] [4607182418800017408, 4611686018427387904]).getD 1 0) ((sprD [1] [2] [4613937818241073152]).getD 1 0) = 4617315517961601024 := by decide +kernel

/-- the sum of the law's own example -/
theorem two_aw (sv dv sv2 dv2 : Value) (w : World) (h : Ints w sv [2]) (hd : Flts w dv [4607182418800017408, 4611686018427387904]) (h2 : Ints w sv2 [1]) (hd2 : Flts w dv2 [4613937818241073152]) :
    Calls Try.prog 16 #[.int .i64 4, .agg #[sv, dv], .agg #[sv2, dv2]] w fun e w' => ∃ a1 c1 a2 c2, e = .returned (.tuple #[.agg #[.slice a1 1 c1, .slice a2 2 c2], .int .i64 0]) ∧ Flts w' (.slice a2 2 c2) [4616189618054758400, 4617315517961601024] ∧ Kp w w' := by
  refine (two_add sv dv sv2 dv2 [2] [1] _ _ w h hd h2 hd2 aw4b aw4c aw4d).mono ?_
  rintro e w' ⟨ds, hh, hmt, hr, k⟩
  rw [aw4a] at hh hmt hr
  have hl : ds.length = 2 := by
    have := mayT_len hmt
    have e : prodL [2] = 2 := rfl
    omega
  match ds, hl with
  | [x, y], _ =>
    have r0 := hr 0 (by simp)
    have r1 := hr 1 (by simp)
    rw [aw4e] at r0
    rw [aw4f] at r1
    have hx : x = 4616189618054758400 := is_num r0 rfl (by decide +kernel)
    have hy : y = 4617315517961601024 := is_num r1 rfl (by decide +kernel)
    subst hx hy
    obtain ⟨a1, c1, a2, c2, rfl, _, hf⟩ := hh
    exact ⟨a1, c1, a2, c2, rfl, hf, k⟩

end Go.Proofs.Ytcegkaemcjlfgaa
