
/- container/heap's up, over whatever holds the row. -/
import Derived.Test.YthcilobmoeihbaaHepM
import Derived.Test.YthcilobmoeihbaaBase
import Derived.Test.YthcilobmoeihbaaProg
import Derived.Deep.QuietTactic
namespace Go.Proofs.Ythcilobmoeihbaa
open Go.RowKit

/-- a method of the value v that is found and is a function of Go's text -/
def Found (T : TypeId) (v : Value) (nm : String) (w : World) (f : Nat) (rv : Value) : Prop :=
  Sem.run Try.prog (method 192 T v nm) w = .ok (f, rv) w ∧ ∀ args w', Sem.run Try.prog (callFunc f args) w' = .ok (.enter f args) w'
/-- what v holds, and how it is asked and changed: Hd: the row lies there; R: what a call may turn -/
structure Heapy {α : Type} (T : TypeId) (v : Value) (d : α) (lt : α → α → Bool) (Hd : World → List α → Prop) (R : World → World → Prop) : Prop where
  ord : Ord2 lt
  refl : ∀ w, R w w
  trans : ∀ {a b c}, R a b → R b c → R a c
  room : ∀ {w xs}, Hd w xs → xs.length ≤ 1000000000
  less : ∀ {w xs}, Hd w xs → ∃ f rv, Found T v "Less" w f rv ∧ ∀ i j : Nat, i < xs.length → j < xs.length → Calls Try.prog f #[rv, .int .i64 (i : Int), .int .i64 (j : Int)] w fun e w' => e = .returned (.bool (lt (atL d xs i) (atL d xs j))) ∧ Hd w' xs ∧ R w w'
  swap : ∀ {w xs}, Hd w xs → ∃ f rv, Found T v "Swap" w f rv ∧ ∀ i j : Nat, i < xs.length → j < xs.length → Calls Try.prog f #[rv, .int .i64 (i : Int), .int .i64 (j : Int)] w fun e w' => e = .returned (.tuple #[]) ∧ Hd w' (swpL d xs i j) ∧ R w w'

set_option maxRecDepth 20000 in
set_option maxHeartbeats 4000000 in
theorem up_any {α : Type} {T : TypeId} {v : Value} {d : α} {lt : α → α → Bool} {Hd : World → List α → Prop} {R : World → World → Prop} (H : Heapy T v d lt Hd R) (xs : List α) (j : Nat) (w : World) (h : Hd w xs) (hu : UpAt lt (atL d xs) xs.length j) :
    Calls Try.prog 23 #[.iface T v, .int .i64 (j : Int)] w fun e w' => e = .returned (.tuple #[]) ∧ ∃ ys, Hd w' ys ∧ ys.Perm xs ∧ HeapFrom lt (atL d ys) 0 ys.length ∧ R w w' := by
  have HH := hide H
  have HD := hide h
  have HU := hide hu
  clear H h hu
  go_enter Try.func23, Try.ntmps23
  go_wp2
  go_loopw [1] (fun i wr => ∃ (k : Nat) (ys : List α), i = .int .i64 k ∧ Hid (Hd wr ys ∧ ys.Perm xs ∧ UpAt lt (atL d ys) ys.length k ∧ R w wr)) (fun i _ => (intOf i).toNat)
  case atStart => exact ⟨j, xs, rfl, unhide HD, List.Perm.refl _, unhide HU, (unhide HH).refl w⟩
  case round =>
    obtain ⟨k, ys, rfl, HR⟩ := hrel
    have hrm := (unhide HH).room (unhide HR).1
    have hkn := (unhide HR).2.2.1.inb
    by_cases hk0 : k = 0
    · subst hk0
      have hpk : (((par 0 : Nat) : Int) == ((0 : Nat) : Int)) = true := rfl
      have hpe : (par 0 : Nat) = 0 := rfl
      have HE : Hid (∃ zs, Hd wr zs ∧ zs.Perm xs ∧ HeapFrom lt (atL d zs) 0 zs.length ∧ R w wr) := ⟨ys, (unhide HR).1, (unhide HR).2.1, (unhide HR).2.2.1.done (.inl rfl), (unhide HR).2.2.2⟩
      go_wp2
      first | go_end0 | refine bodyPost_ret (results_none rfl _ _ _) rfl ?_
      exact ⟨rfl, unhide HE⟩
    · have hp := par_lt (show 0 < k by omega)
      have hpg : ((k : Int) - 1) / 2 = ((par k : Nat) : Int) := by unfold par; omega
      have hpk : (((par k : Nat) : Int) == (k : Int)) = false := beq_eq_false_iff_ne.2 (by omega)
      obtain ⟨f, rv, ⟨hm, hc⟩, hC⟩ := (unhide HH).less (unhide HR).1
      have HC := hide (hC k (par k) hkn (by omega))
      clear hC
      go_wp2_with fail
      refine (unhide HC).mono ?_
      rintro e w2 ⟨rfl, h2, r2⟩
      have H2 := hide h2
      have R2 := hide ((unhide HH).trans (unhide HR).2.2.2 r2)
      clear h2 r2 hm hc HC
      cases hl : lt (atL d ys k) (atL d ys (par k)) with
      | false =>
        have HE : Hid (∃ zs, Hd w2 zs ∧ zs.Perm xs ∧ HeapFrom lt (atL d zs) 0 zs.length ∧ R w w2) := ⟨ys, unhide H2, (unhide HR).2.1, (unhide HR).2.2.1.done (.inr hl), unhide R2⟩
        clear hl
        go_wp2
        first | go_end0 | refine bodyPost_ret (results_none rfl _ _ _) rfl ?_
        exact ⟨rfl, unhide HE⟩
      | true =>
        obtain ⟨f2, rv2, ⟨hm2, hc2⟩, hC2⟩ := (unhide HH).swap (unhide H2)
        have HC2 := hide (hC2 (par k) k (by omega) hkn)
        have HU2 := hide ((unhide HR).2.2.1.step (unhide HH).ord (by omega) hl)
        clear hC2 hl
        go_wp2_with fail
        refine (unhide HC2).mono ?_
        rintro e w3 ⟨rfl, h3, r3⟩
        have HR3 : Hid (Hd w3 (swpL d ys (par k) k) ∧ (swpL d ys (par k) k).Perm xs ∧ UpAt lt (atL d (swpL d ys (par k) k)) (swpL d ys (par k) k).length (par k) ∧ R w w3) := by
          refine ⟨h3, (swpL_perm d (by omega) hkn).trans (unhide HR).2.1, ?_, (unhide HH).trans (unhide R2) r3⟩
          have e1 : atL d (swpL d ys (par k) k) = swp (atL d ys) (par k) k := funext fun q => swpL_at d (by omega) hkn q
          rw [e1, swpL_length]
          exact unhide HU2
        clear h3 r3 hm2 hc2 HC2
        go_wp2
        go_roundw
        case rel => exact ⟨par k, _, rfl, unhide HR3⟩
        case measure => simp [intOf]; omega

end Go.Proofs.Ythcilobmoeihbaa
