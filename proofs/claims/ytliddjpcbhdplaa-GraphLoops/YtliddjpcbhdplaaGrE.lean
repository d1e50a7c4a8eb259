
/- Maps from graphs to how often they are come to. -/
import Derived.Test.YtliddjpcbhdplaaGrD
import Derived.Test.YtliddjpcbhdplaaGrQ
import Derived.Maps.RangeWalk
namespace Go.Proofs.Ytliddjpcbhdplaa
open Go.RowKit Go.Shelf

/-- the map D holds just those numbers of f that are not nought, of the first n -/
structure MapF (n : Nat) (D : DataW Unit) (f : Nat → Nat) : Prop where
  keys : ∀ kl, Maps.has D kl = true → ∃ k : Nat, k < n ∧ kl = .int .i64 k ∧ 0 < f k
  has : ∀ k : Nat, k < n → 0 < f k → Maps.has D (.int .i64 k) = true
  val : ∀ k : Nat, k < n → D.atKey (.int .i64 k) (.lit (.int .i64 0)) = .lit (.int .i64 (f k))
theorem MapF.ext {n : Nat} {D : DataW Unit} {f g : Nat → Nat} (h : MapF n D f) (e : ∀ k, k < n → f k = g k) : MapF n D g :=
  ⟨fun kl hk => by obtain ⟨k, h1, h2, h3⟩ := h.keys kl hk; exact ⟨k, h1, h2, by rw [← e k h1]; exact h3⟩, fun k hk h1 => h.has k hk (by rw [e k hk]; exact h1), fun k hk => by rw [← e k hk]; exact h.val k hk⟩
theorem MapF.empty (n : Nat) : MapF n (.map []) (fun _ => 0) :=
  ⟨fun kl h => by simp [Maps.has] at h, fun k _ h => by omega, fun k _ => rfl⟩
theorem int_ne {k j : Nat} (h : j ≠ k) : (Lit.int .i64 (j : Int)) ≠ .int .i64 (k : Int) := by
  intro e
  injection e with _ e
  omega
theorem MapF.put {n : Nat} {D : DataW Unit} {f : Nat → Nat} (h : MapF n D f) (hD : Maps.IsMap D) {k v : Nat} (hk : k < n) (hv : 0 < v) : MapF n (D.put (.int .i64 (k : Int)) (.lit (.int .i64 (v : Int)))) (fun j => if j = k then v else f j) := by
  refine ⟨fun kl hh => ?_, fun j hj hp => ?_, fun j hj => ?_⟩
  · by_cases e : kl = .int .i64 (k : Int)
    · exact ⟨k, hk, e, by simpa using hv⟩
    · rw [Maps.has_put_other e] at hh
      obtain ⟨j, h1, h2, h3⟩ := h.keys kl hh
      refine ⟨j, h1, h2, ?_⟩
      have : j ≠ k := fun e' => e (by rw [h2, e'])
      simpa [this] using h3
  · by_cases e : j = k
    · subst e
      exact Maps.has_put_same hD (isKey_int _) _
    · rw [Maps.has_put_other (int_ne e)]
      exact h.has j hj (by simpa [e] using hp)
  · by_cases e : j = k
    · subst e
      rw [Maps.atKey_put_same hD (isKey_int _)]
      simp
    · rw [Maps.atKey_put_other (int_ne e), h.val j hj]
      simp [e]

section
variable {w : World} {b m n : Nat} {D : DataW Unit} {f : Nat → Nat}
abbrev OwnsM (w : World) (b n : Nat) (D : DataW Unit) : Prop := w.ownsMap Try.prog 3 (plainElem (H := Unit) Try.prog 3) b n D
theorem law85 : Maps.Keyed Try.prog 3 := Maps.int_keyed Try.underlying3

theorem OwnsM.tight (h : OwnsM w b m D) (hf : MapF n D f) : OwnsM w b n D := by
  obtain ⟨es', hD', hp, hk⟩ := World.ownsMap.entries h law85
  obtain ⟨es, clock, hb, F, hs, hD⟩ := h
  refine ⟨es, clock, hb, F, ?_, hD⟩
  have e1 : es' = (es.toList.map (WideElems.rg Try.prog 3 (plainElem (H := Unit) Try.prog 3))).foldr DataW.insert [] := by
    rw [hD'] at hD
    injection hD
  have e2 : es'.length = es.size := by rw [e1, length_sorted]; simp
  rw [← e2]
  have hget : ∀ p ∈ es', ∃ k : Nat, k < n ∧ p.1 = .int .i64 (k : Int) := by
    intro p hpm
    obtain ⟨k, h1, h2, _⟩ := hf.keys p.1 (by rw [hD', Maps.has_eq]; exact List.any_eq_true.2 ⟨p, hpm, WideAt.sameKey_self (hk p hpm)⟩)
    exact ⟨k, h1, h2⟩
  let num : Lit × DataW Unit → Int := fun p => match p.1 with | .int _ x => x | _ => 0
  have h1 : (es'.map num).length ≤ n := by
    refine pigeon n _ ?_ ?_
    · rw [List.Nodup, List.pairwise_map]
      refine List.Pairwise.imp_of_mem ?_ hp
      intro p q hp1 hq1 hne e
      obtain ⟨k, _, e1⟩ := hget p hp1
      obtain ⟨j, _, e2⟩ := hget q hq1
      apply hne
      simp only [num, e1, e2] at e
      rw [e1, e2, e]
    · intro x hx
      obtain ⟨p, hpm, rfl⟩ := List.mem_map.1 hx
      obtain ⟨k, h1, e1⟩ := hget p hpm
      simp only [num, e1]
      omega
  simpa using h1
theorem OwnsM.size (h : OwnsM w b m D) (hf : MapF n D f) : (0 < Maps.size D) ↔ ∃ k, k < n ∧ 0 < f k := by
  obtain ⟨es, rfl, _, hk⟩ := World.ownsMap.entries h law85
  rw [Maps.size_eq]
  constructor
  · intro hp
    obtain ⟨p, r, rfl⟩ : ∃ p r, es = p :: r := by
      cases es with
      | nil => simp at hp
      | cons p r => exact ⟨p, r, rfl⟩
    obtain ⟨k, h1, _, h3⟩ := hf.keys p.1 (by rw [Maps.has_eq]; exact List.any_eq_true.2 ⟨p, by simp, WideAt.sameKey_self (hk p (by simp))⟩)
    exact ⟨k, h1, h3⟩
  · rintro ⟨k, h1, h2⟩
    have := hf.has k h1 h2
    rw [Maps.has_eq] at this
    obtain ⟨p, hp, _⟩ := List.any_eq_true.1 this
    exact List.length_pos_of_mem hp
end

end Go.Proofs.Ytliddjpcbhdplaa
