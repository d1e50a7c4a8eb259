
/- Contracts of what multiplies two rows, and of the numbers of a product. -/
import Derived.Test.YthofnmaobmfoiaaMatA
import Derived.Test.YthofnmaobmfoiaaRealC
import Derived.Deep.RegionWith
namespace Go.Proofs.Ythofnmaobmfoiaa
open Go.RowKit

theorem Flts.sub {w : World} {b off n cap : Nat} {xs : List Nat} (h : Flts w (.slice (some ⟨b, off, none⟩) n cap) xs) {a m : Nat} (hm : a + m ≤ n) (cap' : Nat) : Flts w (.slice (some ⟨b, off + a, none⟩) m cap') ((xs.drop a).take m) :=
  (h.drop (m := a) (by omega) cap').take (by omega) cap'
theorem sub_getD {xs : List Nat} {a m j : Nat} (hj : j < m) : ((xs.drop a).take m).getD j 0 = xs.getD (a + j) 0 := by
  simp [List.getD_eq_getElem?_getD, hj]
theorem sub_length {xs : List Nat} {a m : Nat} (h : a + m ≤ xs.length) : ((xs.drop a).take m).length = m := by
  rw [List.length_take, List.length_drop]
  omega
theorem getDN_app {l m : List Nat} {k : Nat} (h : k < l.length) : (l ++ m).getD k 0 = l.getD k 0 := by
  rw [List.getD_eq_getElem?_getD, List.getElem?_append_left h, ← List.getD_eq_getElem?_getD]
theorem getDN_end {l : List Nat} {x : Nat} : (l ++ [x]).getD l.length 0 = x := by
  rw [List.getD_eq_getElem?_getD, List.getElem?_append_right (Nat.le_refl _), Nat.sub_self]
  rfl

set_option maxHeartbeats 1000000 in
theorem rtimes_any (v u : Value) (P m : Nat) (xs ys old : List Nat) (w : World) (h : Flts w v xs) (h' : Flts w u ys) (hx : xs.length = m) (hy : ys.length = m) (ho : old.length = m) (hm : m ≤ 4096) (hP : BlkF w 36 P old)
    (nx : ∀ b off n c, v = .slice (some ⟨b, off, none⟩) n c → ¬ b = P) (ny : ∀ b off n c, u = .slice (some ⟨b, off, none⟩) n c → ¬ b = P) :
    Calls Try.prog 20 #[.slice (some ⟨P, 0, none⟩) m m, v, u] w fun e w' => ∃ ps, e = .returned (.tuple #[]) ∧ BlkF w' 36 P ps ∧ ps.length = m ∧ (∀ x ∈ ps, W64 x) ∧ (∀ j, j < m → cn (ps.getD j 0) = muC (xs.getD j 0) (ys.getD j 0)) ∧ Kx P w w' := by
  obtain ⟨p, cp, rfl, hv⟩ := h.val
  obtain ⟨p', cp', rfl, hv'⟩ := h'.val
  rw [hx] at hv nx ⊢
  rw [hy] at hv' ny ⊢
  have HV := hide hv
  have HV' := hide hv'
  have NX := hide nx
  have NY := hide ny
  have HP := hide hP
  have HO := hide ho
  have hst : ∀ (a : Addr) (x : Nat) (w : World), (store a (.float .f64 x)).run Try.prog w = stored Try.prog w a (.float .f64 x) .plain := fun a x w => run_store _ w a _ _ rfl
  clear h h' hv hv' hx hy hP nx ny ho
  go_enter Try.func20, Try.ntmps20
  go_wp2
  go_loopw [9] (fun i wr => ∃ (k : Nat) (ms : List Nat), k ≤ m ∧ i = .int .i64 k ∧ ms.length = k ∧ Hid (BlkF wr 36 P (ms ++ old.drop k)) ∧ Hid (∀ x ∈ ms, W64 x) ∧ Hid (∀ j, j < k → cn (ms.getD j 0) = muC (xs.getD j 0) (ys.getD j 0)) ∧ Hid (Kx P w wr)) (fun i _ => m - (intOf i).toNat)
  case atStart => exact ⟨0, [], Nat.zero_le _, rfl, rfl, by simpa using HP, by simp [Hid], by unfold Hid; omega, Kx.refl _ _⟩
  case round =>
    obtain ⟨k, ms, hk, rfl, hm', BL, HM, HR, KX⟩ := hrel
    by_cases hlt : k < m
    · obtain ⟨b, off, rfl, hb, hc⟩ := unhide HV (by omega)
      obtain ⟨b', off', rfl, hb', hc'⟩ := unhide HV' (by omega)
      have NE1 := unhide NX _ _ _ _ rfl
      have NE2 := unhide NY _ _ _ _ rfl
      have hck : wr.cell? ⟨b, off + k, none⟩ = some (.float .f64 (xs.getD k 0)) := ((unhide KX).cell (p := ⟨b, off + k, none⟩) hb NE1).trans (hc k hlt)
      have hck' : wr.cell? ⟨b', off' + k, none⟩ = some (.float .f64 (ys.getD k 0)) := ((unhide KX).cell (p := ⟨b', off' + k, none⟩) hb' NE2).trans (hc' k hlt)
      have hlen : (ms ++ old.drop k).length = m := by have := unhide HO; rw [List.length_append, List.length_drop]; omega
      have hcell := (unhide BL).cell (i := k) (by omega)
      have hfro := (unhide BL).frozen k
      have CC := hide (fun w0 (kp : Kp wr w0) => (times_any (xs.getD k 0) (ys.getD k 0) w0).mono (R' := fun e w' => ∃ r, e = .returned (.float .f64 r) ∧ Hid (cn r = muC (xs.getD k 0) (ys.getD k 0) ∧ W64 r) ∧ Hid (Kp wr w') ∧ w'.cell? ⟨P, k, none⟩ = some (.float .f64 ((ms ++ old.drop k).getD k 0)) ∧ w'.frozen? ⟨P, k, none⟩ = false) (by
        rintro e w' ⟨r, rfl, hr, -, k'⟩
        exact ⟨r, rfl, hr, kp.trans k', ((unhide BL).keep (kp.trans k')).cell (by omega), ((unhide BL).keep (kp.trans k')).frozen k⟩))
      have HR' : Hid (∀ r, cn r = muC (xs.getD k 0) (ys.getD k 0) → ∀ j, j < k + 1 → cn ((ms ++ [r]).getD j 0) = muC (xs.getD j 0) (ys.getD j 0)) := by
        intro r hr j hj
        by_cases e : j = k
        · subst e
          have : (ms ++ [r]).getD j 0 = r := by rw [← hm']; exact getDN_end
          rw [this]
          exact hr
        · rw [getDN_app (by omega)]
          exact unhide HR j (by omega)
      have HD : Hid (∀ r, (ms ++ old.drop k).set k r = (ms ++ [r]) ++ old.drop (k + 1)) := by
        intro r
        rw [List.set_append_right _ _ (by omega), hm', Nat.sub_self, List.drop_eq_getElem_cons (show k < old.length by have := unhide HO; omega)]
        simp only [List.set_cons_zero, List.append_assoc, List.singleton_append]
      have HL2 : Hid (∀ r, (ms ++ [r]).length = k + 1) := by intro r; simp [hm']
      have hkn : (k : Int) < (m : Int) := by omega
      clear hc hc' hlen
      generalize (ms ++ old.drop k).getD k 0 = o at *
      generalize xs.getD k 0 = x at *
      generalize ys.getD k 0 = y at *
      go_wp2_with fail
      go_region_with
        (first | (refine ((unhide CC) _ ?_).mono ?_; (first | (exact unhide (by assumption)) | exact Kp.drew wr); rintro e w2 ⟨r, rfl, RR, K2, e1, e2⟩))
      all_goals (
        have OG' := hide (((unhide BL).keep (unhide K2)).set k r)
        rw [unhide HD r] at OG'
        have KR' := hide (((unhide KX).kp (unhide K2)).set k (.float .f64 r))
        have HM' : Hid (∀ x ∈ ms ++ [r], W64 x) := by
          intro y hy
          rcases List.mem_append.1 hy with h | h
          · exact unhide HM y h
          · rw [List.mem_singleton.1 h]
            exact (unhide RR).2
        have HR2 := hide (unhide HR' r (unhide RR).1)
        clear e1 e2 hck hck' hcell hfro
        generalize w2.setCell { block := P, off := k } (Value.float FloatKind.f64 r) = w3 at *)
      all_goals (
        go_wp2
        go_roundw
        case rel => exact ⟨k + 1, ms ++ [r], by omega, by go_num, unhide HL2 r, unhide OG', unhide HM', unhide HR2, unhide KR'⟩
        case measure => simp [intOf]; omega)
    · obtain rfl : k = m := by omega
      rw [List.drop_of_length_le (by have := unhide HO; omega), List.append_nil] at BL
      go_wp2
      refine bodyPost_end (v := .tuple #[]) (results_none Try.results20 _ _ _) rfl ⟨ms, rfl, unhide BL, hm', unhide HM, unhide HR, unhide KX⟩

end Go.Proofs.Ythofnmaobmfoiaa
