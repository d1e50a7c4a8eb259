
/- Contracts of the document's own: under. -/
import Derived.Test.YtcegkaemcjlfgaaKerI
import Derived.Test.YtcegkaemcjlfgaaKPureC
import Derived.Test.YtcegkaemcjlfgaaPlce
namespace Go.Proofs.Ytcegkaemcjlfgaa
open Go.RowKit

theorem clip_wf {f a : List Int} (h : f.length ≤ a.length) (hw : ∀ x ∈ a, I64 x) : ∀ x ∈ clip f a, I64 x := by
  intro x hx
  obtain ⟨k, hk, rfl⟩ := List.mem_iff_getElem.1 hx
  have hk' : k < f.length := by rw [clip_length h] at hk; exact hk
  have e := clip_getD h hk'
  rw [getD_at hk] at e
  rw [e]
  split
  · rw [getD_at (by omega)]
    exact hw _ (List.getElem_mem _)
  · unfold I64; omega

set_option maxHeartbeats 1000000 in
theorem under_any (v u : Value) (f a : List Int) (w : World) (h : Ints w v f) (h' : Ints w u a) (hl : f.length ≤ a.length) (ha : a.length ≤ 4) :
    Calls Try.prog 25 #[v, u] w fun e w' => e = .returned (.int .i64 (ixN f (clip f a))) ∧ Kp w w' := by
  have H := hide h
  have HG := hide (fun k hk => h.getD (k := k) hk)
  have HG' := hide (fun k hk => h'.getD (k := k) hk)
  have WA := hide (clip_wf hl h'.wf)
  obtain ⟨p, cp, rfl, hv⟩ := h.val
  obtain ⟨p', cp', rfl, hv'⟩ := h'.val
  have HV := hide hv
  have HV' := hide hv'
  have hmk := mk_ints f.length (by omega)
  clear h h' hv hv'
  go_enter Try.func25, Try.ntmps25
  go_wp2
  clear hmk
  have B0 := hide (Blk.made w 3 f.length)
  have K0 := hide (Kp.alloc w (.cells (madeCells #[.int .i64 0] f.length) 3))
  have HB : Hid (∀ b, b < w.heap.size → ¬ b = w.heap.size) := by intro b hb; omega
  generalize w.alloc (.cells (madeCells #[.int .i64 0] f.length) 3) = w0 at *
  generalize hBq : w.heap.size = B at B0 HB ⊢
  have HBS : Hid (w.heap.size ≤ B) := by unfold Hid; omega
  have HB' : Hid (∀ b, b < w.heap.size → ¬ b = B) := by intro b hb; omega
  clear hBq HB
  rw [← clipS_zero hl] at B0
  go_loopw [6] (fun i wr => ∃ k : Nat, k ≤ f.length ∧ i = .int .i64 ((k : Int) + 1) ∧ Hid (Blk wr 3 B (clipS f a k)) ∧ Hid (Kx B w0 wr)) (fun i _ => f.length + 1 - (intOf i).toNat)
  case atStart => exact ⟨0, Nat.zero_le _, rfl, unhide B0, Kx.refl _ _⟩
  case round =>
    obtain ⟨k, hk, rfl, BL, KX⟩ := hrel
    by_cases hlt : k < f.length
    · obtain ⟨b, off, rfl, hb, hc⟩ := unhide HV (by omega)
      obtain ⟨b', off', rfl, hb', hc'⟩ := unhide HV' (by omega)
      have hck : wr.cell? ⟨b, off + (f.length - 1 - k), none⟩ = some (.int .i64 (f.getD (f.length - 1 - k) 0)) := ((unhide KX).cell (p := ⟨b, off + (f.length - 1 - k), none⟩) (Nat.lt_of_lt_of_le hb (unhide K0).size) (unhide HB' b hb)).trans ((Below.cell (unhide K0) (p := ⟨b, off + (f.length - 1 - k), none⟩) hb).trans (hc (f.length - 1 - k) (by omega)))
      have hck' : wr.cell? ⟨b', off' + (a.length - 1 - k), none⟩ = some (.int .i64 (a.getD (a.length - 1 - k) 0)) := ((unhide KX).cell (p := ⟨b', off' + (a.length - 1 - k), none⟩) (Nat.lt_of_lt_of_le hb' (unhide K0).size) (unhide HB' b' hb')).trans ((Below.cell (unhide K0) (p := ⟨b', off' + (a.length - 1 - k), none⟩) hb').trans (hc' (a.length - 1 - k) (by omega)))
      have hx2 := unhide HG (f.length - 1 - k) (by omega)
      have hy2 := unhide HG' (a.length - 1 - k) (by omega)
      have CE := hide (clip_getD hl (k := f.length - 1 - k) (by omega))
      rw [show a.length - f.length + (f.length - 1 - k) = a.length - 1 - k by omega] at CE
      have hcell := (unhide BL).cell (i := f.length - 1 - k) (by rw [clipS_length hl hk]; omega)
      have hfro := (unhide BL).frozen (f.length - 1 - k)
      have ix1 : ((f.length : Int) - ((k : Int) + 1)).toNat = f.length - 1 - k := by omega
      have ix2 : ((a.length : Int) - ((k : Int) + 1)).toNat = a.length - 1 - k := by omega
      have ix3 : 0 ≤ (f.length : Int) - ((k : Int) + 1) := by omega
      have ix4 : 0 ≤ (a.length : Int) - ((k : Int) + 1) := by omega
      have ix5 : (f.length : Int) - ((k : Int) + 1) < (f.length : Int) := by omega
      have ix6 : (a.length : Int) - ((k : Int) + 1) < (a.length : Int) := by omega
      have ix7 : (k : Int) + 1 ≤ (f.length : Int) := by omega
      have ix8 : decide ((k : Int) + 1 ≤ (f.length : Int)) = true := decide_eq_true ix7
      clear hc hc'
      by_cases h1 : 1 < f.getD (f.length - 1 - k) 0
      · rw [if_pos h1] at CE
        have BW := hide ((unhide BL).set (f.length - 1 - k) (a.getD (a.length - 1 - k) 0))
        rw [← unhide CE, clipS_set hl hlt] at BW
        rw [unhide CE] at BW
        have KW := hide ((unhide KX).set (f.length - 1 - k) (.int .i64 (a.getD (a.length - 1 - k) 0)))
        clear BL CE
        generalize (clipS f a k).getD (f.length - 1 - k) 0 = old at *
        generalize f.getD (f.length - 1 - k) 0 = x at *
        generalize a.getD (a.length - 1 - k) 0 = y at *
        go_wp2
        go_roundw
        case rel => exact ⟨k + 1, by omega, by go_num, unhide BW, unhide KW⟩
        case measure => simp [intOf]; omega
      · rw [if_neg h1] at CE
        have BW := hide (unhide BL)
        rw [← clipS_same hl hlt (unhide CE)] at BW
        clear BL CE hcell hfro
        generalize f.getD (f.length - 1 - k) 0 = x at *
        go_wp2
        go_roundw
        case rel => exact ⟨k + 1, by omega, by go_num, unhide BW, unhide KX⟩
        case measure => simp [intOf]; omega
    · obtain rfl : k = f.length := by omega
      have ix7 : ¬ (f.length : Int) + 1 ≤ (f.length : Int) := by omega
      rw [clipS_all] at BL
      have R := hide ((unhide BL).ints (n := f.length) (cap := f.length) (clip_length hl) (unhide WA) (by omega))
      have K1 := hide (Kx.after (unhide K0) (unhide KX) (unhide HBS))
      have S1 := hide ((unhide H).keep (unhide K1))
      go_wp2_with fail
      refine (rindex_any _ _ f (clip f a) wr (unhide S1) (unhide R)).mono ?_
      rintro e w2 ⟨rfl, k2⟩
      have K2 := hide ((unhide K1).trans k2)
      clear k2
      go_wp2
      go_ret
      exact ⟨rfl, unhide K2⟩

end Go.Proofs.Ytcegkaemcjlfgaa
