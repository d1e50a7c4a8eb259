/- The document's own case, as the laws of shapes ask for it first. -/
import Derived.Test.YtbomfmdjpoebcaaRSpr
namespace Go.Proofs.Ytbomfmdjpoebcaa
open Go.RowKit

theorem lit_ints (w : World) (e : TypeId) (ys : List Int) (c : Array Value) (B n : Nat) (hc : c = (ys.map (Value.int .i64)).toArray) (hB : B = w.heap.size) (hn : ys.length = n) (hw : ∀ x ∈ ys, I64 x) (hr : n * 8 ≤ 140737488351232) :
    Ints (w.alloc (.cells c e)) (.slice (some ⟨B, 0, none⟩) n n) ys := by
  subst hc hB
  refine Blk.ints (e := e) ?_ hn hw hr
  unfold Blk
  simp only [World.alloc, Array.getElem?_push_size]

theorem aw1 : sprE [3, 1] [2] = 0 := by decide +kernel
theorem aw2 : sprL [3, 1] [2] = [3, 2] := by decide +kernel
theorem aw3 : sameB [3, 2] [3, 2] = true := by decide +kernel
theorem aw4 : mayB [3, 2] = true := by decide +kernel
theorem aw5 : ixN [3, 2] [2, 1] = 5 := by decide +kernel
theorem aw6 : strN [3, 2] = [2, 1] := by decide +kernel
theorem aw7 : sameB [2, 1] [2, 1] = true := by decide +kernel

set_option maxHeartbeats 400000 in
theorem awake_any (w : World) : Calls Try.prog 9 #[] w fun e w' => e = .returned (.bool true) ∧ Kp w w' := by
  go_enter Try.func9, Try.ntmps9
  go_wp2_with fail
  have HK := hide ((Kp.alloc w (.cells #[.int .i64 3, .int .i64 1] 3)).trans (Kp.alloc _ (.cells #[.int .i64 2] 3)))
  have h1 := lit_ints w 3 [3, 1] #[.int .i64 3, .int .i64 1] w.heap.size 2 rfl rfl rfl (by unfold I64; decide) (by decide)
  have h2 := lit_ints (w.alloc (.cells #[.int .i64 3, .int .i64 1] 3)) 3 [2] #[.int .i64 2] (w.heap.size + 1) 1 rfl (by simp) rfl (by unfold I64; decide) (by decide)
  have H1 := hide (h1.keep (Kp.alloc _ (.cells #[.int .i64 2] 3)))
  have H2 := hide h2
  clear h1 h2
  refine (spread_any _ _ [3, 1] [2] _ (unhide H1) (unhide H2)).mono ?_
  rw [aw1, aw2]
  rintro e w1 ⟨r, rfl, hr1, _, hk1⟩
  have HR := hide hr1
  have HK1 := hide ((unhide HK).trans hk1)
  clear hr1 HK H1 H2 hk1
  go_wp2_with fail
  have HL := hide (lit_ints w1 3 [3, 2] #[.int .i64 3, .int .i64 2] w1.heap.size 2 rfl rfl rfl (by unfold I64; decide) (by decide))
  refine (same_any _ _ [3, 2] [3, 2] _ ((unhide HR).keep (Kp.alloc _ _)) (unhide HL)).mono ?_
  rw [aw3]
  rintro e w2 ⟨rfl, hk2⟩
  have HR2 := hide ((unhide HR).keep ((Kp.alloc _ _).trans hk2))
  have HK2 := hide (((unhide HK1).trans (Kp.alloc _ _)).trans hk2)
  clear HR HL HK1 hk2
  go_wp2_with fail
  refine (may_any _ [3, 2] _ (unhide HR2)).mono ?_
  rw [aw4]
  rintro e w3 ⟨rfl, hk3⟩
  have HR3 := hide ((unhide HR2).keep hk3)
  have HK3 := hide ((unhide HK2).trans hk3)
  clear HR2 HK2 hk3
  go_wp2_with fail
  have HL := hide (lit_ints w3 3 [2, 1] #[.int .i64 2, .int .i64 1] w3.heap.size 2 rfl rfl rfl (by unfold I64; decide) (by decide))
  refine (index_any _ _ [3, 2] [2, 1] _ ((unhide HR3).keep (Kp.alloc _ _)) (unhide HL)).mono ?_
  rw [aw5]
  rintro e w4 ⟨rfl, hk4⟩
  have HR4 := hide ((unhide HR3).keep ((Kp.alloc _ _).trans hk4))
  have HK4 := hide (((unhide HK3).trans (Kp.alloc _ _)).trans hk4)
  clear HR3 HL HK3 hk4
  go_wp2_with fail
  refine (strides_any _ [3, 2] _ (unhide HR4)).mono ?_
  rw [aw6]
  rintro e w5 ⟨u5, rfl, hu5, _, hk5⟩
  have HU := hide hu5
  have HK5 := hide ((unhide HK4).trans hk5)
  clear HR4 HK4 hk5 hu5
  go_wp2_with fail
  have HL := hide (lit_ints w5 3 [2, 1] #[.int .i64 2, .int .i64 1] w5.heap.size 2 rfl rfl rfl (by unfold I64; decide) (by decide))
  refine (rsame_any _ _ [2, 1] [2, 1] _ ((unhide HU).keep (Kp.alloc _ _)) (unhide HL)).mono ?_
  rw [aw7]
  rintro e w6 ⟨rfl, hk6⟩
  have HK6 := hide (((unhide HK5).trans (Kp.alloc _ _)).trans hk6)
  clear HU HL HK5 hk6
  go_wp2
  go_ret
  exact ⟨rfl, unhide HK6⟩

end Go.Proofs.Ytbomfmdjpoebcaa
