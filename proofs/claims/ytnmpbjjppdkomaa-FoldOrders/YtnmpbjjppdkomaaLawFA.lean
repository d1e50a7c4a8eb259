
/- The law FoldTrees, walked. -/
import Derived.Test.YtnmpbjjppdkomaaFldJ
namespace Go.Proofs.Ytnmpbjjppdkomaa
open Go.RowKit

theorem sameT_cn8 {s : List Int} {d d' : List Nat} (h : d.map cn = d'.map cn) : sameT s d s d' = true := by
  have hl : d.length = d'.length := by have := congrArg List.length h; simpa using this
  rw [sameT_yes (by unfold sameB; simp)]
  refine allB_yes hl (fun j hj => ?_)
  rw [sameF_iff]
  have h2 := congrArg (fun l => l.getD j 0) h
  have hj' : j < d'.length := by omega
  simp [hj, hj'] at h2
  simp [hj, hj']
  exact h2

set_option maxHeartbeats 4000000 in
theorem trees_walk (a : Option Addr) (len cap : Nat) (w : World) (h : InTens w a len cap) :
    Calls Try.prog 3 #[.slice a len cap] w fun e w' => e = .returned (.bool true) ∧ Kp w w' := by
  have H := hide h
  clear h
  go_enter Try.func3, Try.ntmps3
  go_wp2_with fail
  refine (awake8_any w).mono ?_
  rintro e w1 ⟨rfl, k1⟩
  have K1 := hide k1
  have H1 := hide ((unhide H).keep k1)
  clear k1
  go_wp2_with fail
  refine (few_any a len cap w1 (unhide H1)).mono ?_
  rintro e w2 ⟨r, rfl, hr, k2⟩
  have HR := hide hr
  have K2 := hide ((unhide K1).trans k2)
  have KK := hide k2
  clear hr k2
  cases r
  · clear HR
    go_wp2
    go_ret
    exact ⟨rfl, unhide K2⟩
  · obtain ⟨hl, ts, hts, ht⟩ := unhide HR rfl
    have HT := hide (ht.keep (unhide KK))
    clear HR ht
    go_wp2_with fail
    refine (tree_all _ ts w2 (unhide HT)).mono ?_
    generalize hS : trS ts = S at *
    generalize hE : trE ts = E at *
    generalize hD : trD ts = D at *
    have HQ := hide (And.intro hS (And.intro hE hD))
    clear hS hE hD
    rintro e w3 ⟨ds, ⟨a1, c1, a2, c2, rfl, i1, f1, -, -⟩, hc, k3⟩
    have ka3 := Kp.alloc w3 (.cells #[.slice a1 S.length c1, .slice a2 ds.length c2] 28)
    have I3 := hide (i1.keep ka3)
    have F3 := hide (f1.keep ka3)
    have HT3 := hide ((unhide HT).keep (k3.trans ka3))
    have K3 := hide ((unhide K2).trans (k3.trans ka3))
    have X3 := hide (Bx.made w3 (.slice a1 S.length c1) (.slice a2 ds.length c2))
    have HC := hide hc
    clear hc i1 f1 k3 ka3
    go_upto_region 6 with fail
    generalize w3.alloc (.cells #[.slice a1 S.length c1, .slice a2 ds.length c2] 28) = w4 at *
    generalize w3.heap.size = X at *
    go_wp2_with fail
    refine (rtree_all _ ts w4 (unhide HT3)).mono ?_
    rw [(unhide HQ).1, (unhide HQ).2.1, (unhide HQ).2.2]
    rintro e w5 ⟨ds2, ⟨b1, e1, b2, e2, rfl, i1, f1, -, -⟩, hc, k5⟩
    have ka5 := Kp.alloc w5 (.cells #[.slice b1 S.length e1, .slice b2 ds2.length e2] 28)
    have I5 := hide (i1.keep ka5)
    have F5 := hide (f1.keep ka5)
    have K5 := hide ((unhide K3).trans (k5.trans ka5))
    have I3' := hide ((unhide I3).keep (k5.trans ka5))
    have F3' := hide ((unhide F3).keep (k5.trans ka5))
    have X3' := hide ((unhide X3).keep (k5.trans ka5))
    have X5 := hide (Bx.made w5 (.slice b1 S.length e1) (.slice b2 ds2.length e2))
    have HS := hide (sameT_cn8 (s := S) ((unhide HC).trans hc.symm))
    clear hc i1 f1 k5 ka5
    go_upto_region 7 with fail
    generalize w5.alloc (.cells #[.slice b1 S.length e1, .slice b2 ds2.length e2] 28) = w6 at *
    generalize w5.heap.size = Y at *
    obtain ⟨x0, x1, -, -, -⟩ := (unhide X3').o
    obtain ⟨y0, y1, -, -, -⟩ := (unhide X5).o
    have heq : (E == E) = true := by simp
    go_wp2_with fail
    refine (rsameT_any _ _ _ _ S ds S ds2 w6 (unhide I3') (unhide F3') (unhide I5) (unhide F5)).mono ?_
    rw [unhide HS]
    rintro e w7 ⟨rfl, k7⟩
    have K7 := hide ((unhide K5).trans k7)
    clear x0 x1 y0 y1 k7
    go_wp2
    go_ret
    exact ⟨rfl, unhide K7⟩

end Go.Proofs.Ytnmpbjjppdkomaa
