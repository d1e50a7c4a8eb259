
/- PileKnown and PileOne. -/
import Derived.Test.YthcilobmoeihbaaPilI
namespace Go.Proofs.Ythcilobmoeihbaa
open Go.RowKit

set_option maxRecDepth 20000 in
set_option maxHeartbeats 4000000 in
theorem known14_any (w : World) : Calls Try.prog 5 #[] w fun e w' => e = .returned (.bool true) ∧ Kp w w' := by
  have HA := hide (awake14_any w)
  go_enter Try.func5, Try.ntmps5
  go_wp2_with fail
  refine (unhide HA).mono ?_
  clear HA
  rintro e w0 ⟨rfl, k0⟩
  have HN := hide (my_new w w0 k0)
  clear k0
  go_wp2_with fail
  refine (unhide HN).mono ?_
  clear HN
  rintro e w1 ⟨P, rfl, h1, -⟩
  have H1 := hide h1
  clear h1
  go_wp2_with fail
  refine (my_pop (unhide H1)).mono ?_
  rintro e w2 ⟨rfl, h2, -⟩
  have H2 : Hid (MyP w w2 P []) := h2
  have e0 : nxt ([] : List (Int × Int)) = (0, 0) := rfl
  have e1 : decide (0 < ([] : List (Int × Int)).length) = false := rfl
  rw [e0, e1]
  clear h2 H1 e0 e1
  go_wp2_with fail
  refine (my_push (unhide H2) 7 (-3) (by decide)).mono ?_
  rintro e w3 ⟨rfl, h3, -⟩
  have H3 := hide h3
  clear h3 H2
  go_wp2_with fail
  refine (my_push (unhide H3) 2 4 (by decide)).mono ?_
  rintro e w4 ⟨rfl, h4, -⟩
  have H4 := hide h4
  clear h4 H3
  go_wp2_with fail
  refine (my_push (unhide H4) 7 4 (by decide)).mono ?_
  rintro e w5 ⟨rfl, h5, -⟩
  have H5 := hide h5
  clear h5 H4
  go_wp2_with fail
  refine (my_push (unhide H5) (-1) 4 (by decide)).mono ?_
  rintro e w6 ⟨rfl, h6, -⟩
  have e6 : insI (-1, 4) (insI (7, 4) (insI (2, 4) (insI (7, -3) []))) = [(-1, 4), (2, 4), (7, 4), (7, -3)] := by decide
  rw [e6] at h6
  have H6 := hide h6
  clear h6 H5 e6
  go_wp2_with fail
  refine (my_top (unhide H6)).mono ?_
  rintro e w7 ⟨rfl, h7, -⟩
  have H7 := hide h7
  have e7 : nxt [((-1 : Int), (4 : Int)), (2, 4), (7, 4), (7, -3)] = (-1, 4) := rfl
  have e8 : decide (0 < [((-1 : Int), (4 : Int)), (2, 4), (7, 4), (7, -3)].length) = true := rfl
  rw [e7, e8]
  clear h7 H6 e7 e8
  go_wp2_with fail
  refine (my_drop (unhide H7) 7).mono ?_
  rintro e w8 ⟨rfl, h8, -⟩
  have e9 : keepI 7 [((-1 : Int), (4 : Int)), (2, 4), (7, 4), (7, -3)] = [(-1, 4), (2, 4)] := by decide
  rw [e9] at h8 ⊢
  have e10 : ((([((-1 : Int), (4 : Int)), (2, 4), (7, 4), (7, -3)].length : Nat) : Int)) - ((([((-1 : Int), (4 : Int)), (2, 4)].length : Nat) : Int)) = 2 := rfl
  rw [e10]
  have H8 := hide h8
  clear h8 H7 e9 e10
  go_wp2_with fail
  refine (my_pop (unhide H8)).mono ?_
  rintro e w9 ⟨rfl, h9, -⟩
  have H9 : Hid (MyP w w9 P [(2, 4)]) := h9
  have e11 : nxt [((-1 : Int), (4 : Int)), (2, 4)] = (-1, 4) := rfl
  have e12 : decide (0 < [((-1 : Int), (4 : Int)), (2, 4)].length) = true := rfl
  rw [e11, e12]
  clear h9 H8 e11 e12
  go_wp2_with fail
  refine (my_pop (unhide H9)).mono ?_
  rintro e w10 ⟨rfl, h10, -⟩
  have H10 : Hid (MyP w w10 P []) := h10
  have e13 : nxt [((2 : Int), (4 : Int))] = (2, 4) := rfl
  have e14 : decide (0 < [((2 : Int), (4 : Int))].length) = true := rfl
  rw [e13, e14]
  clear h10 H9 e13 e14
  go_wp2_with fail
  refine (my_len (unhide H10)).mono ?_
  rintro e w11 ⟨rfl, rfl⟩
  have e15 : ((([] : List (Int × Int)).length : Nat) : Int) = 0 := rfl
  rw [e15]
  go_wp2_with fail
  refine (my_drop (unhide H10) 7).mono ?_
  rintro e w12 ⟨rfl, h12, -⟩
  have e16 : keepI 7 ([] : List (Int × Int)) = [] := rfl
  rw [e16] at h12 ⊢
  rw [e15]
  have H12 := hide h12
  clear h12 H10 e15 e16
  go_wp2
  go_ret
  exact ⟨rfl, (unhide H12).kp⟩

set_option maxRecDepth 20000 in
set_option maxHeartbeats 4000000 in
theorem one14_any (id rank : Int) (w : World) : Calls Try.prog 8 #[.int .i64 id, .int .i64 rank] w fun e w' => e = .returned (.bool true) ∧ Kp w w' := by
  have HA := hide (awake14_any w)
  have ei : insI (id, rank) [] = [(id, rank)] := rfl
  have en : nxt [(id, rank)] = (id, rank) := rfl
  have ed : decide (0 < [(id, rank)].length) = true := rfl
  have e0 : nxt ([] : List (Int × Int)) = (0, 0) := rfl
  have e1 : decide (0 < ([] : List (Int × Int)).length) = false := rfl
  have ek : keepI id [(id, rank)] = [] := by simp [keepI]
  have el : ((([(id, rank)].length : Nat) : Int)) - (((([] : List (Int × Int)).length : Nat) : Int)) = 1 := rfl
  have ez : ((([] : List (Int × Int)).length : Nat) : Int) = 0 := rfl
  have EE := hide (And.intro ei (And.intro en (And.intro ed (And.intro e0 (And.intro e1 (And.intro ek (And.intro el ez)))))))
  clear ei en ed e0 e1 ek el ez
  go_enter Try.func8, Try.ntmps8
  go_wp2_with fail
  refine (unhide HA).mono ?_
  clear HA
  rintro e w0 ⟨rfl, k0⟩
  have HN := hide (my_new w w0 k0)
  clear k0
  go_wp2_with fail
  refine (unhide HN).mono ?_
  clear HN
  rintro e w1 ⟨P, rfl, h1, -⟩
  have H1 := hide h1
  clear h1
  go_wp2_with fail
  refine (my_push (unhide H1) id rank (by decide)).mono ?_
  rintro e w2 ⟨rfl, h2, -⟩
  rw [(unhide EE).1] at h2
  have H2 := hide h2
  clear h2 H1
  go_wp2_with fail
  refine (my_top (unhide H2)).mono ?_
  rw [(unhide EE).2.1, (unhide EE).2.2.1]
  rintro e w3 ⟨rfl, h3, -⟩
  have H3 := hide h3
  clear h3 H2
  go_wp2_with fail
  refine (my_pop (unhide H3)).mono ?_
  rw [(unhide EE).2.1, (unhide EE).2.2.1]
  rintro e w4 ⟨rfl, h4, -⟩
  have H4 : Hid (MyP w w4 P []) := h4
  clear h4 H3
  go_wp2_with fail
  refine (my_top (unhide H4)).mono ?_
  rw [(unhide EE).2.2.2.1, (unhide EE).2.2.2.2.1]
  rintro e w5 ⟨rfl, h5, -⟩
  have H5 := hide h5
  clear h5 H4
  go_wp2_with fail
  refine (my_push (unhide H5) id rank (by decide)).mono ?_
  rintro e w6 ⟨rfl, h6, -⟩
  rw [(unhide EE).1] at h6
  have H6 := hide h6
  clear h6 H5
  go_wp2_with fail
  refine (my_drop (unhide H6) id).mono ?_
  rw [(unhide EE).2.2.2.2.2.1, (unhide EE).2.2.2.2.2.2.1]
  rintro e w7 ⟨rfl, h7, -⟩
  have H7 := hide h7
  clear h7 H6
  go_wp2_with fail
  refine (my_len (unhide H7)).mono ?_
  rw [(unhide EE).2.2.2.2.2.2.2]
  rintro e w8 ⟨rfl, rfl⟩
  go_wp2
  go_ret
  exact ⟨by simp, (unhide H7).kp⟩

end Go.Proofs.Ythcilobmoeihbaa
