
/- Contracts of what copies slices and asks tensors whether they may be. -/
import Derived.Test.YtliddjpcbhdplaaShapeA
import Derived.Test.YtliddjpcbhdplaaRefA
import Derived.Test.YtliddjpcbhdplaaFNum
import Derived.Deep.RegionWith
namespace Go.Proofs.Ytliddjpcbhdplaa
open Go.RowKit

set_option maxHeartbeats 400000 in
theorem clone_ints (v : Value) (xs : List Int) (w : World) (h : Ints w v xs) (hb : xs.length ≤ 1000000) :
    Calls Try.prog 52 #[v] w fun e w' => ∃ u, e = .returned u ∧ Own w' 3 w.heap.size u xs ∧ Kp w w' := by
  have q : ∀ (w : World) (a : Option Addr) (n c n' c' : Nat), (binOp .eql 35 (.slice a n c) (.slice none n' c')).run Try.prog w = .ok (.bool a.isNone) w := fun w a n c n' c' => Lib.run_eql_slice_nil w _ _ a n c n' c' Try.underlying35
  have AP := hide (h.keep (Kp.alloc w (.cells #[] 3)))
  obtain ⟨a, cap, rfl, hv⟩ := h.val
  clear hv
  cases a with
  | none =>
    have hz := h.nonil _ _ rfl
    have hx : xs = [] := List.eq_nil_of_length_eq_zero hz.1
    subst hx
    clear h AP hz
    go_enter Try.func52, Try.ntmps52
    go_wp2
    go_ret
    exact ⟨_, rfl, Own.nil _ _ _, Kp.refl _⟩
  | some ad =>
    clear h
    have INFO := hide (show (Try.prog.info? 3).map (fun i => (i.zero, i.size, i.bytes)) = some (some (.int .i64 0), 1, 8) by kernel_rfl)
    have OW := hide (Own.lit w 3 [] #[] w.heap.size 0 w.heap.size rfl rfl rfl (Nat.le_refl _) (by decide))
    have RM : Hid (([] : List Int).length + xs.length ≤ 1000000) := by simpa [Hid] using hb
    have BS : Hid (w.heap.size ≤ (w.alloc (.cells #[] 3)).heap.size) := (Kp.alloc _ _).size
    have KA := hide (Kp.alloc w (.cells #[] 3))
    generalize hl : xs.length = n at *
    have HL := hide hl
    clear hl
    go_enter Try.func52, Try.ntmps52
    go_wp2_with (at_builtin; go_must (refine wpList_append_ints _ rfl (.tmp 5) (.tmp 6) 35 rfl w.heap.size 3 (unhide INFO) Try.underlying35 _ _ [] xs rfl rfl (unhide OW) (unhide AP) (by have := unhide RM; have := unhide HL; simp at *; omega) (unhide BS) ?_); intro v2 w2 o2 g2)
    have O2 := hide o2
    have K2 := hide ((unhide KA).of_grown g2 (fun k hk => (unhide OW).block k hk))
    clear o2 g2
    go_wp2
    go_ret
    exact ⟨_, rfl, unhide O2, unhide K2⟩

end Go.Proofs.Ytliddjpcbhdplaa
