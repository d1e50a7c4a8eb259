
/- Contracts of New and Of. -/
import Derived.Test.YtliddjpcbhdplaaTenG
import Derived.Test.YtliddjpcbhdplaaTenH
namespace Go.Proofs.Ytliddjpcbhdplaa
open Go.RowKit

/-- a pair and a number handed back -/
theorem lit_one (w : World) (x : Nat) (hx : W64 x) : Flts (w.alloc (.cells #[.float .f64 x] 89)) (.slice (some ⟨w.heap.size, 0, none⟩) 1 1) [x] :=
  lit_flts w 89 [x] #[.float .f64 x] w.heap.size 1 rfl rfl rfl (by intro y hy; rw [List.mem_singleton.1 hy]; exact hx) (by decide)

theorem BlkF.g {w : World} {e : TypeId} {G n : Nat} {ys : List Nat} (h : BlkF w e G ys) (hn : ys.length = n) (hm : n ≤ 1000000) : OwnG w e G n n ys :=
  ⟨hn, ⟨Nat.le_refl _, by unfold maxLen; omega⟩, _, h, by simpa using hn, by simp [← hn, List.take_of_length_le]⟩

end Go.Proofs.Ytliddjpcbhdplaa
