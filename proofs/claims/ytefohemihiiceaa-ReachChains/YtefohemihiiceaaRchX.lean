
/- The document's own case, as the laws of reach ask for it first. -/
import Derived.Test.YtefohemihiiceaaRchV
namespace Go.Proofs.Ytefohemihiiceaa
open Go.RowKit Go.Shelf

theorem RowsU.row {w : World} {e t : TypeId} {base R n : Nat} {vs : List Value} {P : Nat → List (Nat × Nat)} (h : RowsU w e t base R n vs P) {k : Nat} (hk : k < n) {us : List (Nat × Nat)} (hu : P k = us) :
    ∃ a cap, w.cell? ⟨R, k, none⟩ = some (.slice a us.length cap) ∧ (0 < us.length → ∃ g, a = some ⟨g, 0, none⟩ ∧ ∀ i, i < us.length → w.cell? ⟨g, i * 2, none⟩ = some (.int .i64 ((us.getD i (0, 0)).1 : Int)) ∧ w.cell? ⟨g, i * 2 + 1, none⟩ = some (.int .i64 ((us.getD i (0, 0)).2 : Int))) := by
  subst hu
  have hc := h.blk.cell (i := k) (by rw [h.len]; exact hk)
  have ho := h.own k hk
  by_cases hp : 0 < (P k).length
  · obtain ⟨g, cap, e, hr⟩ := ho.at hp
    exact ⟨_, cap, by rw [hc, e], fun _ => ⟨g, rfl, hr⟩⟩
  · obtain ⟨b, m, c, e⟩ := ho.sl
    rw [e] at ho hc
    have := ho.len
    exact ⟨b, c, by rw [hc, this], fun h => absurd h hp⟩

theorem retU_known {e t : TypeId} {ns : List Nd} {root : Int} {en : Ending} {w' : World} (h : RetU e t ns root en w') (hp : FromP ns root) : ∃ C base vs, en = .returned (.slice (some ⟨C, 0, none⟩) ns.length ns.length) ∧ RowsU w' e t base C ns.length vs (fun j => usersL (innF ns) ns.length root.toNat j) := by
  obtain ⟨N, a, vs, e1, ⟨h1, _⟩ | ⟨_, rfl, C, base, rfl, hR⟩⟩ := h
  · exact absurd hp h1
  · exact ⟨C, base, vs, e1, hR⟩
theorem retC_known {ns : List Nd} {root : Int} {en : Ending} {w' : World} (h : RetC ns root en w') (hp : FromP ns root) : ∃ C xs, en = .returned (.slice (some ⟨C, 0, none⟩) ns.length ns.length) ∧ Blk w' 3 C xs ∧ xs.length = ns.length ∧ ∀ j, j < ns.length → xs.getD j 0 = ((usersL (innF ns) ns.length root.toNat j).length : Int) := by
  obtain ⟨xs, a, e1, ⟨h1, _⟩ | ⟨_, hl, hx⟩, hb⟩ := h
  · exact absurd hp h1
  · have hpos : 0 < ns.length := by have := hp.2.1; have := hp.2.2; omega
    obtain ⟨C, rfl, hB⟩ := hb (by omega)
    exact ⟨C, xs, by rw [e1, hl], hB, hl, hx⟩
theorem retF_known {w w' : World} {ns : List Nd} {root : Int} {en : Ending} (h : RetF w ns root en w') (hp : FromP ns root) : ∃ B, en = .returned (.slice (some ⟨B, 0, none⟩) ns.length ns.length) ∧ BlkB w' B (fromL (innF ns) ns.length root.toNat) := by
  obtain ⟨bs, a, e1, ⟨h1, _⟩ | ⟨_, hl⟩, hb⟩ := h
  · exact absurd hp h1
  · subst hl
    rw [fromL_length] at e1
    rcases hb with ⟨h1, _⟩ | ⟨_, B, rfl, _, hB⟩
    · have h2 := congrArg List.length h1
      rw [fromL_length, List.length_nil] at h2
      have := hp.2.1
      have := hp.2.2
      omega
    · exact ⟨B, e1, hB⟩
theorem retF_null {w w' : World} {ns : List Nd} {root : Int} {en : Ending} (h : RetF w ns root en w') (hp : ¬ FromP ns root) : en = .returned (.slice none 0 0) := by
  obtain ⟨bs, a, e1, ⟨_, rfl⟩ | ⟨h1, _⟩, hb⟩ := h
  · rcases hb with ⟨_, rfl⟩ | ⟨h2, _⟩
    · exact e1
    · simp at h2
  · exact absurd h1 hp
theorem retU_null {e t : TypeId} {ns : List Nd} {root : Int} {en : Ending} {w' : World} (h : RetU e t ns root en w') (hp : ¬ FromP ns root) : ∃ a, en = .returned (.slice a 0 0) := by
  obtain ⟨N, a, vs, e1, ⟨_, rfl⟩ | ⟨h1, _⟩⟩ := h
  · exact ⟨a, e1⟩
  · exact absurd h1 hp
theorem retC_null {ns : List Nd} {root : Int} {en : Ending} {w' : World} (h : RetC ns root en w') (hp : ¬ FromP ns root) : ∃ a, en = .returned (.slice a 0 0) := by
  obtain ⟨xs, a, e1, ⟨_, rfl⟩ | ⟨h1, _⟩, _⟩ := h
  · exact ⟨a, e1⟩
  · exact absurd h1 hp

/-- a node with no more than inputs, written out -/
def ndI (op : Int) (xs : List Int) : Nd := ⟨op, xs, [], 0, [], [], []⟩
def ndW (op : Int) (a : Option Addr) (n c : Nat) : List Value := [.int .i64 op, .slice a n c, .slice none 0 0, .int .i64 0, .slice none 0 0, .slice none 0 0, .slice none 0 0]
theorem ndI_at {w : World} {b o : Nat} {op : Int} {a : Option Addr} {c : Nat} {xs : List Int} (hop : I64 op) (hi : Ints w (.slice a xs.length c) xs) (hc : ∀ j, j < 7 → w.cell? ⟨b, o + j, none⟩ = (ndW op a xs.length c)[j]?) : NdAt w b o (ndI op xs) :=
  ⟨hop, (by show I64 0; exact ⟨by decide, by decide⟩), hc 0 (by omega), hc 3 (by omega), ⟨_, _, hc 1 (by omega), hi⟩, ⟨_, _, hc 2 (by omega), Ints.nil w⟩, ⟨_, _, hc 4 (by omega), Ints.nil w⟩, ⟨_, _, hc 5 (by omega), Flts.nil w⟩, ⟨_, _, hc 6 (by omega), Hooks.nil w none 0⟩⟩
theorem cells_blk {W : World} {b : Nat} {xs : Array Value} {e : TypeId} (h : W.heap[b]? = some (.cells xs e)) (i : Nat) : W.cell? ⟨b, i, none⟩ = xs[i]? := by
  rw [World.cell?, h]
  rfl
theorem heap_oldU {w : World} {o o' : Obj} {B : Nat} (h : w.heap[B]? = some o') : (w.alloc o).heap[B]? = some o' := by
  have hb : B < w.heap.size := (Array.getElem?_eq_some_iff.1 h).1
  have : (w.alloc o).heap[B]? = w.heap[B]? := by simp only [World.alloc]; rw [Array.getElem?_push, if_neg (by omega)]
  rw [this, h]
theorem ints_blkU {W : World} {b c : Nat} {xs : List Int} {cs : Array Value} {e : TypeId} (h : W.heap[b]? = some (.cells cs e)) (hcs : cs = (xs.map (Value.int .i64)).toArray) (hw : ∀ x ∈ xs, I64 x) (hl : xs.length ≤ 1000) : Ints W (.slice (some ⟨b, 0, none⟩) xs.length c) xs :=
  Blk.ints (e := e) (by rw [hcs] at h; exact h) rfl hw (by omega)

def gW : List Nd := [ndI 1 [], ndI 4 [0, 0]]
theorem gW_sound : SoundN gW := by unfold SoundN SoundF; decide +kernel
theorem gW_from : FromP gW 1 := ⟨gW_sound, by decide, by decide⟩
theorem gW_u0 : usersL (innF gW) 2 1 0 = [(1, 0), (1, 1)] := by decide +kernel
theorem gW_tot : totM (innF gW) gW.length 0 ≤ 100000000 := by decide +kernel

theorem gW_at {W : World} {b1 b2 : Nat} {e1 e2 : TypeId} (h1 : W.heap[b1]? = some (.cells #[.int .i64 0, .int .i64 0] e1))
    (h2 : W.heap[b2]? = some (.cells (Value.int .i64 1 :: .slice none 0 0 :: .slice none 0 0 :: .int .i64 0 :: .slice none 0 0 :: .slice none 0 0 :: .slice none 0 0 :: .int .i64 4 :: .slice (some ⟨b1, 0, none⟩) 2 2 :: .slice none 0 0 :: .int .i64 0 :: .slice none 0 0 :: .slice none 0 0 :: .slice none 0 0 :: []).toArray e2)) :
    Nodes W (.slice (some ⟨b2, 0, none⟩) 2 2) gW := by
  refine ⟨by decide, _, 2, rfl, fun _ => ⟨b2, 0, rfl, (Array.getElem?_eq_some_iff.1 h2).1, fun i hi => ?_⟩⟩
  have hi2 : i = 0 ∨ i = 1 := by have : i < 2 := hi; omega
  rcases hi2 with rfl | rfl
  · refine ndI_at (xs := []) ⟨by decide, by decide⟩ (Ints.nil W) fun j hj => ?_
    rw [cells_blk h2]
    match j, hj with
    | 0, _ => rfl
    | 1, _ => rfl
    | 2, _ => rfl
    | 3, _ => rfl
    | 4, _ => rfl
    | 5, _ => rfl
    | 6, _ => rfl
  · refine ndI_at (xs := [0, 0]) (a := some ⟨b1, 0, none⟩) (c := 2) ⟨by decide, by decide⟩ (ints_blkU h1 rfl (by intro x hx; simp at hx; subst hx; exact ⟨by decide, by decide⟩) (by decide)) fun j hj => ?_
    rw [cells_blk h2]
    match j, hj with
    | 0, _ => rfl
    | 1, _ => rfl
    | 2, _ => rfl
    | 3, _ => rfl
    | 4, _ => rfl
    | 5, _ => rfl
    | 6, _ => rfl

set_option maxRecDepth 20000 in
set_option maxHeartbeats 8000000 in
theorem awake11_any (w : World) : Calls Try.prog 8 #[] w fun e w' => e = .returned (.bool true) ∧ Kp w w' := by
  go_enter Try.func8, Try.ntmps8
  go_wp2_with fail
  generalize hW : World.alloc _ _ = W
  have hG : Nodes W (.slice (some ⟨w.heap.size + 1, 0, none⟩) 2 2) gW ∧ W.cell? ⟨w.heap.size + 1 + 1, 0, none⟩ = some (.slice (some ⟨w.heap.size + 1, 0, none⟩) 2 2) ∧ Kp w W := by
    subst hW
    refine ⟨gW_at (heap_oldU (heap_oldU (heap_newU w _))) (heap_oldU (by have h := heap_newU (w.alloc (.cells #[.int .i64 0, .int .i64 0] 3)); simp only [sz_allocU] at h; exact h _)), ?_, ((Kp.alloc w _).trans (Kp.alloc _ _)).trans (Kp.alloc _ _)⟩
    have h := heap_newU ((w.alloc (.cells #[.int .i64 0, .int .i64 0] 3)).alloc (Obj.cells #[.int .i64 1, .slice none 0 0, .slice none 0 0, .int .i64 0, .slice none 0 0, .slice none 0 0, .slice none 0 0, .int .i64 4, .slice (some ⟨w.heap.size, 0, none⟩) 2 2, .slice none 0 0, .int .i64 0, .slice none 0 0, .slice none 0 0, .slice none 0 0] 47)) (.cells #[.slice (some ⟨w.heap.size + 1, 0, none⟩) 2 2] 24)
    simp only [sz_allocU] at h
    rw [cells_blk h]
    rfl
  obtain ⟨hG, cb, hK⟩ := hG
  have HG := hide hG
  have HK := hide hK
  clear hG hK hW
  refine Calls.mono (users_any _ 2 gW 1 W (unhide HG) ⟨by decide, by decide⟩ gW_tot) ?_
  rintro e w1 ⟨hu, k1⟩
  obtain ⟨C, base, vs, rfl, hR⟩ := retU_known hu gW_from
  obtain ⟨a0, c0, hc0, hr0⟩ := hR.row (k := 0) (by decide) gW_u0
  obtain ⟨g, rfl, hg⟩ := hr0 (by decide)
  have hg1 := hg 1 (by decide)
  have cb1 := k1.cellT cb
  have HG1 := hide ((unhide HG).keep k1)
  have HK1 := hide ((unhide HK).trans k1)
  have U0 := hide hc0
  have U1 := hide hg1
  clear hu hR hr0 hg cb HG HK k1 hc0 hg1
  go_wp2_with fail
  refine Calls.mono (counts_any _ 2 gW 1 w1 (unhide HG1) ⟨by decide, by decide⟩ gW_tot) ?_
  rintro e w2 ⟨hu, k2⟩
  obtain ⟨D, xs, rfl, hB, hl, hx⟩ := retC_known hu gW_from
  have hx0 := hx 0 (by decide)
  have hd0 := hB.cell (i := 0) (by rw [hl]; decide)
  rw [hx0] at hd0
  have e0 : ((usersL (innF gW) gW.length (1 : Int).toNat 0).length : Int) = 2 := by decide +kernel
  rw [e0] at hd0
  have cb2 := k2.cellT cb1
  have u0 := k2.cellT (unhide U0)
  have u1 := k2.cellT (unhide U1).1
  have u2 := k2.cellT (unhide U1).2
  have HG2 := hide ((unhide HG1).keep k2)
  have HK2 := hide ((unhide HK1).trans k2)
  clear hu hB hx hx0 hl cb1 HG1 HK1 k2 U0 U1 e0
  go_wp2_with fail
  refine Calls.mono (from_any _ 2 gW 1 w2 (unhide HG2) ⟨by decide, by decide⟩) ?_
  rintro e w3 ⟨hf, k3⟩
  obtain ⟨B, rfl, -⟩ := retF_known hf gW_from
  have HK3 := hide ((unhide HK2).trans k3)
  clear hf k3
  go_wp2
  go_ret
  exact ⟨by first | rfl | trivial, unhide HK3⟩

end Go.Proofs.Ytefohemihiiceaa
