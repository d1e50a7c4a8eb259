
/- Nodes and graphs in memory. -/
import Derived.Test.YtefohemihiiceaaHokA
import Derived.Test.YtefohemihiiceaaGa
namespace Go.Proofs.Ytefohemihiiceaa
open Go.RowKit

/-- a node in plain mathematics -/
structure Nd where
  op : Int
  inn : List Int
  tt : List Int
  no : Int
  s : List Int
  d : List Nat
  hk : List Hk
def ndnil : Nd := ⟨0, [], [], 0, [], [], []⟩

theorem Kp.cellT {w w' : World} (k : Kp w w') {p : Addr} {v : Value} (h : w.cell? p = some v) : w'.cell? p = some v := by
  have hlt : p.block < w.heap.size := by
    unfold World.cell? at h
    split at h
    · rename_i c t f hh
      exact (Array.getElem?_eq_some_iff.1 hh).1
    · cases h
  exact (Below.cell k hlt).trans h

/-- at that place of block b a node lies -/
structure NdAt (w : World) (b o : Nat) (n : Nd) : Prop where
  wop : I64 n.op
  wno : I64 n.no
  op : w.cell? ⟨b, o, none⟩ = some (.int .i64 n.op)
  no : w.cell? ⟨b, o + 3, none⟩ = some (.int .i64 n.no)
  inn : ∃ a c, w.cell? ⟨b, o + 1, none⟩ = some (.slice a n.inn.length c) ∧ Ints w (.slice a n.inn.length c) n.inn
  tt : ∃ a c, w.cell? ⟨b, o + 2, none⟩ = some (.slice a n.tt.length c) ∧ Ints w (.slice a n.tt.length c) n.tt
  s : ∃ a c, w.cell? ⟨b, o + 4, none⟩ = some (.slice a n.s.length c) ∧ Ints w (.slice a n.s.length c) n.s
  d : ∃ a c, w.cell? ⟨b, o + 5, none⟩ = some (.slice a n.d.length c) ∧ Flts w (.slice a n.d.length c) n.d
  hk : ∃ a c, w.cell? ⟨b, o + 6, none⟩ = some (.slice a n.hk.length c) ∧ Hooks w (.slice a n.hk.length c) n.hk
theorem NdAt.keep {w w' : World} {b o : Nat} {n : Nd} (h : NdAt w b o n) (k : Kp w w') : NdAt w' b o n := by
  obtain ⟨h1, h2, h3, h4, ⟨a5, c5, h5, i5⟩, ⟨a6, c6, h6, i6⟩, ⟨a7, c7, h7, i7⟩, ⟨a8, c8, h8, i8⟩, ⟨a9, c9, h9, i9⟩⟩ := h
  exact ⟨h1, h2, k.cellT h3, k.cellT h4, ⟨a5, c5, k.cellT h5, i5.keep k⟩, ⟨a6, c6, k.cellT h6, i6.keep k⟩, ⟨a7, c7, k.cellT h7, i7.keep k⟩, ⟨a8, c8, k.cellT h8, i8.keep k⟩, ⟨a9, c9, k.cellT h9, i9.keep k⟩⟩

/-- the slice value v reads as the nodes ns -/
structure Nodes (w : World) (v : Value) (ns : List Nd) : Prop where
  room : ns.length ≤ 1000000
  val : ∃ a cap, v = .slice a ns.length cap ∧ (0 < ns.length → ∃ b off, a = some ⟨b, off, none⟩ ∧ b < w.heap.size ∧ ∀ i, i < ns.length → NdAt w b (off + i * 7) (ns.getD i ndnil))
theorem Nodes.keep {w w' : World} {v : Value} {ns : List Nd} (h : Nodes w v ns) (k : Kp w w') : Nodes w' v ns := by
  obtain ⟨h1, a, cap, rfl, h2⟩ := h
  refine ⟨h1, a, cap, rfl, fun hp => ?_⟩
  obtain ⟨b, off, rfl, hb, hc⟩ := h2 hp
  exact ⟨b, off, rfl, Nat.lt_of_lt_of_le hb k.size, fun i hi => (hc i hi).keep k⟩
theorem Nodes.one {w w' : World} {a : Option Addr} {n c : Nat} {ns : List Nd} (h : Nodes w (.slice a n c) ns) (k : Kp w w') {i : Nat} (hi : i < ns.length) : ∃ b off, a = some ⟨b, off, none⟩ ∧ b < w'.heap.size ∧ NdAt w' b (off + i * 7) (ns.getD i ndnil) := by
  obtain ⟨_, a', cap, e, h2⟩ := h
  cases e
  obtain ⟨b, off, rfl, hb, hc⟩ := h2 (by omega)
  exact ⟨b, off, rfl, Nat.lt_of_lt_of_le hb k.size, (hc i hi).keep k⟩
theorem Nodes.nil (w : World) (a : Option Addr) (c : Nat) : Nodes w (.slice a 0 c) [] := ⟨by simp, a, c, rfl, by simp⟩

/-- the slice value v reads as the graphs gs -/
structure Graphs (w : World) (v : Value) (gs : List (List Nd)) : Prop where
  room : gs.length ≤ 1000000
  val : ∃ a cap, v = .slice a gs.length cap ∧ (0 < gs.length → ∃ b off, a = some ⟨b, off, none⟩ ∧ b < w.heap.size ∧ ∀ i, i < gs.length → ∃ a' c', w.cell? ⟨b, off + i, none⟩ = some (.slice a' (gs.getD i []).length c') ∧ Nodes w (.slice a' (gs.getD i []).length c') (gs.getD i []))
theorem Graphs.keep {w w' : World} {v : Value} {gs : List (List Nd)} (h : Graphs w v gs) (k : Kp w w') : Graphs w' v gs := by
  obtain ⟨h1, a, cap, rfl, h2⟩ := h
  refine ⟨h1, a, cap, rfl, fun hp => ?_⟩
  obtain ⟨b, off, rfl, hb, hc⟩ := h2 hp
  refine ⟨b, off, rfl, Nat.lt_of_lt_of_le hb k.size, fun i hi => ?_⟩
  obtain ⟨a', c', e, hn⟩ := hc i hi
  exact ⟨a', c', k.cellT e, hn.keep k⟩
theorem Graphs.one {w w' : World} {a : Option Addr} {n c : Nat} {gs : List (List Nd)} (h : Graphs w (.slice a n c) gs) (k : Kp w w') {i : Nat} (hi : i < gs.length) : ∃ b off a' c', a = some ⟨b, off, none⟩ ∧ b < w'.heap.size ∧ w'.cell? ⟨b, off + i, none⟩ = some (.slice a' (gs.getD i []).length c') ∧ Nodes w' (.slice a' (gs.getD i []).length c') (gs.getD i []) := by
  obtain ⟨_, a', cap, e, h2⟩ := h
  cases e
  obtain ⟨b, off, rfl, hb, hc⟩ := h2 (by omega)
  obtain ⟨a', c', e, hn⟩ := hc i hi
  exact ⟨b, off, a', c', rfl, Nat.lt_of_lt_of_le hb k.size, k.cellT e, hn.keep k⟩
theorem Graphs.nil (w : World) (a : Option Addr) (c : Nat) : Graphs w (.slice a 0 c) [] := ⟨by simp, a, c, rfl, by simp⟩

/-- the slice value v reads as the rows ls -/
structure Rows2 (w : World) (v : Value) (ls : List (List Int)) : Prop where
  room : ls.length ≤ 1000000
  val : ∃ a cap, v = .slice a ls.length cap ∧ (0 < ls.length → ∃ b off, a = some ⟨b, off, none⟩ ∧ b < w.heap.size ∧ ∀ i, i < ls.length → ∃ a' c', w.cell? ⟨b, off + i, none⟩ = some (.slice a' (ls.getD i []).length c') ∧ Ints w (.slice a' (ls.getD i []).length c') (ls.getD i []))
theorem Rows2.keep {w w' : World} {v : Value} {ls : List (List Int)} (h : Rows2 w v ls) (k : Kp w w') : Rows2 w' v ls := by
  obtain ⟨h1, a, cap, rfl, h2⟩ := h
  refine ⟨h1, a, cap, rfl, fun hp => ?_⟩
  obtain ⟨b, off, rfl, hb, hc⟩ := h2 hp
  refine ⟨b, off, rfl, Nat.lt_of_lt_of_le hb k.size, fun i hi => ?_⟩
  obtain ⟨a', c', e, hn⟩ := hc i hi
  exact ⟨a', c', k.cellT e, hn.keep k⟩
theorem Rows2.one {w w' : World} {a : Option Addr} {n c : Nat} {ls : List (List Int)} (h : Rows2 w (.slice a n c) ls) (k : Kp w w') {i : Nat} (hi : i < ls.length) : ∃ b off a' c', a = some ⟨b, off, none⟩ ∧ b < w'.heap.size ∧ w'.cell? ⟨b, off + i, none⟩ = some (.slice a' (ls.getD i []).length c') ∧ Ints w' (.slice a' (ls.getD i []).length c') (ls.getD i []) := by
  obtain ⟨_, a', cap, e, h2⟩ := h
  cases e
  obtain ⟨b, off, rfl, hb, hc⟩ := h2 (by omega)
  obtain ⟨a', c', e, hn⟩ := hc i hi
  exact ⟨b, off, a', c', rfl, Nat.lt_of_lt_of_le hb k.size, k.cellT e, hn.keep k⟩
theorem Rows2.nil (w : World) (a : Option Addr) (c : Nat) : Rows2 w (.slice a 0 c) [] := ⟨by simp, a, c, rfl, by simp⟩

end Go.Proofs.Ytefohemihiiceaa
