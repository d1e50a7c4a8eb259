
/- Chains: who is reached, how often each is used. -/
import Derived.Test.YtefohemihiiceaaRchX
import Derived.Test.YtefohemihiiceaaGa
namespace Go.Proofs.Ytefohemihiiceaa
open Go.RowKit

theorem szAllE (w : World) (o : Obj) : (w.alloc o).heap.size = w.heap.size + 1 := by simp only [World.alloc, Array.size_push]
theorem ltE {W : World} {b : Nat} {o : Obj} (h : W.heap[b]? = some o) : b < W.heap.size := by
  obtain ⟨h, _⟩ := Array.getElem?_eq_some_iff.1 h
  exact h
theorem holdE {w : World} {o o' : Obj} {B : Nat} (h : w.heap[B]? = some o') : (w.alloc o).heap[B]? = some o' := by
  have hb := ltE h
  have : (w.alloc o).heap[B]? = w.heap[B]? := by simp only [World.alloc]; rw [Array.getElem?_push, if_neg (by omega)]
  rw [this, h]
theorem hnewE (w : World) (o : Obj) (B : Nat) (h : B = w.heap.size) : (w.alloc o).heap[B]? = some o := by 
  subst h
  simp only [World.alloc, Array.getElem?_push_size]
theorem nodesE {w : World} {B n m : Nat} {ns : List Nd} (hB : B < w.heap.size) (hn : ns.length = n) (hl : n ≤ 1000000) (h : ∀ i, i < n → NdAt w B (i * 7) (ns.getD i ndnil)) : Nodes w (.slice (some ⟨B, 0, none⟩) n m) ns := by
  subst hn
  exact ⟨hl, _, m, rfl, fun _ => ⟨B, 0, rfl, hB, fun i hi => by rw [Nat.zero_add]; exact h i hi⟩⟩
theorem cellsE {W : World} {b : Nat} {xs : Array Value} {e : TypeId} (h : W.heap[b]? = some (.cells xs e)) (i : Nat) : W.cell? ⟨b, i, none⟩ = xs[i]? := by
  rw [World.cell?, h]
  rfl
/-- the rows of ints from block lo on are as they were -/
def SfE (lo : Nat) (w w' : World) : Prop := ∀ b cs, lo ≤ b → w.heap[b]? = some (.cells cs 3) → w'.heap[b]? = some (.cells cs 3)
theorem SfE.kp {lo : Nat} {w w' : World} (k : Kp w w') : SfE lo w w' := fun b cs _ h => by rw [k.block b (ltE h)]; exact h
theorem SfE.grown {lo : Nat} {w w' : World} {row : Option Nat} (g : w.grownBy w' row) (h : ∀ k, row = some k → k < lo ∨ ∃ cur t, w.heap[k]? = some (.cells cur t) ∧ t ≠ 3) : SfE lo w w' := fun b cs hb hh => by
  have hne : some b ≠ row := by
    intro e
    rcases h b e.symm with h1 | ⟨cur, t, h1, h2⟩
    · omega
    · rw [hh] at h1
      simp at h1
      exact h2 h1.2.symm
  rw [g.block b (ltE hh) (fun e => by first | exact hne e | exact hne e.symm)]
  exact hh

/-- the cells of one node, of those with no more than inputs -/
def nCE (n : Nd) (a : Option Addr) (c : Nat) : List Value := [.int .i64 n.op, .slice a n.inn.length c, .slice none 0 0, .int .i64 n.no, .slice none 0 0, .slice none 0 0, .slice none 0 0]
def InAE (w : World) (lo : Nat) (a : Option Addr) (xs : List Int) : Prop := (xs = [] ∧ a = none) ∨ (∃ b, a = some ⟨b, 0, none⟩ ∧ lo ≤ b ∧ w.heap[b]? = some (.cells (xs.map (Value.int .i64)).toArray 3) ∧ (∀ x ∈ xs, I64 x) ∧ xs.length ≤ 1000)
/-- a row of nodes, by its cells -/
def RowNE (w : World) (lo : Nat) : List Nd → List Value → Prop
  | [], xs => xs = []
  | n :: ns, xs => ∃ a c ys, xs = nCE n a c ++ ys ∧ InAE w lo a n.inn ∧ (a = none → c = 0) ∧ I64 n.op ∧ I64 n.no ∧ (n.tt = [] ∧ n.s = [] ∧ n.d = [] ∧ n.hk = []) ∧ RowNE w lo ns ys
theorem InAE.keep {w w' : World} {lo : Nat} {a : Option Addr} {xs : List Int} (h : InAE w lo a xs) (k : SfE lo w w') : InAE w' lo a xs := by
  rcases h with h | ⟨b, e, hb, hh, r⟩
  · exact .inl h
  · exact .inr ⟨b, e, hb, k b _ hb hh, r⟩
theorem InAE.ints {w : World} {lo c : Nat} {a : Option Addr} {xs : List Int} (h : InAE w lo a xs) (hc : a = none → c = 0) : Ints w (.slice a xs.length c) xs := by
  rcases h with ⟨rfl, rfl⟩ | ⟨b, rfl, hb, hh, h1, h2⟩
  · rw [hc rfl]; exact Ints.nil w
  · exact Blk.ints (e := 3) hh rfl h1 (by omega)
theorem RowNE.length {w : World} {lo : Nat} : ∀ {ns : List Nd} {xs : List Value}, RowNE w lo ns xs → xs.length = ns.length * 7
  | [], _, h => by rw [show _ = [] from h]; rfl
  | n :: ns, _, h => by
    obtain ⟨a, c, ys, rfl, _, _, _, _, _, h⟩ := h
    rw [List.length_append, h.length, List.length_cons]
    show 7 + _ = _
    omega
theorem RowNE.keep {w w' : World} {lo : Nat} (k : SfE lo w w') : ∀ {ns : List Nd} {xs : List Value}, RowNE w lo ns xs → RowNE w' lo ns xs
  | [], _, h => h
  | n :: ns, _, h => by
    obtain ⟨a, c, ys, e, h1, h2, h3, h4, h5, h6⟩ := h
    exact ⟨a, c, ys, e, h1.keep k, h2, h3, h4, h5, h6.keep k⟩
theorem RowNE.append {w : World} {lo : Nat} : ∀ {ns ms : List Nd} {xs ys : List Value}, RowNE w lo ns xs → RowNE w lo ms ys → RowNE w lo (ns ++ ms) (xs ++ ys)
  | [], ms, xs, ys, h, h' => by rw [show xs = [] from h]; exact h'
  | n :: ns, ms, _, ys, h, h' => by
    obtain ⟨a, c, zs, rfl, h1, h2, h3, h4, h5, h6⟩ := h
    exact ⟨a, c, zs ++ ys, by rw [List.append_assoc], h1, h2, h3, h4, h5, h6.append h'⟩
theorem RowNE.at {w : World} {lo : Nat} : ∀ {ns : List Nd} {xs : List Value}, RowNE w lo ns xs → ∀ i, i < ns.length → ∃ a c, (∀ j, j < 7 → xs[i * 7 + j]? = (nCE (ns.getD i ndnil) a c)[j]?) ∧ InAE w lo a (ns.getD i ndnil).inn ∧ (a = none → c = 0) ∧ I64 (ns.getD i ndnil).op ∧ I64 (ns.getD i ndnil).no ∧
    ((ns.getD i ndnil).tt = [] ∧ (ns.getD i ndnil).s = [] ∧ (ns.getD i ndnil).d = [] ∧ (ns.getD i ndnil).hk = [])
  | [], _, _, i, hi => absurd hi (by simp)
  | n :: ns, _, h, i, hi => by
    obtain ⟨a, c, ys, rfl, h1, h2, h3, h4, h5, h6⟩ := h
    cases i with
    | zero =>
      refine ⟨a, c, fun j hj => ?_, h1, h2, h3, h4, h5⟩
      rw [Nat.zero_mul, Nat.zero_add]
      exact List.getElem?_append_left hj
    | succ i =>
      obtain ⟨a', c', g, r⟩ := h6.at i (by simpa using hi)
      refine ⟨a', c', fun j hj => ?_, r⟩
      rw [show (i + 1) * 7 + j = 7 + (i * 7 + j) by omega, List.getElem?_append_right (by show 7 ≤ _; omega)]
      show ys[7 + (i * 7 + j) - 7]? = _
      rw [show 7 + (i * 7 + j) - 7 = i * 7 + j by omega]
      exact g j hj
theorem ctakeE {w : World} {b : Nat} {cur : Array Value} {t : TypeId} {m : Nat} {xs : List Value} (h : w.heap[b]? = some (.cells cur t)) (ht : cur.toList.take m = xs) {i : Nat} (hi : i < m) : w.cell? ⟨b, i, none⟩ = xs[i]? := by
  rw [cellsE h, ← ht, List.getElem?_take, if_pos hi, Array.getElem?_toList]
theorem RowNE.nodes {w : World} {lo b c : Nat} {cur : Array Value} {ns : List Nd} {xs : List Value} (h : RowNE w lo ns xs) (hh : w.heap[b]? = some (.cells cur 47)) (ht : cur.toList.take (ns.length * 7) = xs) (hr : ns.length ≤ 1000000) : Nodes w (.slice (some ⟨b, 0, none⟩) ns.length c) ns := by
  refine nodesE (ltE hh) rfl hr fun i hi => ?_
  obtain ⟨a, c, g, h1, h2, h3, h4, h5, h6, h7, h8⟩ := h.at i hi
  have cc : ∀ j, j < 7 → w.cell? ⟨b, i * 7 + j, none⟩ = (nCE (ns.getD i ndnil) a c)[j]? := fun j hj => by rw [ctakeE hh ht (by omega), g j hj]
  exact ⟨h3, h4, cc 0 (by omega), cc 3 (by omega), ⟨a, c, cc 1 (by omega), h1.ints h2⟩, ⟨none, 0, by rw [h5]; exact cc 2 (by omega), by rw [h5]; exact Ints.nil w⟩, ⟨none, 0, by rw [h6]; exact cc 4 (by omega), by rw [h6]; exact Ints.nil w⟩,
    ⟨none, 0, by rw [h7]; exact cc 5 (by omega), by rw [h7]; exact Flts.nil w⟩, ⟨none, 0, by rw [h8]; exact cc 6 (by omega), by rw [h8]; exact Hooks.nil w none 0⟩⟩


/-- node i of a chain in which each uses the one ahead once or twice -/
def chO (tw : Nat → Bool) (i : Nat) : Nd := if i = 0 then ndI 1 [] else if tw i = true then ndI 4 [((i - 1 : Nat) : Int), ((i - 1 : Nat) : Int)] else ndI 8 [((i - 1 : Nat) : Int)]
def chW (tw : Nat → Bool) (k : Nat) : List Nd := (List.range k).map (chO tw)
theorem chW_length (tw : Nat → Bool) (k : Nat) : (chW tw k).length = k := by simp [chW]
theorem chW_succ (tw : Nat → Bool) (k : Nat) : chW tw (k + 1) = chW tw k ++ [chO tw k] := by simp [chW, List.range_succ]
theorem chW_inn {tw : Nat → Bool} {k i : Nat} (h : i < k) : innF (chW tw k) i = (chO tw i).inn := by
  unfold innF chW
  simp [List.getD, h]
theorem chO_zero (tw : Nat → Bool) : (chO tw 0).inn = [] := rfl
theorem chO_two {tw : Nat → Bool} {i : Nat} (h : tw (i + 1) = true) : (chO tw (i + 1)) = ndI 4 [(i : Int), (i : Int)] := by unfold chO; rw [if_neg (by omega), if_pos h]; rfl
theorem chO_one {tw : Nat → Bool} {i : Nat} (h : tw (i + 1) = false) : (chO tw (i + 1)) = ndI 8 [(i : Int)] := by unfold chO; rw [if_neg (by omega), if_neg (by rw [h]; decide)]; rfl
theorem chO_inn (tw : Nat → Bool) (i : Nat) : (chO tw (i + 1)).inn = [(i : Int), (i : Int)] ∨ (chO tw (i + 1)).inn = [(i : Int)] := by
  cases h : tw (i + 1)
  · rw [chO_one h]; exact .inr rfl
  · rw [chO_two h]; exact .inl rfl
theorem chW_sound (tw : Nat → Bool) (k : Nat) : SoundF k (innF (chW tw k)) := fun i hi x hx => by
  rw [chW_inn hi] at hx
  cases i with
  | zero => rw [chO_zero] at hx; cases hx
  | succ i =>
    rcases chO_inn tw i with h | h <;> rw [h] at hx <;> simp at hx <;> omega
theorem chO_count (tw : Nat → Bool) (i j : Nat) : (chO tw i).inn.count (j : Int) = if i = j + 1 then (chO tw i).inn.length else 0 := by
  cases i with
  | zero => rw [chO_zero, if_neg (by omega)]; rfl
  | succ i =>
    by_cases e : i = j
    · subst e
      rw [if_pos rfl]
      rcases chO_inn tw i with h | h <;> rw [h] <;> simp
    · rw [if_neg (by omega)]
      have e2 : ¬ (i : Int) = (j : Int) := by omega
      rcases chO_inn tw i with h | h <;> rw [h] <;> simp [e2]
theorem chW_from {tw : Nat → Bool} {k r : Nat} (hr : r < k) {j : Nat} (hj : j < k) : (fromL (innF (chW tw k)) k r).getD j false = decide (j ≤ r) := by
  by_cases h : j ≤ r
  · rw [decide_eq_true h]
    have hd : ∀ d, d ≤ r → (fromL (innF (chW tw k)) k r).getD (r - d) false = true := by
      intro d
      induction d with
      | zero => intro _; exact fromL_root (chW_sound tw k) hr
      | succ d ih =>
        intro hd
        refine (fromL_iff (chW_sound tw k) (by omega)).2 (.inr ⟨r - d, by omega, ih (by omega), ?_⟩)
        rw [chW_inn (by omega)]
        obtain ⟨i, hi⟩ : ∃ i, r - d = i + 1 := ⟨r - d - 1, by omega⟩
        have e : r - (d + 1) = i := by omega
        rw [hi, e]
        rcases chO_inn tw i with h | h <;> rw [h] <;> simp
    have := hd (r - j) (by omega)
    rwa [show r - (r - j) = j by omega] at this
  · rw [decide_eq_false h]
    exact fromL_above (chW_sound tw k) j hj (by omega)
theorem chW_users {tw : Nat → Bool} {k r : Nat} (hr : r < k) {j : Nat} (hj : j < k) : (usersL (innF (chW tw k)) k r j).length = if j < r then (chO tw (j + 1)).inn.length else 0 := by
  have key : ∀ m, m ≤ k → (uM (innF (chW tw k)) (fun i => (fromL (innF (chW tw k)) k r).getD i false) k m j).length = if m ≤ j + 1 ∧ j + 1 ≤ r then (chO tw (j + 1)).inn.length else 0 := by
    refine down_ind ?_ fun m hm ih => ?_
    · rw [uM_top, if_neg (by omega)]; rfl
    · rw [uM_step _ _ j hm, List.length_append, ih]
      have e1 : (if (fromL (innF (chW tw k)) k r).getD m false = true then slotsU (innF (chW tw k)) j m (innF (chW tw k) m).length else []).length = if m ≤ r then (if m = j + 1 then (chO tw m).inn.length else 0) else 0 := by
        rw [chW_from hr hm]
        by_cases h : m ≤ r
        · rw [if_pos (decide_eq_true h), slotsU_len, if_pos h, chW_inn hm, chO_count]
        · rw [if_neg (by rw [decide_eq_false h]; decide), if_neg h]; rfl
      rw [e1]
      by_cases e : m = j + 1
      · subst e
        rw [if_neg (by omega), Nat.zero_add, if_pos rfl]
        by_cases h : j + 1 ≤ r
        · rw [if_pos h, if_pos ⟨Nat.le_refl _, h⟩]
        · rw [if_neg h, if_neg (fun x => h x.2)]
      · rw [if_neg e, ite_self, Nat.add_zero]
        by_cases h : m ≤ j + 1 ∧ j + 1 ≤ r
        · rw [if_pos h, if_pos ⟨by omega, h.2⟩]
        · rw [if_neg h, if_neg (fun x => h ⟨by omega, x.2⟩)]
  have h := key 0 (Nat.zero_le _)
  unfold usersL
  rw [h]
  by_cases hj : j < r
  · rw [if_pos ⟨Nat.zero_le _, hj⟩, if_pos hj]
  · rw [if_neg (fun x => hj x.2), if_neg hj]

/-- a slice of bools that came in -/
def InRowB (w : World) (a : Option Addr) (len cap : Nat) (zs : List Bool) : Prop :=
  (a = none ∧ len = 0 ∧ cap = 0 ∧ zs = []) ∨
  ∃ x, a = some x ∧ len ≤ cap ∧ cap ≤ maxLen ∧ zs.length = cap ∧ (∀ i, i < zs.length → w.cell? (x.add i) = some (.bool (zs.getD i false)))
theorem listB_of (m : Nat) (B : Nat → Bool) : ∃ zs : List Bool, zs.length = m ∧ ∀ i, i < m → zs.getD i false = B i :=
  ⟨(List.range m).map B, by simp, fun i hi => by simp [hi]⟩
theorem InRowB.max {w : World} {a : Option Addr} {len cap : Nat} {zs : List Bool} (h : InRowB w a len cap zs) : len ≤ 9223372036854775807 := by
  rcases h with ⟨_, rfl, _, _⟩ | ⟨x, _, h1, h2, _⟩
  · omega
  · unfold maxLen at h2; omega
theorem InRowB.keep {w w' : World} {a : Option Addr} {len cap : Nat} {zs : List Bool} (h : InRowB w a len cap zs) (k : Kp w w') : InRowB w' a len cap zs := by
  rcases h with h | ⟨x, h1, h2, h3, h4, h5⟩
  · exact .inl h
  · exact .inr ⟨x, h1, h2, h3, h4, fun i hi => k.cellT (h5 i hi)⟩
theorem InRowB.at {w : World} {a : Option Addr} {len cap : Nat} {zs : List Bool} (h : InRowB w a len cap zs) (hp : 0 < len) : ∃ b off, a = some ⟨b, off, none⟩ ∧ ∀ i, i < len → w.cell? ⟨b, off + i, none⟩ = some (.bool (zs.getD i false)) := by
  rcases h with ⟨_, h0, _, _⟩ | ⟨x, rfl, h2, h3, h4, h5⟩
  · omega
  · obtain ⟨b, off, rfl, _, hc⟩ := cells_at h5 (by omega)
    exact ⟨b, off, rfl, fun i hi => hc i (by omega)⟩
theorem open_bools {H : Type} {enc : TypeId × Value → H} {P : Program} {w : World} {base : Nat} {spare : Nat → Bool} {held : Bool} {t e : TypeId} {fuel : Nat} {cs : List Value} {x : DataW H × List MemPlace}
    (ht : P.underlying t = some (.slice e)) (he : P.underlying e = some .bool) (hc : P.cellsOf e = 1) (hsp : ∀ b, spare b = true)
    (h : DataW.trod enc P w base spare held fuel t cs = some x) :
    ∃ (a : Option Addr) (len cap : Nat) (zs : List Bool), cs = [.slice a len cap] ∧ InRowB w a len cap zs := by
  rcases Go.Deep.open_slice1 ht hc h with ⟨h0, _⟩ | ⟨a, len, cap, m, n, V, D, Pl, rfl, hb, hl, hm, hmm, _, hx⟩
  · exact ⟨none, 0, 0, [], h0, .inl ⟨rfl, rfl, rfl, rfl⟩⟩
  · rw [hsp, if_pos rfl] at hmm
    subst hmm
    have hv : ∀ i, i < m → ∃ b, V i = .bool b := by
      intro i hi
      have h2 := (hx i hi).2
      cases n with
      | zero => simp [DataW.trod] at h2
      | succ n =>
        cases hV : V i <;> simp [DataW.trod, he, hV] at h2
        case bool b => exact ⟨b, rfl⟩
    obtain ⟨zs, hz, hzi⟩ := listB_of m (fun i => if hi : i < m then Classical.choose (hv i hi) else false)
    have hzi' : ∀ i, i < m → V i = .bool (zs.getD i false) := by
      intro i hi
      rw [hzi i hi, dif_pos hi]
      exact Classical.choose_spec (hv i hi)
    refine ⟨some a, len, m, zs, rfl, .inr ⟨a, rfl, by omega, by omega, hz, fun i hi => ?_⟩⟩
    rw [(hx i (by omega)).1, hzi' i (by omega)]

end Go.Proofs.Ytefohemihiiceaa
