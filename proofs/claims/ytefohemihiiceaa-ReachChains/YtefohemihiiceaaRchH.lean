
/- The law ReachChains: a chain that is being built. -/
import Derived.Test.YtefohemihiiceaaRchE
import Derived.Test.YtefohemihiiceaaRchW
namespace Go.Proofs.Ytefohemihiiceaa
open Go.RowKit Go.Shelf

theorem chO_ok (tw : Nat → Bool) (i : Nat) : I64 (chO tw i).op ∧ I64 (chO tw i).no ∧ (chO tw i).tt = [] ∧ (chO tw i).s = [] ∧ (chO tw i).d = [] ∧ (chO tw i).hk = [] := by
  have key : ∀ (op : Int) (xs : List Int), I64 op → I64 (ndI op xs).op ∧ I64 (ndI op xs).no ∧ (ndI op xs).tt = [] ∧ (ndI op xs).s = [] ∧ (ndI op xs).d = [] ∧ (ndI op xs).hk = [] := fun op xs h => ⟨h, ⟨(by decide : (-9223372036854775808 : Int) ≤ 0), (by decide : (0 : Int) ≤ 9223372036854775807)⟩, rfl, rfl, rfl, rfl⟩
  unfold chO
  split
  · exact key _ _ ⟨by decide, by decide⟩
  · split
    · exact key _ _ ⟨by decide, by decide⟩
    · exact key _ _ ⟨by decide, by decide⟩

/-- what lies where while the chain is being built: q nodes so far -/
structure Chn (w1 wr : World) (B0 q : Nat) (tw : Nat → Bool) (v : Value) : Prop where
  kp : Kp w1 wr
  lo : w1.heap.size ≤ B0
  box : wr.heap[B0 + 1]? = some (.cells #[v] 24)
  row : ∃ xs, wr.ownsRow B0 47 7 v q xs ∧ RowNE wr B0 (chW tw q) xs
  sz : B0 + 2 ≤ wr.heap.size
theorem chn_start (w1 : World) (tw : Nat → Bool) : Chn w1 ((w1.alloc (Obj.cells #[.int .i64 1, .slice none 0 0, .slice none 0 0, .int .i64 0, .slice none 0 0, .slice none 0 0, .slice none 0 0] 47)).alloc (Obj.cells #[.slice (some ⟨w1.heap.size, 0, none⟩) 1 1] 24)) w1.heap.size 1 tw (.slice (some ⟨w1.heap.size, 0, none⟩) 1 1) := by
  have h0 := holdE (o := (Obj.cells #[.slice (some ⟨w1.heap.size, 0, none⟩) 1 1] 24)) (hnewE w1 (Obj.cells #[.int .i64 1, .slice none 0 0, .slice none 0 0, .int .i64 0, .slice none 0 0, .slice none 0 0, .slice none 0 0] 47) _ rfl)
  have h1 := hnewE (w1.alloc (Obj.cells #[.int .i64 1, .slice none 0 0, .slice none 0 0, .int .i64 0, .slice none 0 0, .slice none 0 0, .slice none 0 0] 47)) (Obj.cells #[.slice (some ⟨w1.heap.size, 0, none⟩) 1 1] 24) (w1.heap.size + 1) (by simp only [szAllE])
  refine ⟨(Kp.alloc _ _).trans (Kp.alloc _ _), Nat.le_refl _, h1, ⟨nCE (ndI 1 []) none 0, ⟨rfl, .inr ⟨w1.heap.size, 1, _, rfl, Nat.le_refl _, h0, Nat.le_refl _, by decide, rfl, rfl⟩⟩, ?_⟩, by simp only [szAllE]; omega⟩
  exact ⟨none, 0, [], rfl, .inl ⟨rfl, rfl⟩, fun _ => rfl, (chO_ok tw 0).1, (chO_ok tw 0).2.1, (chO_ok tw 0).2.2, rfl⟩
theorem chn_more {w1 wr wA w8 : World} {B0 q b c : Nat} {tw : Nat → Bool} {v v' : Value} {xs : List Value} (h : Chn w1 wr B0 q tw v) (hq : 0 < q) (hq2 : q ≤ 1000) (hx : wr.ownsRow B0 47 7 v q xs) (hn : RowNE wr B0 (chW tw q) xs) (kA : Kp wr wA) (hb : wr.heap.size ≤ b)
    (hbl : wA.heap[b]? = some (.cells ((chO tw q).inn.map (Value.int .i64)).toArray 3)) (ho : w8.ownsRow B0 47 7 v' (q + 1) (xs ++ nCE (chO tw q) (some ⟨b, 0, none⟩) c)) (hg : wA.grownBy w8 v.ownBlock) :
    Chn w1 (w8.setCell ⟨B0 + 1, 0, none⟩ v') B0 (q + 1) tw v' := by
  obtain ⟨g, hgB, hgo, cur0, hgh⟩ : ∃ g, B0 ≤ g ∧ v.ownBlock = some g ∧ ∃ cur, wr.heap[g]? = some (.cells cur 47) := by
    obtain ⟨_, ⟨_, e⟩ | ⟨g, cap, cur, rfl, h1, h2, _⟩⟩ := hx
    · omega
    · exact ⟨g, h1, rfl, cur, h2⟩
  rw [hgo] at hg
  have hlo := h.lo
  have hgA : wA.heap[g]? = some (.cells cur0 47) := by rw [kA.block g (ltE hgh)]; exact hgh
  have hbxA : wA.heap[B0 + 1]? = some (.cells #[v] 24) := by rw [kA.block _ (ltE h.box)]; exact h.box
  have hne1 : ¬ B0 + 1 = g := by
    intro e
    rw [e, hgA] at hbxA
    simp at hbxA
  have keep : ∀ {b : Nat} {o : Obj}, wA.heap[b]? = some o → b ≠ g → b ≠ B0 + 1 → (w8.setCell ⟨B0 + 1, 0, none⟩ v').heap[b]? = some o := fun {b o} hb h1 h2 => by
    rw [Below.heap_setCell w8 ⟨B0 + 1, 0, none⟩ v' b h2, hg.block b (ltE hb) (fun e => by cases e; exact h1 rfl)]
    exact hb
  have hbw : w8.heap[B0 + 1]? = some (.cells #[v] 24) := by
    rw [hg.block _ (ltE hbxA) (fun e => by cases e; exact hne1 rfl)]
    exact hbxA
  have hsz := h.sz
  refine ⟨Kp.set (Kp.of_grown (h.kp.trans kA) hg (fun k e => by cases e; omega)) (by omega) v', hlo, Boxed.set v' hbw, ⟨xs ++ nCE (chO tw q) (some ⟨b, 0, none⟩) c, ?_, ?_⟩, ?_⟩
  · refine ownsRow_setCell_other ho ?_ v'
    obtain ⟨_, ⟨_, e⟩ | ⟨g2, cap, cur, rfl, h1, h2, _⟩⟩ := ho
    · omega
    · intro e
      have e2 : g2 = B0 + 1 := by simpa [Value.ownBlock] using e
      rw [e2, hbw] at h2
      simp at h2
  · rw [chW_succ]
    refine RowNE.append (hn.keep fun b' cs hb' hh => ?_) ?_
    · refine keep (by rw [kA.block b' (ltE hh)]; exact hh) ?_ ?_
      · intro e
        rw [e, hgh] at hh
        simp at hh
      · intro e
        rw [e, h.box] at hh
        simp at hh
    · refine ⟨some ⟨b, 0, none⟩, c, [], (List.append_nil _).symm, .inr ⟨b, rfl, by omega, keep hbl (fun e => ?_) (by omega), ?_, ?_⟩, (fun e => by cases e), (chO_ok tw q).1, (chO_ok tw q).2.1, (chO_ok tw q).2.2, rfl⟩
      · have := ltE hgh
        omega
      · intro x hx
        have := chW_sound tw (q + 1) q (by omega) x (by rw [chW_inn (by omega)]; exact hx)
        unfold I64
        omega
      · obtain ⟨i, rfl⟩ : ∃ i, q = i + 1 := ⟨q - 1, by omega⟩
        rcases chO_inn tw i with h | h <;> rw [h] <;> simp
  · have h1 := hg.size
    have h2 := kA.size
    have h3 : (w8.setCell ⟨B0 + 1, 0, none⟩ v').heap.size = w8.heap.size := by simp
    omega
theorem Chn.nodes {w1 wr : World} {B0 q : Nat} {tw : Nat → Bool} {v : Value} (h : Chn w1 wr B0 q tw v) (hq : 0 < q) (hq2 : q ≤ 1000) : ∃ g cap, v = .slice (some ⟨g, 0, none⟩) q cap ∧ Nodes wr (.slice (some ⟨g, 0, none⟩) q cap) (chW tw q) := by
  obtain ⟨xs, hx, hn⟩ := h.row
  obtain ⟨_, ⟨_, e⟩ | ⟨g, cap, cur, rfl, h1, h2, _, _, _, h4⟩⟩ := hx
  · omega
  · refine ⟨g, cap, rfl, ?_⟩
    have hh : cur.toList.take ((chW tw q).length * 7) = xs := by rw [chW_length]; exact h4
    have := hn.nodes (c := cap) h2 hh (by rw [chW_length]; omega)
    rwa [chW_length] at this

theorem chn_box {w1 wr wA w8 : World} {B0 q : Nat} {tw : Nat → Bool} {v : Value} {xs : List Value} (h : Chn w1 wr B0 q tw v) (hq : 0 < q) (hx : wr.ownsRow B0 47 7 v q xs) (kA : Kp wr wA) (hg : wA.grownBy w8 v.ownBlock) : Boxed w8 (B0 + 1) 24 v := by
  have hbxA : wA.heap[B0 + 1]? = some (.cells #[v] 24) := by rw [kA.block _ (ltE h.box)]; exact h.box
  obtain ⟨_, ⟨_, e⟩ | ⟨g, cap, cur, rfl, h1, h2, _⟩⟩ := hx
  · omega
  · have hgA : wA.heap[g]? = some (.cells cur 47) := by rw [kA.block g (ltE h2)]; exact h2
    have hne1 : ¬ B0 + 1 = g := by
      intro e
      rw [e, hgA] at hbxA
      simp at hbxA
    show w8.heap[B0 + 1]? = _
    rw [hg.block _ (ltE hbxA) (fun e => by cases e; exact hne1 rfl)]
    exact hbxA
theorem owns_kpE {w w' : World} {base e size n : Nat} {v : Value} {xs : List Value} (h : w.ownsRow base e size v n xs) (k : Kp w w') : w'.ownsRow base e size v n xs := by
  obtain ⟨h0, h | ⟨g, cap, cur, e1, hg, hh, r⟩⟩ := h
  · exact ⟨h0, .inl h⟩
  · exact ⟨h0, .inr ⟨g, cap, cur, e1, hg, by rw [k.block g (ltE hh)]; exact hh, r⟩⟩
theorem owns_formE {w : World} {base e size n : Nat} {v : Value} {xs : List Value} (h : w.ownsRow base e size v n xs) : ∃ a k, v = .slice a n k := by
  obtain ⟨_, ⟨h1, h2⟩ | ⟨g, cap, cur, e1, _⟩⟩ := h
  · exact ⟨none, 0, by rw [h1, h2]⟩
  · exact ⟨_, _, e1⟩
theorem cells_newE (w : World) (cs : List Value) (e : TypeId) (b j : Nat) (u : Value) (hb : b = w.heap.size) (h : cs[j]? = some u) : (w.alloc (.cells cs.toArray e)).cell? ((⟨b, 0, none⟩ : Addr).add j) = some u := by
  subst hb
  rw [Addr.add_lit, Nat.zero_add, cellsE (hnewE w (.cells cs.toArray e) _ rfl)]
  simpa using h
theorem nCE_one (n : Nd) (a : Option Addr) (c : Nat) : ∀ u ∈ nCE n a c, u.oneCell' = true := by
  intro u hu
  simp only [nCE, List.mem_cons, List.not_mem_nil, or_false] at hu
  rcases hu with rfl | rfl | rfl | rfl | rfl | rfl | rfl <;> rfl
theorem infoNE : (Try.prog.info? 47).map (fun i => (i.zero, i.size, i.bytes)) = some (some (.agg #[.int .i64 0, .slice none 0 0, .slice none 0 0, .int .i64 0, .slice none 0 0, .slice none 0 0, .slice none 0 0]), 7, 136) := by kernel_rfl

theorem chO_le (tw : Nat → Bool) (i : Nat) : (chO tw i).inn.length ≤ 2 := by
  cases i with
  | zero => rw [chO_zero]; simp
  | succ i => rcases chO_inn tw i with h | h <;> rw [h] <;> simp
theorem chn_P {tw : Nat → Bool} {km t : Nat} (ht : t < km + 1) : FromP (chW tw (km + 1)) (t : Int) := by
  have hl := chW_length tw (km + 1)
  refine ⟨?_, by omega, by rw [hl]; omega⟩
  unfold SoundN
  rw [hl]
  exact chW_sound tw _
theorem chn_from {w : World} {g cap km t : Nat} {tw : Nat → Bool} (h : Nodes w (.slice (some ⟨g, 0, none⟩) (km + 1) cap) (chW tw (km + 1))) (ht : t < km + 1) (hk : km < 100) :
    Calls Try.prog 10 #[.agg #[.slice (some ⟨g, 0, none⟩) (km + 1) cap], .int .i64 (t : Int)] w fun e w' => ∃ B, e = .returned (.slice (some ⟨B, 0, none⟩) (km + 1) (km + 1)) ∧ Hid (BlkB w' B (fromL (innF (chW tw (km + 1))) (km + 1) t)) ∧ Hid (Kp w w') := by
  have hl := chW_length tw (km + 1)
  have c := from_any (some ⟨g, 0, none⟩) cap (chW tw (km + 1)) (t : Int) w (by rw [hl]; exact h) ⟨by omega, by omega⟩
  rw [hl] at c
  refine c.mono ?_
  rintro e w' ⟨hf, k⟩
  have h2 := retF_known hf (chn_P ht)
  rw [hl] at h2
  obtain ⟨B, rfl, hB⟩ := h2
  exact ⟨B, rfl, hB, k⟩
theorem chn_counts {w : World} {g cap km t : Nat} {tw : Nat → Bool} (h : Nodes w (.slice (some ⟨g, 0, none⟩) (km + 1) cap) (chW tw (km + 1))) (ht : t < km + 1) (hk : km < 100) :
    Calls Try.prog 12 #[.agg #[.slice (some ⟨g, 0, none⟩) (km + 1) cap], .int .i64 (t : Int)] w fun e w' => ∃ D xs, e = .returned (.slice (some ⟨D, 0, none⟩) (km + 1) (km + 1)) ∧ Hid (Blk w' 3 D xs) ∧ Hid (xs.length = km + 1 ∧ ∀ j, j < km + 1 → xs.getD j 0 = ((usersL (innF (chW tw (km + 1))) (km + 1) t j).length : Int)) ∧ Hid (Kp w w') := by
  have hl := chW_length tw (km + 1)
  have htot : totM (innF (chW tw (km + 1))) (km + 1) 0 ≤ (km + 1 - 0) * 2 := totM_bound (n := km + 1) (fun i hi => by rw [chW_inn hi]; exact chO_le tw i) 0 (Nat.zero_le _)
  have c := counts_any (some ⟨g, 0, none⟩) cap (chW tw (km + 1)) (t : Int) w (by rw [hl]; exact h) ⟨by omega, by omega⟩ (by rw [hl]; omega)
  rw [hl] at c
  refine c.mono ?_
  rintro e w' ⟨hf, k⟩
  have h2 := retC_known hf (chn_P ht)
  rw [hl] at h2
  obtain ⟨D, xs, rfl, hB, h3, h4⟩ := h2
  exact ⟨D, xs, rfl, hB, ⟨h3, h4⟩, k⟩

end Go.Proofs.Ytefohemihiiceaa
