
/- SchedBorn: the closure that makes tasks of itself. -/
import Derived.Test.YtenbmfhhmbfgoaaSchS
import Derived.Test.YtenbmfhhmbfgoaaOpnU
namespace Go.Proofs.Ytenbmfhhmbfgoaa
open Go.RowKit

theorem wf_u8 {a : Int} (h : (Lit.int .u8 a).wf = true) : 0 ≤ a ∧ a < 256 := by
  have := bounds_u8 h
  omega
theorem getD_range (n : Nat) (z : Nat → Int) {i : Nat} (hi : i < n) : ((List.range n).map z).getD i 0 = z i := by
  rw [List.getD_eq_getElem?_getD, List.getElem?_map, List.getElem?_range hi]
  rfl
theorem bysN_of_col {w : World} {a : Option Addr} {n cap : Nat} {z : Nat → Int} (h : InCol .u8 w a n z) (hn : n ≤ 4611686018427387904) : BysN w (.slice a n cap) ((List.range n).map z) := by
  have hl : ((List.range n).map z).length = n := by simp
  refine ⟨fun x hx => ?_, by omega, a, cap, by rw [hl], fun h0 => ?_⟩
  · obtain ⟨i, hi, rfl⟩ := List.mem_map.1 hx
    have hi2 := List.mem_range.1 hi
    obtain ⟨b, off, _, _, hc⟩ := h.2 (by omega)
    exact wf_u8 (hc i hi2).2
  · obtain ⟨b, off, rfl, hb, hc⟩ := h.2 (by omega)
    exact ⟨b, off, rfl, hb, fun i hi => by rw [getD_range n z (by omega)]; exact (hc i (by omega)).1⟩
theorem bys_of_col {w : World} {a : Option Addr} {n cap : Nat} {z : Nat → Int} (h : InCol .u8 w a n z) (hn : n ≤ 1000000) : Bys w (.slice a n cap) ((List.range n).map z) := by
  obtain ⟨h1, h2, h3⟩ := bysN_of_col (cap := cap) h (by omega)
  exact ⟨h1, by simp; omega, h3⟩

theorem boxed_ne {w : World} {B C : Nat} {t u : TypeId} {v x : Value} (h : Boxed w B t v) (k : Boxed w C u x) (hne : t ≠ u) : B ≠ C := by
  rintro rfl
  have := (show w.heap[B]? = _ from h).symm.trans k
  simp at this
  exact hne this.2

section
variable (s Nx Bv Md Sv St Dn : Nat)
def fB : Value := .func (.func 28) #[] #[.pointer (some ⟨Nx, 0, none⟩), .pointer (some ⟨Bv, 0, none⟩), .pointer (some ⟨Md, 0, none⟩), .pointer (some ⟨Sv, 0, none⟩), .pointer (some ⟨St, 0, none⟩), .pointer (some ⟨Dn, 0, none⟩)]
structure BC where
  next : Nat
  made : Nat
  dn : Nat
def XB : Nat → Prop := fun k => k = Nx ∨ k = Bv ∨ k = Md ∨ k = Sv ∨ k = St ∨ k = Dn
structure MB (bv : Value) (c : BC) (w : World) : Prop where
  nx : Boxed w Nx 3 (.int .i64 (c.next : Int))
  bv : Boxed w Bv 23 bv
  md : Boxed w Md 3 (.int .i64 (c.made : Int))
  sv : Boxed w Sv 27 (.pointer (some ⟨s, 0, none⟩))
  st : Boxed w St 42 (fB Nx Bv Md Sv St Dn)
  dn : Boxed w Dn 3 (.int .i64 (c.dn : Int))
  n1 : Nx ≠ Md
  n2 : Nx ≠ Dn
  n3 : Md ≠ Dn
end
theorem MB.of {s Nx Bv Md Sv St Dn : Nat} {bv : Value} {c : BC} {w w' : World} (h : MB s Nx Bv Md Sv St Dn bv c w) (hb : ∀ k, XB Nx Bv Md Sv St Dn k → w'.heap[k]? = w.heap[k]?) : MB s Nx Bv Md Sv St Dn bv c w' :=
  ⟨boxed_of h.nx (hb _ (.inl rfl)), boxed_of h.bv (hb _ (.inr (.inl rfl))), boxed_of h.md (hb _ (.inr (.inr (.inl rfl)))), boxed_of h.sv (hb _ (.inr (.inr (.inr (.inl rfl))))), boxed_of h.st (hb _ (.inr (.inr (.inr (.inr (.inl rfl)))))), boxed_of h.dn (hb _ (.inr (.inr (.inr (.inr (.inr rfl)))))), h.n1, h.n2, h.n3⟩
theorem MB.setN {s Nx Bv Md Sv St Dn : Nat} {bv : Value} {c : BC} {w : World} (h : MB s Nx Bv Md Sv St Dn bv c w) (n : Nat) : MB s Nx Bv Md Sv St Dn bv { c with next := n } (w.setCell ⟨Nx, 0, none⟩ (.int .i64 (n : Int))) := by
  have k := grown_cell w Nx 0 (.int .i64 (n : Int))
  have z : ∀ {B : Nat} {t : TypeId} {v : Value}, Boxed w B t v → B ≠ Nx → Boxed (w.setCell ⟨Nx, 0, none⟩ (.int .i64 (n : Int))) B t v := fun hB hne => boxed_of hB (k.block _ hB.lt (by intro e; cases e; exact hne rfl))
  exact ⟨h.nx.set _, z h.bv (boxed_ne h.bv h.nx (by decide)), z h.md h.n1.symm, z h.sv (boxed_ne h.sv h.nx (by decide)), z h.st (boxed_ne h.st h.nx (by decide)), z h.dn h.n2.symm, h.n1, h.n2, h.n3⟩
theorem MB.setM {s Nx Bv Md Sv St Dn : Nat} {bv : Value} {c : BC} {w : World} (h : MB s Nx Bv Md Sv St Dn bv c w) (n : Nat) : MB s Nx Bv Md Sv St Dn bv { c with made := n } (w.setCell ⟨Md, 0, none⟩ (.int .i64 (n : Int))) := by
  have k := grown_cell w Md 0 (.int .i64 (n : Int))
  have z : ∀ {B : Nat} {t : TypeId} {v : Value}, Boxed w B t v → B ≠ Md → Boxed (w.setCell ⟨Md, 0, none⟩ (.int .i64 (n : Int))) B t v := fun hB hne => boxed_of hB (k.block _ hB.lt (by intro e; cases e; exact hne rfl))
  exact ⟨z h.nx h.n1, z h.bv (boxed_ne h.bv h.md (by decide)), h.md.set _, z h.sv (boxed_ne h.sv h.md (by decide)), z h.st (boxed_ne h.st h.md (by decide)), z h.dn h.n3.symm, h.n1, h.n2, h.n3⟩
theorem MB.setD {s Nx Bv Md Sv St Dn : Nat} {bv : Value} {c : BC} {w : World} (h : MB s Nx Bv Md Sv St Dn bv c w) (n : Nat) : MB s Nx Bv Md Sv St Dn bv { c with dn := n } (w.setCell ⟨Dn, 0, none⟩ (.int .i64 (n : Int))) := by
  have k := grown_cell w Dn 0 (.int .i64 (n : Int))
  have z : ∀ {B : Nat} {t : TypeId} {v : Value}, Boxed w B t v → B ≠ Dn → Boxed (w.setCell ⟨Dn, 0, none⟩ (.int .i64 (n : Int))) B t v := fun hB hne => boxed_of hB (k.block _ hB.lt (by intro e; cases e; exact hne rfl))
  exact ⟨z h.nx h.n2, z h.bv (boxed_ne h.bv h.dn (by decide)), z h.md h.n3, z h.sv (boxed_ne h.sv h.dn (by decide)), z h.st (boxed_ne h.st h.dn (by decide)), h.dn.set _, h.n1, h.n2, h.n3⟩

/-- n tasks more -/
def goN (f : Value) : Nat → SS → SS
  | 0, A => A
  | n + 1, A => goS (goN f n A) f
theorem goN_len (f : Value) (A : SS) : ∀ n, (goN f n A).ts.length = A.ts.length + n
  | 0 => rfl
  | n + 1 => by
    have := goN_len f A n
    show ((goN f n A).ts ++ [_]).length = _
    simp [this]
    omega
theorem goN_ab (f : Value) (A : SS) : ∀ n, (goN f n A).ab.length = A.ab.length + n
  | 0 => rfl
  | n + 1 => by
    have := goN_ab f A n
    show (insL _ (goN f n A).ab).length = _
    rw [insL_length, this]
    omega
theorem goN_same (f : Value) (A : SS) : ∀ n, (goN f n A).wt = A.wt ∧ (goN f n A).k = A.k ∧ (goN f n A).st = A.st ∧ (goN f n A).now = A.now
  | 0 => ⟨rfl, rfl, rfl, rfl⟩
  | n + 1 => goN_same f A n
theorem goN_in (f : Value) (A : SS) {x : Int} (h : x ∈ A.ab) : ∀ n, x ∈ (goN f n A).ab
  | 0 => h
  | n + 1 => insL_mem.2 (.inr (goN_in f A h n))
theorem goN_fn (f : Value) (A : SS) (P : Value → Prop) (hf : P (wrapF f)) (h : ∀ i : Nat, (i : Int) ∈ A.ab → P (A.ts.getD i tk0).1) (hb : ∀ x ∈ A.ab, 0 ≤ x ∧ x < A.ts.length) : ∀ n, (∀ i : Nat, (i : Int) ∈ (goN f n A).ab → P ((goN f n A).ts.getD i tk0).1) ∧ ∀ x ∈ (goN f n A).ab, 0 ≤ x ∧ x < (goN f n A).ts.length
  | 0 => ⟨h, hb⟩
  | n + 1 => by
    obtain ⟨h1, h2⟩ := goN_fn f A P hf h hb n
    have hl : ((goN f n A).ts ++ [(wrapF f, false)]).length = (goN f n A).ts.length + 1 := by simp
    refine ⟨fun i hi => ?_, fun x hx => ?_⟩
    · show P (((goN f n A).ts ++ [(wrapF f, false)]).getD i tk0).1
      rcases insL_mem.1 hi with e | e
      · have e' : i = (goN f n A).ts.length := by omega
        rw [getD_snoc (by omega), if_pos e']
        exact hf
      · have := h2 _ e
        rw [getD_snoc (by omega), if_neg (by omega)]
        exact h1 i e
    · show 0 ≤ x ∧ x < (((goN f n A).ts ++ [(wrapF f, false)]).length : Int)
      rw [hl]
      rcases insL_mem.1 hx with e | e
      · omega
      · have := h2 x e
        omega
theorem goN_ok {ps : List Int} (f : Value) {A : SS} (h : SOk ps A) : ∀ n, A.ts.length + n ≤ 128 → SOk ps (goN f n A)
  | 0, _ => h
  | n + 1, hn => (goN_ok f h n (by omega)).go f (by rw [goN_len]; omega)

/-- how many a step makes -/
def bn (bs : List Int) (i : Nat) : Nat := (bs.getD i 0).toNat % 4
def stepB (f : Value) (bs : List Int) (c : BC) (A : SS) (_ : Nat) : Int × BC × SS :=
  if c.next < bs.length then (1, ⟨c.next + 1, c.made + bn bs c.next, c.dn⟩, goN f (bn bs c.next) A) else (3, ⟨c.next, c.made, c.dn + 1⟩, A)
def IB (s Nx Bv Md Sv St Dn : Nat) (bv : Value) (bs : List Int) (c : BC) (A : SS) (w : World) : Prop :=
  MB s Nx Bv Md Sv St Dn bv c w ∧ A.wt = [] ∧ (∀ i : Nat, (i : Int) ∈ A.ab → (A.ts.getD i tk0).1 = wrapF (fB Nx Bv Md Sv St Dn)) ∧ c.made = A.ts.length ∧ c.dn + A.ab.length = c.made ∧ c.next ≤ bs.length ∧ c.made ≤ 1 + 3 * c.next
theorem keepsB (W0 : World) (s Nx Bv Md Sv St Dn : Nat) (bv : Value) (bs : List Int) : Keeps W0 (XB Nx Bv Md Sv St Dn) (IB s Nx Bv Md Sv St Dn bv bs) := ⟨fun _ _ _ _ h _ _ hb => ⟨h.1.of hb, h.2⟩⟩

theorem afterS_done' {A : SS} {i : Nat} : afterS A i 3 = { A with st := false, k := A.k + 1, ab := delL (i : Int) A.ab, ts := A.ts.set i tk0 } := by
  unfold afterS settleS
  rw [if_pos rfl]
theorem run_born (f : Value) (ps bs : List Int) : ∀ (m : Nat) (c : BC) (A : SS), SOk ps A → A.wt = [] → c.dn + A.ab.length = c.made → c.next ≤ bs.length → (A.ab.length = 0 → c.next = bs.length) → 4 * (bs.length - c.next) + A.ab.length ≤ m → A.ts.length + 3 * (bs.length - c.next) ≤ 128 →
    ∃ c' X, runF ps (stepB f bs) m (c, A) = ((bs.length - c.next) + (c'.made - c.dn), 0, (c', X)) ∧ c'.next = bs.length ∧ c'.dn = c'.made ∧ c.dn ≤ c'.made ∧ X.ab.length = 0 ∧ X.wt = [] := by
  intro m
  induction m with
  | zero =>
    intro c A ok hw hd hn h0 hm _
    have h1 : A.ab.length = 0 := by omega
    refine ⟨c, A, ?_, h0 h1, by omega, by omega, h1, hw⟩
    rw [runF_none h1]
    simp [endE, hw]
    omega
  | succ m ih =>
    intro c A ok hw hd hn h0 hm ht
    by_cases h1 : A.ab.length = 0
    · refine ⟨c, A, ?_, h0 h1, by omega, by omega, h1, hw⟩
      rw [runF_none h1]
      have := h0 h1
      simp [endE, hw]
      omega
    · have hpk := pick_in (ps := ps) (A := A) (by omega)
      have hpb := ok.abb _ hpk
      obtain ⟨i, hi⟩ : ∃ i, (pickS ps A).toNat = i := ⟨_, rfl⟩
      have hiI : (i : Int) = pickS ps A := by omega
      have hin : (i : Int) ∈ A.ab := by rw [hiI]; exact hpk
      have hh := (hasL_iff ok.abr).2 hin
      have hdl := delL_length hh
      have hb : bn bs c.next ≤ 3 := by unfold bn; omega
      by_cases hlt : c.next < bs.length
      · have hone : oneF ps (stepB f bs) (c, A) = (⟨c.next + 1, c.made + bn bs c.next, c.dn⟩, afterS (goN f (bn bs c.next) { A with st := true, now := (i : Int) }) i 1) := by
          unfold oneF stepB
          simp only [hi, if_pos hlt]
        have haf : ∀ B : SS, afterS B i 1 = { B with st := false, k := B.k + 1 } := fun B => by
          unfold afterS settleS
          rw [if_neg (by decide), if_neg (by decide)]
        rw [haf] at hone
        have hA1 : SOk ps { A with st := true, now := (i : Int) } := ok.numbers A.k true _
        have hlen := goN_len f { A with st := true, now := (i : Int) } (bn bs c.next)
        have hab := goN_ab f { A with st := true, now := (i : Int) } (bn bs c.next)
        have hsm := goN_same f { A with st := true, now := (i : Int) } (bn bs c.next)
        have hok := goN_ok (ps := ps) f hA1 (bn bs c.next) (by show A.ts.length + _ ≤ 128; omega)
        generalize hB : goN f (bn bs c.next) { A with st := true, now := (i : Int) } = B at *
        have hlen' : B.ts.length = A.ts.length + bn bs c.next := hlen
        have hab' : B.ab.length = A.ab.length + bn bs c.next := hab
        have hwt' : B.wt = [] := hsm.1.trans hw
        obtain ⟨c', X, e, e1, e2, e3, e4, e5⟩ := ih ⟨c.next + 1, c.made + bn bs c.next, c.dn⟩ { B with st := false, k := B.k + 1 } (hok.numbers (B.k + 1) false B.now) hwt' (by show c.dn + B.ab.length = c.made + bn bs c.next; omega) (by show c.next + 1 ≤ bs.length; omega) (fun h => by have h' : B.ab.length = 0 := h; omega) (by show 4 * (bs.length - (c.next + 1)) + B.ab.length ≤ m; omega) (by show B.ts.length + 3 * (bs.length - (c.next + 1)) ≤ 128; omega)
        refine ⟨c', X, ?_, e1, e2, e3, e4, e5⟩
        unfold runF
        rw [if_neg h1, hone, e]
        simp only [Prod.mk.injEq, and_true]
        omega
      · have hone : oneF ps (stepB f bs) (c, A) = (⟨c.next, c.made, c.dn + 1⟩, afterS { A with st := true, now := (i : Int) } i 3) := by
          unfold oneF stepB
          simp only [hi, if_neg hlt]
        rw [afterS_done'] at hone
        have ok2 : SOk ps { A with st := false, now := (i : Int), k := A.k + 1, ab := delL (i : Int) A.ab, ts := A.ts.set i tk0 } := (ok.done hin).numbers _ _ _
        obtain ⟨c', X, e, e1, e2, e3, e4, e5⟩ := ih ⟨c.next, c.made, c.dn + 1⟩ { A with st := false, now := (i : Int), k := A.k + 1, ab := delL (i : Int) A.ab, ts := A.ts.set i tk0 } ok2 hw (by show c.dn + 1 + (delL (i : Int) A.ab).length = c.made; omega) hn (fun _ => by show c.next = bs.length; omega) (by show 4 * (bs.length - c.next) + (delL (i : Int) A.ab).length ≤ m; omega) (by show (A.ts.set i tk0).length + 3 * (bs.length - c.next) ≤ 128; simp; omega)
        have e3' : c.dn + 1 ≤ c'.made := e3
        refine ⟨c', X, ?_, e1, e2, by omega, e4, e5⟩
        unfold runF
        rw [if_neg h1, hone, e]
        simp only [Prod.mk.injEq, and_true]
        omega

end Go.Proofs.Ytenbmfhhmbfgoaa
