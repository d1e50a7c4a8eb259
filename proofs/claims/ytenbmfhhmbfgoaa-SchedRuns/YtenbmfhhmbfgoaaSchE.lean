
/- A step that is guarded; a scheduler in memory; what only reads it. -/
import Derived.Test.YtenbmfhhmbfgoaaSchD
import Derived.Defers
import Derived.Recover
import Derived.Laws.Pointers
import Derived.Deep.RegionHeld3
import Derived.Deep.RegionWith
import Derived.BigQuiet
namespace Go.Proofs.Ytenbmfhhmbfgoaa
open Go.RowKit

theorem quiet_recover (w : World) :
    CallsD Try.prog 39 #[] .returning w fun e u' w' => e = .returned (.tuple #[]) ∧ u' = .returning ∧ w' = w := by
  refine callsD_of_wpS Try.func39 rfl fun c₀ cs hu => ?_
  apply wpS_region
  simp [wpOpsS, go_sem, recoverD, hu, Try.ntmps39]
  cases c₀
  simp_all [bodyPostS, results, Try.results39]

set_option maxHeartbeats 1000000 in
theorem guard_any (g : Nat) (first caps : Array Value) (R : Int → World → Prop) (w : World)
    (hcall : ∀ args w, Sem.run Try.prog (callFunc g args) w = .ok (.enter g args) w)
    (hf : Calls Try.prog g (first ++ caps) w fun e w' => ∃ r, e = .returned (.int .i64 r) ∧ R r w') :
    Calls Try.prog 30 #[.func (.func g) first caps] w fun e w' => ∃ r, e = .returned (.int .i64 r) ∧ R r w' := by
  have HF : Hid (Calls Try.prog g (first ++ caps) w fun e w' => ∃ r, e = .returned (.int .i64 r) ∧ Hid (R r w')) := hf
  clear hf
  go_enter_defers Try.func30, Try.ntmps30
  go_wp2_with fail
  refine (unhide HF).mono ?_
  rintro e w1 ⟨r, rfl, HR⟩
  go_wp2_with fail
  refine leaves_cons (f := 39) (args := #[]) (by simp) (by simp [go_sem]) ?_
  refine (quiet_recover _).mono ?_
  rintro e u' w'' ⟨rfl, rfl, rfl⟩
  refine ⟨.int .i64 r, ?_, r, rfl, unhide HR⟩
  simp [results, Try.results30, go_sem]

/-- of what was there only blocks of F may have turned; F' is of F and what is new -/
structure Wd (F F' : Nat → Prop) (w w' : World) : Prop where
  os : w'.os = w.os
  tape : w'.tape = w.tape
  output : w'.output = w.output
  size : w.heap.size ≤ w'.heap.size
  block : ∀ k, k < w.heap.size → ¬ F k → w'.heap[k]? = w.heap[k]?
  new : ∀ k, F' k → F k ∨ w.heap.size ≤ k
theorem Wd.refl (F : Nat → Prop) (w : World) : Wd F F w w := ⟨rfl, rfl, rfl, Nat.le_refl _, fun _ _ _ => rfl, fun _ h => .inl h⟩
theorem Wd.trans {F G H : Nat → Prop} {a b c : World} (h : Wd F G a b) (k : Wd G H b c) : Wd F H a c :=
  ⟨k.os.trans h.os, k.tape.trans h.tape, k.output.trans h.output, Nat.le_trans h.size k.size,
    fun i hi n => (k.block i (Nat.lt_of_lt_of_le hi h.size) (fun g => by rcases h.new i g with e | e; exact n e; omega)).trans (h.block i hi n),
    fun i hi => by
      rcases k.new i hi with e | e
      · exact h.new i e
      · exact .inr (Nat.le_trans h.size e)⟩
theorem Wd.of_kp {F : Nat → Prop} {w w' : World} (h : Kp w w') : Wd F F w w' := ⟨h.os, h.tape, h.output, h.size, fun k hk _ => h.block k hk, fun _ h => .inl h⟩
theorem Wd.kp {F F' : Nat → Prop} {w0 w w' : World} (k0 : Kp w0 w) (h : Wd F F' w w') (hF : ∀ k, F k → w0.heap.size ≤ k) : Kp w0 w' :=
  ⟨h.os.trans k0.os, h.tape.trans k0.tape, h.output.trans k0.output, Nat.le_trans k0.size h.size, fun i hi => (h.block i (Nat.lt_of_lt_of_le hi k0.size) (fun f => by have := hF i f; omega)).trans (k0.block i hi)⟩

def nilF : Value := .nilFunc
/-- a step as the scheduler keeps it -/
def wrapF (f : Value) : Value := .func (.func 30) #[f] #[]
def tkC : List (Value × Bool) → List Value
  | [] => []
  | p :: r => p.1 :: .bool p.2 :: tkC r
theorem tkC_length : ∀ ms, (tkC ms).length = ms.length * 2
  | [] => rfl
  | p :: r => by simp [tkC, tkC_length r]; omega
theorem tkC_append : ∀ ms ks, tkC (ms ++ ks) = tkC ms ++ tkC ks
  | [], _ => rfl
  | p :: r, ks => by simp [tkC, tkC_append r ks]
def tk0 : Value × Bool := (nilF, false)
theorem tkC_at : ∀ (ms : List (Value × Bool)) (i : Nat), i < ms.length → (tkC ms)[i * 2]? = some (ms.getD i tk0).1 ∧ (tkC ms)[i * 2 + 1]? = some (.bool (ms.getD i tk0).2)
  | [], i, h => absurd h (by simp)
  | p :: r, 0, _ => ⟨rfl, rfl⟩
  | p :: r, i + 1, h => by
    have := tkC_at r i (by simpa using h)
    rw [show (i + 1) * 2 = i * 2 + 2 by omega]
    exact this
theorem tkC_set (ms : List (Value × Bool)) (i : Nat) (p : Value × Bool) : tkC (ms.set i p) = ((tkC ms).set (i * 2) p.1).set (i * 2 + 1) (.bool p.2) := by
  induction ms generalizing i with
  | nil => rfl
  | cons q r ih =>
    cases i with
    | zero => rfl
    | succ i =>
      rw [show (i + 1) * 2 = i * 2 + 1 + 1 by omega]
      simp only [List.set_cons_succ, tkC, ih i]
/-- what the scheduler remembers -/
structure SS where
  ts : List (Value × Bool)
  ab : List Int
  wt : List Int
  k : Nat
  st : Bool
  now : Int
def SB (w : World) (s : Nat) (pv tv av wv : Value) (k : Nat) (st : Bool) (now : Int) : Prop := w.heap[s]? = some (.cells #[pv, tv, av, wv, .int .i64 (k : Int), .bool st, .int .i64 now] 63 (0, 0))
def OwnT (w : World) (v : Value) (ms : List (Value × Bool)) : Prop := w.ownsRow 0 66 2 v ms.length (tkC ms)
def OwnU (w : World) (v : Value) (ps : List Int) : Prop := w.ownsRow 0 5 1 v ps.length (ps.map (Value.int .u8))
/-- what holds of all that it remembers -/
structure SOk (ps : List Int) (A : SS) : Prop where
  lts : A.ts.length ≤ 128
  lps : ps.length ≤ 1000000
  psb : ∀ x ∈ ps, 0 ≤ x ∧ x < 256
  abr : Rise A.ab
  abb : ∀ x ∈ A.ab, 0 ≤ x ∧ x < A.ts.length
  wtr : Rise A.wt
  wtb : ∀ x ∈ A.wt, 0 ≤ x ∧ x < A.ts.length
  dj : ∀ x ∈ A.wt, x ∉ A.ab
/-- the scheduler in block s, its memory in F -/
structure Sc (w : World) (s : Nat) (F : Nat → Prop) (ps : List Int) (A : SS) : Prop where
  val : ∃ pv tv av wv, SB w s pv tv av wv A.k A.st A.now ∧ OwnU w pv ps ∧ OwnT w tv A.ts ∧ Own w 3 0 av A.ab ∧ Own w 3 0 wv A.wt ∧ (∀ k, av.ownBlock = some k → wv.ownBlock ≠ some k) ∧ F s ∧ (∀ k, pv.ownBlock = some k → F k) ∧ (∀ k, tv.ownBlock = some k → F k) ∧ (∀ k, av.ownBlock = some k → F k) ∧ (∀ k, wv.ownBlock = some k → F k) ∧ (∀ k, F k → k < w.heap.size)
  ok : SOk ps A

theorem rise_length {n : Nat} : ∀ (xs : List Int), Rise xs → (∀ x ∈ xs, 0 ≤ x ∧ x < (n : Int)) → xs.length ≤ n := by
  intro xs h hb
  have key : ∀ j, j < xs.length → (j : Int) ≤ xs.getD j 0 := by
    intro j
    induction j with
    | zero =>
      intro hj
      have : xs.getD 0 0 = xs[0] := by simp [hj]
      rw [this]
      exact (hb _ (List.getElem_mem _)).1
    | succ j ih =>
      intro hj
      have h1 := ih (by omega)
      have h2 := h.get (i := j) (j := j + 1) (by omega) hj
      omega
  by_cases h0 : xs.length = 0
  · omega
  · have h1 := key (xs.length - 1) (by omega)
    have e : xs.getD (xs.length - 1) 0 = xs[xs.length - 1] := by simp [show xs.length - 1 < xs.length by omega]
    have h2 := (hb _ (List.getElem_mem (show xs.length - 1 < xs.length by omega))).2
    omega
theorem Sc.lab {w : World} {s : Nat} {F : Nat → Prop} {ps : List Int} {A : SS} (h : Sc w s F ps A) : A.ab.length ≤ 128 := Nat.le_trans (rise_length _ h.ok.abr h.ok.abb) h.ok.lts
theorem Sc.lwt {w : World} {s : Nat} {F : Nat → Prop} {ps : List Int} {A : SS} (h : Sc w s F ps A) : A.wt.length ≤ 128 := Nat.le_trans (rise_length _ h.ok.wtr h.ok.wtb) h.ok.lts
theorem i64_of {xs : List Int} {n : Nat} (h : ∀ x ∈ xs, 0 ≤ x ∧ x < (n : Int)) (hn : n ≤ 128) : ∀ x ∈ xs, I64 x := fun x hx => by
  have := h x hx
  constructor <;> omega

theorem SB.lt {w : World} {s : Nat} {pv tv av wv : Value} {k : Nat} {st : Bool} {now : Int} (h : SB w s pv tv av wv k st now) : s < w.heap.size := (Array.getElem?_eq_some_iff.1 h).1
theorem SB.cells {w : World} {s : Nat} {pv tv av wv : Value} {k : Nat} {st : Bool} {now : Int} (h : SB w s pv tv av wv k st now) : w.cell? ⟨s, 0, none⟩ = some pv ∧ w.cell? ⟨s, 1, none⟩ = some tv ∧ w.cell? ⟨s, 2, none⟩ = some av ∧ w.cell? ⟨s, 3, none⟩ = some wv ∧ w.cell? ⟨s, 4, none⟩ = some (.int .i64 (k : Int)) ∧ w.cell? ⟨s, 5, none⟩ = some (.bool st) ∧ w.cell? ⟨s, 6, none⟩ = some (.int .i64 now) := by
  unfold SB at h
  simp [World.cell?, h]
theorem SB.frozen {w : World} {s : Nat} {pv tv av wv : Value} {k : Nat} {st : Bool} {now : Int} (h : SB w s pv tv av wv k st now) (i : Nat) : w.frozen? ⟨s, i, none⟩ = false := by
  unfold SB at h
  simp [World.frozen?, h]
theorem own_typed {w : World} {base : Nat} {e : TypeId} {size n g : Nat} {v : Value} {xs : List Value} (h : w.ownsRow base e size v n xs) (hg : v.ownBlock = some g) : ∃ cur, w.heap[g]? = some (.cells cur e (0, 0)) := by
  obtain ⟨_, ⟨rfl, _⟩ | ⟨g', cap, cur, rfl, _, hh, _⟩⟩ := h
  · cases hg
  · cases hg
    exact ⟨cur, hh⟩
theorem own_apart {w : World} {b1 b2 : Nat} {e1 e2 : TypeId} {z1 z2 n1 n2 : Nat} {v1 v2 : Value} {x1 x2 : List Value} (h1 : w.ownsRow b1 e1 z1 v1 n1 x1) (h2 : w.ownsRow b2 e2 z2 v2 n2 x2) (hne : e1 ≠ e2) {k : Nat} (hk : v1.ownBlock = some k) : v2.ownBlock ≠ some k := by
  intro hk2
  obtain ⟨c1, q1⟩ := own_typed h1 hk
  obtain ⟨c2, q2⟩ := own_typed h2 hk2
  rw [q1] at q2
  simp at q2
  exact hne q2.2
theorem own_ne_s {w : World} {s : Nat} {pv tv av wv : Value} {k : Nat} {st : Bool} {now : Int} (h : SB w s pv tv av wv k st now) {b : Nat} {e : TypeId} {z n : Nat} {v : Value} {xs : List Value} (ho : w.ownsRow b e z v n xs) (hne : e ≠ 63) : v.ownBlock ≠ some s := by
  intro hk
  obtain ⟨c1, q1⟩ := own_typed ho hk
  rw [show w.heap[s]? = _ from h] at q1
  simp at q1
  exact hne q1.2.symm

theorem now_any (s : Nat) (F : Nat → Prop) (ps : List Int) (A : SS) (w : World) (h : Sc w s F ps A) :
    Calls Try.prog 19 #[.pointer (some ⟨s, 0, none⟩)] w fun e w' => e = .returned (.int .i64 (if A.st then A.now else -1)) ∧ w' = w := by
  obtain ⟨pv, tv, av, wv, hb, -⟩ := h.val
  obtain ⟨-, -, -, -, -, c5, c6⟩ := hb.cells
  clear h hb
  obtain ⟨ts, ab, wt, k, st, now⟩ := A
  cases st
  · go_enter Try.func19, Try.ntmps19
    go_wp2_with fail
    go_ret
    exact ⟨rfl, rfl⟩
  · go_enter Try.func19, Try.ntmps19
    go_wp2_with fail
    go_ret
    exact ⟨rfl, rfl⟩

set_option maxHeartbeats 1000000 in
theorem open_any (s : Nat) (F : Nat → Prop) (ps : List Int) (A : SS) (w : World) (h : Sc w s F ps A) :
    Calls Try.prog 17 #[.pointer (some ⟨s, 0, none⟩)] w fun e w' => e = .returned (.int .i64 ((A.ab.length : Int) + (A.wt.length : Int))) ∧ Kp w w' := by
  have l1 := h.lab
  have l2 := h.lwt
  obtain ⟨pv, tv, av, wv, hb, -, -, ha, hw, -⟩ := h.val
  obtain ⟨-, -, c2, c3, -, -, -⟩ := hb.cells
  obtain ⟨a, acap, rfl, -⟩ := ha.shape
  obtain ⟨b, bcap, rfl, -⟩ := hw.shape
  clear h hb ha hw
  generalize A.ab.length = n at *
  generalize A.wt.length = m at *
  go_enter Try.func17, Try.ntmps17
  go_wp2_with fail
  go_quiet (fail)
  go_wp2
  go_ret
  exact ⟨rfl, Kp.drewN _ _⟩

end Go.Proofs.Ytenbmfhhmbfgoaa
