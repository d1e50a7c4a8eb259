
/- The program's scheduler and the document's beside each other. -/
import Derived.Test.YtenbmfhhmbfgoaaSchRj
namespace Go.Proofs.Ytenbmfhhmbfgoaa
open Go.RowKit

set_option maxRecDepth 20000 in
set_option maxHeartbeats 4000000 in
theorem open_q (s : Nat) (F : Nat → Prop) (ps : List Int) (A : SS) (w : World) (h : Sc w s F ps A) :
    Calls Try.prog 17 #[.pointer (some ⟨s, 0, none⟩)] w fun e w' => e = .returned (.int .i64 ((A.ab.length : Int) + (A.wt.length : Int))) ∧ ∃ m, w' = w.drewN m := by
  have l1 := h.lab
  have l2 := h.lwt
  obtain ⟨pv, tv, av, wv, hb, -, -, ha, hw, -⟩ := h.val
  obtain ⟨-, -, c2, c3, -, -, -⟩ := hb.cells
  obtain ⟨a, acap, rfl, -⟩ := ha.shape
  obtain ⟨b, bcap, rfl, -⟩ := hw.shape
  clear h hb ha hw
  generalize A.ab.length = n at *
  generalize A.wt.length = m at *
  go_enter Try.func17, Try.ntmps17
  go_wp2_with fail
  go_quiet (fail)
  go_wp2
  go_ret
  exact ⟨rfl, _, rfl⟩

structure RR (W0 : World) (ps : List Int) (pv : Value) (s T : Nat) (Bs1 : List Nat) (ds1 : List (Value × List (Value × List Int × Int))) (c1 : DC) (A1 : SS) (G1 : Nat → Prop) (M : Nat) (Bs2 : List Nat) (ds2 : List (Value × List (Value × List Int × Int))) (c2 : DC) (A2 : SS) (G2 : Nat → Prop) (w : World) : Prop where
  d : DO W0 s T ps Bs1 ds1 c1 A1 G1 w
  m : MO W0 M pv ps Bs2 ds2 c2 A2 G2 w
  ap : ∀ k, G1 k → ¬ G2 k
section
variable {W0 w w' : World} {ps : List Int} {pv : Value} {s T : Nat} {Bs1 : List Nat} {ds1 : List (Value × List (Value × List Int × Int))} {c1 : DC} {A1 : SS} {G1 : Nat → Prop} {M : Nat} {Bs2 : List Nat} {ds2 : List (Value × List (Value × List Int × Int))} {c2 : DC} {A2 : SS} {G2 : Nat → Prop}
theorem RR.keep (h : RR W0 ps pv s T Bs1 ds1 c1 A1 G1 M Bs2 ds2 c2 A2 G2 w) (k : Kp w w') : RR W0 ps pv s T Bs1 ds1 c1 A1 G1 M Bs2 ds2 c2 A2 G2 w' := ⟨h.d.keep k, h.m.keep k, h.ap⟩
/-- the program's has turned -/
theorem RR.onC (h : RR W0 ps pv s T Bs1 ds1 c1 A1 G1 M Bs2 ds2 c2 A2 G2 w) {Bs' : List Nat} {ds' : List (Value × List (Value × List Int × Int))} {c' : DC} {A' : SS} {G' H : Nat → Prop} (d' : DO W0 s T ps Bs' ds' c' A' G' w') (f : Wd H G' w w') (hH : ∀ k, H k → W0.heap.size ≤ k) (n : ∀ k, H k → ¬ G2 k) : RR W0 ps pv s T Bs' ds' c' A' G' M Bs2 ds2 c2 A2 G2 w' :=
  ⟨d', h.m.wide f hH (fun k a b => n k b a), fun k a b => by
    rcases f.new k a with e | e
    · exact n k e b
    · have := (h.m.m.lt k b).1; omega⟩
/-- the document's has turned -/
theorem RR.onM (h : RR W0 ps pv s T Bs1 ds1 c1 A1 G1 M Bs2 ds2 c2 A2 G2 w) {Bs' : List Nat} {ds' : List (Value × List (Value × List Int × Int))} {c' : DC} {A' : SS} {G' : Nat → Prop} (m' : MO W0 M pv ps Bs' ds' c' A' G' w') (f : Wd G2 G' w w') : RR W0 ps pv s T Bs1 ds1 c1 A1 G1 M Bs' ds' c' A' G' w' :=
  ⟨h.d.wide f (fun k e => (h.m.m.lt k e).2) (fun k a b => h.ap k a b), m', fun k a b => by
    rcases f.new k b with e | e
    · exact h.ap k a e
    · have := (h.d.lt k a).1; omega⟩
theorem RR.wakeM (h : RR W0 ps pv s T Bs1 ds1 c1 A1 G1 M Bs2 ds2 c2 A2 G2 w) (id : Int) :
    Calls Try.prog 22 #[.pointer (some ⟨M, 0, none⟩), .int .i64 id] w fun e w' => e = .returned (.bool (wakeS A2 id).1) ∧ RR W0 ps pv s T Bs1 ds1 c1 A1 G1 M Bs2 ds2 c2 (wakeS A2 id).2 G2 w' := by
  refine (mwake_any W0 M pv ps Bs2 _ A2.k c2.told _ A2 G2 id w h.m.m).mono ?_
  rintro e w' ⟨rfl, m', f⟩
  have ek := wakeS_kq A2 id
  have hG : ∀ k, G2 k → W0.heap.size ≤ k := fun k e => (h.m.m.lt k e).2
  exact ⟨rfl, h.onM ⟨Wd.kp h.m.kp f hG, by rw [ek]; exact m', by rw [ek]; exact h.m.atk, by rw [ek]; exact h.m.tl, h.m.la, h.m.dd, h.m.pb⟩ f⟩
theorem RR.wakeC (h : RR W0 ps pv s T Bs1 ds1 c1 A1 G1 M Bs2 ds2 c2 A2 G2 w) (id : Int) :
    Calls Try.prog 21 #[.pointer (some ⟨s, 0, none⟩), .int .i64 id] w fun e w' => e = .returned (.bool (wakeS A1 id).1) ∧ ∃ G', RR W0 ps pv s T Bs1 ds1 c1 (wakeS A1 id).2 G' M Bs2 ds2 c2 A2 G2 w' := by
  refine (wake_do h.d id).mono ?_
  rintro e w' ⟨rfl, G', d', f⟩
  exact ⟨rfl, G', h.onC d' f (fun k e => (h.d.lt k e).2) h.ap⟩
theorem RR.runC (h : RR W0 ps pv s T Bs1 ds1 c1 A1 G1 M Bs2 ds2 c2 A2 G2 w) {most : Nat} (hm : most ≤ 1048576) :
    Calls Try.prog 15 #[.pointer (some ⟨s, 0, none⟩), .int .i64 (most : Int)] w fun e w' => e = .returned (.tuple #[.int .i64 ((runF ps (stepD ds1) most (c1, A1)).1 : Int), .int .i64 (runF ps (stepD ds1) most (c1, A1)).2.1]) ∧ ∃ G', RR W0 ps pv s T Bs1 ds1 (runF ps (stepD ds1) most (c1, A1)).2.2.1 (runF ps (stepD ds1) most (c1, A1)).2.2.2 G' M Bs2 ds2 c2 A2 G2 w' := by
  refine (run_do h.d hm).mono ?_
  rintro e w' ⟨rfl, G', d', f⟩
  exact ⟨rfl, G', h.onC d' f (fun k e => (h.d.lt k e).2) h.ap⟩
theorem RR.runM (h : RR W0 ps pv s T Bs1 ds1 c1 A1 G1 M Bs2 ds2 c2 A2 G2 w) {most : Nat} (hm : most ≤ 1048576) (hb : A2.k + most ≤ 900000000) :
    Calls Try.prog 16 #[.pointer (some ⟨M, 0, none⟩), .int .i64 (most : Int)] w fun e w' => e = .returned (.tuple #[.int .i64 ((runF ps (stepD ds2) most (c2, A2)).1 : Int), .int .i64 (runF ps (stepD ds2) most (c2, A2)).2.1]) ∧ ∃ G', RR W0 ps pv s T Bs1 ds1 c1 A1 G1 M Bs2 ds2 (runF ps (stepD ds2) most (c2, A2)).2.2.1 (runF ps (stepD ds2) most (c2, A2)).2.2.2 G' w' := by
  refine (mrun_any W0 M pv ps Bs2 ds2 c2 A2 G2 most w h.m hm hb).mono ?_
  rintro e w' ⟨rfl, G', m', f⟩
  exact ⟨rfl, G', h.onM m' f⟩
theorem RR.goC (h : RR W0 ps pv s T Bs1 ds1 c1 A1 G1 M Bs2 ds2 c2 A2 G2 w) {n : Nat} (hn : Bs1.length = n) (hn2 : n < 128) (b : Nat) (Lv : Value) (l : List (Value × List Int × Int)) (tb : TB w b s T Lv 0) (nb1 : ¬ G1 b) (nb2 : ¬ G2 b) (hb0 : W0.heap.size ≤ b) (hl : DeedsAt W0 Lv l) (hsm : capD (ds1 ++ [(Lv, l)]) ≤ 100000) :
    Calls Try.prog 12 #[.pointer (some ⟨s, 0, none⟩), taskF b] w fun e w' => e = .returned (.tuple #[.int .i64 (n : Int), .int .i64 0]) ∧ ∃ G', RR W0 ps pv s T (Bs1 ++ [b]) (ds1 ++ [(Lv, l)]) ⟨c1.at_ ++ [0], c1.told⟩ (goS A1 (taskF b)) G' M Bs2 ds2 c2 A2 G2 w' := by
  refine (go_do h.d hn hn2 b Lv l tb nb1 hb0 hl hsm).mono ?_
  rintro e w' ⟨rfl, G', d', f⟩
  refine ⟨rfl, G', h.onC d' f ?_ ?_⟩
  · rintro k (e | e)
    · exact (h.d.lt k e).2
    · rw [e]; exact hb0
  · rintro k (e | e) b2
    · exact h.ap k e b2
    · rw [e] at b2; exact nb2 b2
theorem RR.goM (h : RR W0 ps pv s T Bs1 ds1 c1 A1 G1 M Bs2 ds2 c2 A2 G2 w) {n : Nat} (hn : Bs2.length = n) (hn2 : n < 128) (Lb : Value) (l : List (Value × List Int × Int)) (hds : ds2.length = n) (hl : DeedsAt W0 Lb l) :
    Calls Try.prog 14 #[.pointer (some ⟨M, 0, none⟩), Lb] w fun e w' => e = .returned (.tuple #[.int .i64 (n : Int), .int .i64 0]) ∧ ∃ b G', ∀ f, RR W0 ps pv s T Bs1 ds1 c1 A1 G1 M (Bs2 ++ [b]) (ds2 ++ [(Lb, l)]) ⟨c2.at_ ++ [0], c2.told⟩ (goS A2 f) G' w' := by
  subst hn
  refine (mgo_any W0 M pv ps Bs2 ds2 c2 A2 G2 Lb l w h.m hn2 hds hl).mono ?_
  rintro e w' ⟨rfl, b, G', m', f⟩
  exact ⟨rfl, b, G', fun g => h.onM (m' g) f⟩
end
theorem MO.start {W0 w : World} {pv : Value} {ps : List Int} (k0 : Kp W0 w) (hb : Bys W0 pv ps) : MO W0 w.heap.size pv ps [] [] ⟨[], []⟩ newS (fun k => k = w.heap.size) (w.alloc (.cells #[pv, .slice none 0 0, .int .i64 0, .slice none 0 0] 33)) := by
  have k := Kp.alloc w (.cells #[pv, .slice none 0 0, .int .i64 0, .slice none 0 0] 33)
  have hsz : (w.alloc (.cells #[pv, .slice none 0 0, .int .i64 0, .slice none 0 0] 33)).heap.size = w.heap.size + 1 := by simp
  refine ⟨k0.trans k, ⟨SOk.new hb.wf hb.room, rfl, fun _ => false, .slice none 0 0, .slice none 0 0, ⟨?_, World.ownsRow_nil _ _ _ _, World.ownsRow_nil _ _ _ _, (by intro i hi; simp at hi), List.nodup_nil, rfl, (by intro i hi; simp at hi), (by intro q e; cases e), (by intro q e; cases e), (by rintro q rfl; omega), (by rintro q rfl; exact k0.size)⟩, (by intro i hi; simp at hi)⟩, (by intro i; simp), rfl, rfl, (by intro i hi; simp at hi), hb⟩
  unfold MS
  simp only [World.alloc, Array.getElem?_push_size]
  rfl

end Go.Proofs.Ytenbmfhhmbfgoaa
