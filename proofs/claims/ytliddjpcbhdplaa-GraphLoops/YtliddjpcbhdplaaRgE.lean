
/- The document's own Work, walked. -/
import Derived.Test.YtliddjpcbhdplaaRgD
namespace Go.Proofs.Ytliddjpcbhdplaa
open Go.RowKit

theorem made_setB (w : World) (n r : Nat) : BlkB (w.alloc (.cells ((madeCells #[.bool false] n).setIfInBounds r (.bool true)) 4)) w.heap.size ((List.replicate n false).set r true) := by
  have h := BlkB.made w n
  unfold BlkB at h ⊢
  simp only [World.alloc, Array.getElem?_push_size] at h ⊢
  injection h with h
  injection h with h
  rw [h]
  apply congrArg some
  apply congrArg (fun x => Obj.cells x _)
  apply Array.ext'
  simp [List.map_set]
theorem sz_allocB (w : World) (o : Obj) : (w.alloc o).heap.size = w.heap.size + 1 := by simp
theorem dps_start {gs : List (List Nd)} {gN : Nat} {w : World} : Dps gs (gN : Int) w ((w.alloc (.cells ((madeCells #[.bool false] gs.length).setIfInBounds gN (.bool true)) 4)).alloc (.cells (madeCells #[.bool false] gs.length) 4)) w.heap.size (w.heap.size + 1) 0 false := by
  have k1 := Kp.alloc w (.cells ((madeCells #[.bool false] gs.length).setIfInBounds gN (.bool true)) 4)
  have k2 := Kp.alloc (w.alloc (.cells ((madeCells #[.bool false] gs.length).setIfInBounds gN (.bool true)) 4)) (.cells (madeCells #[.bool false] gs.length) 4)
  refine ⟨k1.trans k2, ⟨Nat.le_refl _, by omega, by omega⟩, ⟨_, (made_setB w gs.length gN).keep k2, ?_⟩, ⟨List.replicate gs.length false, ?_, Says.made _ (fun j _ => ?_)⟩, ⟨fun h => (by cases h), ?_⟩, fun d h => absurd h (Nat.not_lt_zero _)⟩
  · refine (Says.made gs.length (p := fun _ => False) (fun _ _ h => h)).set (fun _ => ⟨fun _ => lv_self, fun _ => rfl⟩) (fun j _ hne => ⟨fun h => h.elim, fun h => hne (lv_zero_eq.1 h)⟩)
  · have h := BlkB.made (w.alloc (.cells ((madeCells #[.bool false] gs.length).setIfInBounds gN (.bool true)) 4)) gs.length
    rw [sz_allocB] at h
    exact h
  · rintro ⟨d', h, _⟩
    omega
  · rintro ⟨d', h, _⟩
    omega

theorem Row.atCell {gs : List (List Nd)} {g : Int} {w wr : World} {A C B d i i2 j : Nat} {l : List Int} {s : Bool} (h : Row gs g w wr A C B d i i2 l s) (hj : j < gs.length) : ∃ x, wr.cell? ⟨A, j, none⟩ = some (.bool x) ∧ (x = true ↔ 0 < lv gs g d j) := by
  obtain ⟨av, a1, a2⟩ := h.at_
  exact ⟨_, a1.cell (by rw [a2.1]; exact hj), a2.2 j hj⟩
theorem Row.nextCell {gs : List (List Nd)} {g : Int} {w wr : World} {A C B d i i2 j : Nat} {l : List Int} {s : Bool} (h : Row gs g w wr A C B d i i2 l s) (hj : j < gs.length) : ∃ x, wr.cell? ⟨B, j, none⟩ = some (.bool x) ∧ wr.frozen? ⟨B, j, none⟩ = false := by
  obtain ⟨ys, a1, a2⟩ := h.next
  exact ⟨_, a1.cell (by rw [a2.1]; exact hj), a1.frozen j⟩

theorem CRow.allCell {gs : List (List Nd)} {g : Int} {w wr : World} {C M N d i X j : Nat} (h : CRow gs g w wr C M N d i X) (hj : j < gs.length) : ∃ z, wr.cell? ⟨C, j, none⟩ = some (.bool z) ∧ (z = true ↔ Rchd gs g j) := by
  obtain ⟨cs, c1, c2⟩ := h.all
  exact ⟨_, c1.cell (by rw [c2.1]; exact hj), c2.2 j hj⟩
theorem CRow.nextCell {gs : List (List Nd)} {g : Int} {w wr : World} {C M N d i X : Nat} (h : CRow gs g w wr C M N d i X) (hi : i < gs.length) : wr.cell? ⟨N, i, none⟩ = some (.int .i64 (X : Int)) ∧ wr.frozen? ⟨N, i, none⟩ = false := by
  obtain ⟨ys, y1, y2, _, _, y5⟩ := h.next
  have h1 := y1.cell (i := i) (by rw [y2]; exact hi)
  rw [y5 hi] at h1
  exact ⟨h1, y1.frozen i⟩
theorem CRow.manyCell {gs : List (List Nd)} {g : Int} {w wr : World} {C M N d i X j : Nat} (h : CRow gs g w wr C M N d i X) (hj : j < gs.length) : ∃ y : Nat, wr.cell? ⟨M, j, none⟩ = some (.int .i64 (y : Int)) ∧ y ≤ 2100000 ∧ (Rchd gs g j → sat y = sat (wk gs (j : Int) d)) := by
  obtain ⟨ms, m1, m2, m3⟩ := h.many
  obtain ⟨y, e, h1, h2⟩ := m3 j hj
  have h3 := m1.cell (i := j) (by rw [m2]; exact hj)
  rw [e] at h3
  exact ⟨y, h3, h1, h2⟩
theorem Cnt.manyCell {gs : List (List Nd)} {g : Int} {w wr : World} {C M d j : Nat} (h : Cnt gs g w wr C M d) (hj : j < gs.length) : ∃ y : Nat, wr.cell? ⟨M, j, none⟩ = some (.int .i64 (y : Int)) ∧ y ≤ 2100000 ∧ (Rchd gs g j → sat y = sat (wk gs (j : Int) d)) := by
  obtain ⟨ms, m1, m2, m3⟩ := h.many
  obtain ⟨y, e, h1, h2⟩ := m3 j hj
  have h3 := m1.cell (i := j) (by rw [m2]; exact hj)
  rw [e] at h3
  exact ⟨y, h3, h1, h2⟩

set_option maxRecDepth 20000 in
set_option maxHeartbeats 16000000 in
theorem rwork_any (a : Option Addr) (c : Nat) (gs : List (List Nd)) (g : Int) (w : World) (h : Graphs w (.slice a gs.length c) gs) (hg : I64 g) (hn40 : gs.length ≤ 1000) :
    Calls Try.prog 14 #[.slice a gs.length c, .int .i64 g] w fun e w' => ∃ v r, e = .returned (.tuple #[.int .i64 v, .int .i64 r]) ∧ WorkR gs g v r ∧ Kp w w' := by
  have HG := hide h
  clear h
  obtain ⟨hg1, hg2⟩ := hg
  have hmb := mk_bools gs.length (by omega)
  have hmi := mk_ints gs.length (by omega)
  go_enter Try.func14, Try.ntmps14
  by_cases h0 : g < 0
  · have HX : Hid (¬ WholeP gs g) := not_whole (fun h => by have := h.1; omega)
    go_wp2
    go_ret2
    exact ⟨0, 6, rfl, .inl ⟨unhide HX, rfl, rfl⟩, Kp.refl _⟩
  by_cases h1 : (gs.length : Int) ≤ g
  · have HX : Hid (¬ WholeP gs g) := not_whole (fun h => by have := h.2; omega)
    go_wp2
    go_ret2
    exact ⟨0, 6, rfl, .inl ⟨unhide HX, rfl, rfl⟩, Kp.refl _⟩
  obtain ⟨gN, rfl⟩ : ∃ gN : Nat, g = (gN : Int) := ⟨g.toNat, by omega⟩
  have hgN : gN < gs.length := by omega
  have cm : (w.alloc (.cells (madeCells #[.bool false] gs.length) 4)).cell? ⟨w.heap.size, gN, none⟩ = some (.bool ((List.replicate gs.length false).getD gN false)) := (BlkB.made w gs.length).cell (by simpa using hgN)
  have fm : (w.alloc (.cells (madeCells #[.bool false] gs.length) 4)).frozen? ⟨w.heap.size, gN, none⟩ = false := (BlkB.made w gs.length).frozen gN
  generalize (List.replicate gs.length false).getD gN false = q0 at *
  have HD := hide (dps_start (gs := gs) (gN := gN) (w := w))
  go_wp2
  generalize World.alloc (World.alloc w _) _ = w1 at *
  obtain ⟨C, hC⟩ : ∃ C, C = w.heap.size + 1 := ⟨_, rfl⟩
  obtain ⟨A0, hA0⟩ : ∃ A, A = w.heap.size := ⟨_, rfl⟩
  rw [← hC, ← hA0] at HD
  rw [← hC, ← hA0]
  clear hC hA0 cm fm
  go_loopw [9, 6, 8] (fun i v b wr => ∃ (d A : Nat) (db : Bool), d ≤ gs.length + 10 ∧ i = .int .i64 d ∧ v = .slice (some ⟨A, 0, none⟩) gs.length gs.length ∧ b = .bool db ∧ Hid (Dps gs (gN : Int) w wr A C d db)) (fun i _ _ _ => gs.length + 10 - (intOf i).toNat)
  case atStart => exact ⟨0, A0, false, Nat.zero_le _, rfl, rfl, rfl, unhide HD⟩
  case round =>
    obtain ⟨d, A, db, hd, rfl, rfl, rfl, HD⟩ := hrel
    by_cases hdl : d ≤ gs.length + 9
    · have hdI : (d : Int) ≤ (gs.length : Int) + 8 + 1 := by omega
      have HDB := hide (unhide HD).deep
      have HDC := hide (unhide HD).clean
      have HR := hide (unhide HD).row
      generalize hB : wr.heap.size = B at *
      go_wp2
      generalize World.alloc wr _ = w2 at *
      clear HD hB
      go_loopw [12, 11] (fun i s wr => ∃ (i0 : Nat) (sb : Bool), i0 ≤ gs.length ∧ i = .int .i64 i0 ∧ s = .bool sb ∧ Hid (Row gs (gN : Int) w wr A C B d i0 i0 [] sb)) (fun i _ _ => gs.length - (intOf i).toNat)
      case atStart => exact ⟨0, false, Nat.zero_le _, rfl, rfl, unhide HR⟩
      case round =>
        obtain ⟨i, sb, hi, rfl, rfl, HR⟩ := hrel
        by_cases hil : i < gs.length
        · have hiI : (i : Int) < (gs.length : Int) := by omega
          obtain ⟨b, off, a', c', rfl, hb, cg0, hnd⟩ := (unhide HG).one (Kp.refl w) hil
          have hnr := hnd.room
          have HNd := hide hnd
          have HCG := hide cg0
          have cg := (unhide HR).kp.cellT cg0
          clear hnd cg0 hb
          obtain ⟨av, ha1, ha2⟩ := (unhide HR).at_
          obtain ⟨cs, hc1, hc2⟩ := (unhide HR).all
          have ca := ha1.cell (i := i) (by rw [ha2.1]; exact hil)
          have cc := hc1.cell (i := i) (by rw [hc2.1]; exact hil)
          have fc := hc1.frozen i
          have HSA := hide (ha2.2 i hil)
          have HSC := hide (hc2.2 i hil)
          clear ha1 hc1 ha2 hc2
          generalize av.getD i false = x at *
          generalize cs.getD i false = y at *
          have HR2 : Hid (∀ z : Bool, z = (y || x) → Row gs (gN : Int) w (wr.setCell ⟨C, i, none⟩ (.bool z)) A C B d i (i + 1) [] sb) := fun z hz => (unhide HR).setAll (by
            rw [hz, Bool.or_eq_true]
            constructor
            · rintro (h | h)
              · rcases (unhide HSC).1 h with h | ⟨h, _⟩
                · exact .inl h
                · omega
              · exact .inr ((unhide HSA).1 h)
            · rintro (h | h)
              · exact .inl ((unhide HSC).2 (.inl h))
              · exact .inr ((unhide HSA).2 h))
          cases x with
          | false =>
            have hnp : ¬ 0 < lv gs (gN : Int) d i := fun h => by cases (unhide HSA).2 h
            have HNP := hide hnp
            have HR3 := hide (unhide HR2 y (by simp))
            clear HR2 HSA HSC hnp
            have key : Hid (∀ wr : World, Row gs (gN : Int) w wr A C B d i (i + 1) [] sb → wr.cell? ⟨A, i, none⟩ = some (.bool false)) := fun wr h => by
              obtain ⟨x, h1, h2⟩ := h.atCell hil
              cases x with
              | false => exact h1
              | true => exact absurd (h2.1 rfl) (unhide HNP)
            cases y
            all_goals
              go_wp2
              generalize World.setCell wr _ _ = w3 at *
              clear ca cc fc cg
              go_loopw [13, 11] (fun k s wr => k = .int .i64 0 ∧ s = .bool sb ∧ Hid (Row gs (gN : Int) w wr A C B d i (i + 1) [] sb)) (fun _ _ _ => 0)
              case atStart => exact ⟨rfl, rfl, unhide HR3⟩
              case round =>
                obtain ⟨rfl, rfl, HR4⟩ := hrel
                have c4 := unhide key _ (unhide HR4)
                have HR5 := hide ((unhide HR4).skip (unhide HNP))
                go_wp2
                go_roundw
                case rel => exact ⟨i + 1, sb, by omega, by go_num, rfl, unhide HR5⟩
                case measure => simp [intOf]; omega
          | true =>
            have hp := (unhide HSA).1 rfl
            have HP := hide hp
            have HR3 := hide (unhide HR2 true (by simp))
            clear HR2 HSA HSC hp
            have key : Hid (∀ (l : List Int) (s : Bool) (wr : World), Row gs (gN : Int) w wr A C B d i (i + 1) l s → wr.cell? ⟨A, i, none⟩ = some (.bool true)) := fun l s wr h => by
              obtain ⟨x, h1, h2⟩ := h.atCell hil
              cases x with
              | true => exact h1
              | false => cases h2.2 (unhide HP)
            cases y
            all_goals
              go_wp2
              generalize World.setCell wr _ _ = w3 at *
              clear ca cc fc cg
              have HNS : Hid (∃ ns, ns = gs.getD i []) := ⟨_, rfl⟩
              obtain ⟨ns, hns⟩ := unhide HNS
              rw [← hns] at HCG HNd hnr
              have HNE := hide hns
              have HDN : Hid (Row gs (gN : Int) w w3 A C B d i (i + 1) (callsL (ns.take 0)) sb) := unhide HR3
              clear hns HNS HR3
              go_loopw [13, 11] (fun k s wr => ∃ (kk : Nat) (sb : Bool), kk ≤ ns.length ∧ k = .int .i64 kk ∧ s = .bool sb ∧ Hid (Row gs (gN : Int) w wr A C B d i (i + 1) (callsL (ns.take kk)) sb)) (fun k _ _ => ns.length - (intOf k).toNat)
              case atStart => exact ⟨0, sb, Nat.zero_le _, rfl, rfl, unhide HDN⟩
              case round =>
                obtain ⟨kk, sc, hkk, rfl, rfl, HR4⟩ := hrel
                have c4 := unhide key _ _ _ (unhide HR4)
                have cg := (unhide HR4).kp.cellT (unhide HCG)
                by_cases hkl : kk < ns.length
                · have hkI : (kk : Int) < (ns.length : Int) := by omega
                  obtain ⟨b2, off2, rfl, hb2, hnd⟩ := (unhide HNd).one (unhide HR4).kp hkl
                  have x0 := hnd.op
                  have x3 := hnd.no
                  obtain ⟨wn1, wn2⟩ := hnd.wno
                  obtain ⟨a1, a2, a4, a5, a6, c1, c2, c4', c5, c6, _, x1, x2, x4, x5, x6⟩ := hnd.slices
                  clear hnd
                  by_cases h16 : (ns.getD kk ndnil).op = 16
                  · have HM : Hid ((ns.getD kk ndnil).no ∈ callsL (gs.getD i [])) := by
                      have h1 : callsL ns = callsL (ns.take (kk + 1)) ++ callsL (ns.drop (kk + 1)) := by rw [← callsL_append, List.take_append_drop]
                      show _ ∈ callsL (gs.getD i [])
                      rw [← unhide HNE, h1, callsL_yes hkl h16]
                      simp
                    have HT := hide (callsL_yes hkl h16)
                    rw [h16] at x0
                    clear h16
                    generalize (ns.getD kk ndnil).inn.length = q1 at *
                    generalize (ns.getD kk ndnil).tt.length = q2 at *
                    generalize (ns.getD kk ndnil).s.length = q4 at *
                    generalize (ns.getD kk ndnil).d.length = q5 at *
                    generalize (ns.getD kk ndnil).hk.length = q6 at *
                    generalize (ns.getD kk ndnil).no = t at *
                    have HKP := hide (unhide HR4).kp
                    by_cases n0 : t < 0
                    · have HX := hide (not_whole_at hil (unhide HP) (unhide HM) (fun h => by have := h.1; omega))
                      go_wp2
                      go_ret2
                      exact ⟨0, 6, rfl, .inl ⟨unhide HX, rfl, rfl⟩, (unhide HKP).trans (Kp.alloc _ _)⟩
                    · by_cases n1 : (gs.length : Int) ≤ t
                      · have HX := hide (not_whole_at hil (unhide HP) (unhide HM) (fun h => by have := h.2; omega))
                        go_wp2
                        go_ret2
                        exact ⟨0, 6, rfl, .inl ⟨unhide HX, rfl, rfl⟩, (unhide HKP).trans (Kp.alloc _ _)⟩
                      · obtain ⟨tN, rfl⟩ : ∃ tN : Nat, t = (tN : Int) := ⟨t.toNat, by omega⟩
                        have htN : tN < gs.length := by omega
                        obtain ⟨W7, hW7, x7, k7⟩ := bx7_in wr (.int .i64 16) (.slice a1 q1 c1) (.slice a2 q2 c2) (.int .i64 (tN : Int)) (.slice a4 q4 c4') (.slice a5 q5 c5) (.slice a6 q6 c6)
                        have HR7 := hide ((unhide HR4).grow k7)
                        obtain ⟨xn, cn, fn⟩ := (unhide HR7).nextCell htN
                        rw [hW7] at cn fn
                        have HR8 := hide ((unhide HR7).setNext htN)
                        rw [← unhide HT, hW7] at HR8
                        clear hW7 x7 k7 HR7
                        go_wp2
                        go_roundw
                        case rel => exact ⟨kk + 1, true, by omega, by go_num, rfl, unhide HR8⟩
                        case measure => simp [intOf]; omega
                  · have h16b : ((ns.getD kk ndnil).op != 16) = true := bne_iff_ne.2 h16
                    have HT := hide (callsL_no hkl h16)
                    generalize (ns.getD kk ndnil).op = o at *
                    go_wp2
                    go_roundw
                    case rel => exact ⟨kk + 1, sc, by omega, by go_num, rfl, by unfold Hid; rw [unhide HT]; exact (unhide HR4).grow (Kp.alloc _ _)⟩
                    case measure => simp [intOf]; omega
                · obtain rfl : kk = ns.length := by omega
                  have HR5 : Hid (Row gs (gN : Int) w wr A C B d (i + 1) (i + 1) [] sc) := by
                    have h := unhide HR4
                    rw [List.take_length, unhide HNE] at h
                    exact h.done hil (unhide HP)
                  go_wp2
                  go_roundw
                  case rel => exact ⟨i + 1, sc, by omega, by go_num, rfl, unhide HR5⟩
                  case measure => simp [intOf]; omega
        · obtain rfl : i = gs.length := by omega
          cases db with
          | true =>
            have HN := hide ((unhide HR).dps (b' := true) (unhide HDB) (unhide HDC) rfl)
            go_wp2
            go_roundw
            case rel => exact ⟨d + 1, B, true, by omega, by go_num, rfl, rfl, unhide HN⟩
            case measure => simp [intOf]; omega
          | false =>
            cases sb with
            | false =>
              have HN := hide ((unhide HR).dps (b' := false) (unhide HDB) (unhide HDC) rfl)
              go_wp2
              go_roundw
              case rel => exact ⟨d + 1, B, false, by omega, by go_num, rfl, rfl, unhide HN⟩
              case measure => simp [intOf]; omega
            | true =>
              by_cases h8 : 8 ≤ d
              · have h8I : (8 : Int) ≤ (d : Int) := by omega
                have HN := hide ((unhide HR).dps (b' := true) (unhide HDB) (unhide HDC) (by rw [decide_eq_true h8]; rfl))
                go_wp2
                go_roundw
                case rel => exact ⟨d + 1, B, true, by omega, by go_num, rfl, rfl, unhide HN⟩
                case measure => simp [intOf]; omega
              · have h8I : ¬ (8 : Int) ≤ (d : Int) := by omega
                have h8D : decide ((8 : Int) ≤ (d : Int)) = false := decide_eq_false h8I
                have HN := hide ((unhide HR).dps (b' := false) (unhide HDB) (unhide HDC) (by rw [decide_eq_false h8]; rfl))
                go_wp2
                go_roundw
                case rel => exact ⟨d + 1, B, false, by omega, by go_num, rfl, rfl, unhide HN⟩
                case measure => simp [intOf]; omega
    · obtain rfl : d = gs.length + 10 := by omega
      have hdI : ¬ ((gs.length + 10 : Nat) : Int) ≤ (gs.length : Int) + 8 + 1 := by omega
      have hDP := (unhide HD).deep.trans (deeper_iff (by omega))
      have HW : Hid (WholeP gs (gN : Int)) := clean_whole hgN (fun d hd => (unhide HD).clean d (by omega))
      cases db with
      | true =>
        have HX := hide (hDP.1 rfl)
        have HK := hide (unhide HD).kp
        clear hDP HD
        go_wp2
        go_ret2
        exact ⟨0, 9, rfl, .inr (.inl ⟨unhide HW, unhide HX, rfl, rfl⟩), unhide HK⟩
      | false =>
        have HX : Hid (¬ DeepP gs (gN : Int)) := fun h => by cases hDP.2 h
        have HC := hide (unhide HD).cnt
        clear hDP HD
        generalize hM0 : wr.heap.size = M0 at *
        go_wp2
        generalize World.alloc wr _ = w2 at *
        clear hM0
        go_loopw [16, 15] (fun i v wr => ∃ (d M : Nat), d ≤ 10 ∧ i = .int .i64 d ∧ v = .slice (some ⟨M, 0, none⟩) gs.length gs.length ∧ Hid (Cnt gs (gN : Int) w wr C M d)) (fun i _ _ => 10 - (intOf i).toNat)
        case atStart => exact ⟨0, M0, by omega, rfl, rfl, unhide HC⟩
        case round =>
          clear HC
          obtain ⟨d, M, hd, rfl, rfl, HC⟩ := hrel
          by_cases hdl : d ≤ 9
          · have hdI : (d : Int) ≤ 9 := by omega
            have HR := hide (unhide HC).row
            generalize hB : wr.heap.size = N at *
            go_wp2
            generalize World.alloc wr _ = w3 at *
            clear HC hB
            go_loopw [18] (fun i wr => ∃ i0 : Nat, i0 ≤ gs.length ∧ i = .int .i64 i0 ∧ Hid (CRow gs (gN : Int) w wr C M N d i0 0)) (fun i _ => gs.length - (intOf i).toNat)
            case atStart => exact ⟨0, Nat.zero_le _, rfl, unhide HR⟩
            case round =>
              obtain ⟨i, hi, rfl, HR⟩ := hrel
              by_cases hil : i < gs.length
              · have hiI : (i : Int) < (gs.length : Int) := by omega
                obtain ⟨b, off, a', c', rfl, hb, cg0, hnd⟩ := (unhide HG).one (Kp.refl w) hil
                have hnr := hnd.room
                have HNS : Hid (∃ ns, ns = gs.getD i []) := ⟨_, rfl⟩
                obtain ⟨ns, hns⟩ := unhide HNS
                rw [← hns] at cg0 hnd hnr
                have HNE := hide hns
                have HNd := hide hnd
                have HCG := hide cg0
                clear hnd cg0 hb HNS hns
                obtain ⟨z, _, hz⟩ := (unhide HR).allCell hil
                have HZ := hide hz
                clear hz
                have key : Hid (∀ (X : Nat) (wr : World), CRow gs (gN : Int) w wr C M N d i X → wr.cell? ⟨C, i, none⟩ = some (.bool z)) := fun X wr h => by
                  obtain ⟨x, h1, h2⟩ := h.allCell hil
                  have : x = z := Bool.eq_iff_iff.2 (h2.trans (unhide HZ).symm)
                  rw [← this]
                  exact h1
                cases z with
                | false =>
                  have HRN : Hid (¬ Rchd gs (gN : Int) i) := fun h => by cases (unhide HZ).2 h
                  go_wp2
                  go_loopw [19] (fun k wr => k = .int .i64 0 ∧ Hid (CRow gs (gN : Int) w wr C M N d i 0)) (fun _ _ => 0)
                  case atStart => exact ⟨rfl, unhide HR⟩
                  case round =>
                    obtain ⟨rfl, HR4⟩ := hrel
                    have c4 := unhide key _ _ (unhide HR4)
                    have HR5 := hide ((unhide HR4).done hil (Nat.zero_le _) (fun h => absurd h (unhide HRN)))
                    go_wp2
                    go_roundw
                    case rel => exact ⟨i + 1, by omega, by go_num, unhide HR5⟩
                    case measure => simp [intOf]; omega
                | true =>
                  have HRC := hide ((unhide HZ).1 rfl)
                  have HIN : Hid (∀ t ∈ callsL ns, inRg gs t ∧ Rchd gs (gN : Int) t.toNat) := fun t ht => by
                    rw [unhide HNE] at ht
                    have h1 : inRg gs t := by
                      obtain ⟨d', _, hp⟩ := unhide HRC
                      exact Classical.byContradiction fun hn => not_whole_at hil hp ht hn (unhide HW)
                    refine ⟨h1, rchd_next hgN hil (unhide HRC) ?_⟩
                    have e : ((t.toNat : Nat) : Int) = t := by have := h1.1; omega
                    rw [e]
                    exact ht
                  have HWK : Hid (wk gs (i : Int) (d + 1) = ns.length + sumD gs d (callsL ns)) := by
                    have h := wk_sum hil (fun t ht => (unhide HIN t (by rw [unhide HNE]; exact ht)).1) d
                    rw [← unhide HNE] at h
                    exact h
                  go_wp2
                  go_loopw [19] (fun k wr => ∃ kk X : Nat, kk ≤ ns.length ∧ k = .int .i64 kk ∧ X ≤ 1048576 + kk ∧ Hid (sat X = sat (kk + sumD gs d (callsL (ns.take kk)))) ∧ Hid (CRow gs (gN : Int) w wr C M N d i X)) (fun k _ => ns.length - (intOf k).toNat)
                  case atStart => exact ⟨0, 0, Nat.zero_le _, rfl, by omega, rfl, unhide HR⟩
                  case round =>
                    obtain ⟨kk, X, hkk, rfl, hX, HS, HR4⟩ := hrel
                    have c4 := unhide key _ _ (unhide HR4)
                    have cg := (unhide HR4).kp.cellT (unhide HCG)
                    by_cases hkl : kk < ns.length
                    · have hkI : (kk : Int) < (ns.length : Int) := by omega
                      obtain ⟨n1, n2⟩ := (unhide HR4).nextCell hil
                      have HRS : Hid (CRow gs (gN : Int) w (wr.setCell ⟨N, i, none⟩ (.int .i64 ((X : Int) + 1))) C M N d i (X + 1)) := (unhide HR4).set hil (X + 1)
                      have cgS := (unhide HRS).kp.cellT (unhide HCG)
                      obtain ⟨m1, m2⟩ := (unhide HRS).nextCell hil
                      obtain ⟨b2, off2, rfl, hb2, hnd⟩ := (unhide HNd).one (unhide HRS).kp hkl
                      have x0 := hnd.op
                      have x3 := hnd.no
                      clear hnd
                      have eX : ((X + 1 : Nat) : Int) = (X : Int) + 1 := by omega
                      rw [eX] at m1
                      by_cases h16 : (ns.getD kk ndnil).op = 16
                      · rw [h16] at x0
                        have HT := hide (callsL_yes hkl h16)
                        have hmem : (ns.getD kk ndnil).no ∈ callsL ns := by
                          have h1 : callsL ns = callsL (ns.take (kk + 1)) ++ callsL (ns.drop (kk + 1)) := by rw [← callsL_append, List.take_append_drop]
                          rw [h1, callsL_yes hkl h16]
                          simp
                        obtain ⟨hin, hrt⟩ := unhide HIN _ hmem
                        obtain ⟨hin1, hin2⟩ := hin
                        clear hmem h16
                        generalize (ns.getD kk ndnil).no = t at *
                        obtain ⟨tN, rfl⟩ : ∃ tN : Nat, t = (tN : Int) := ⟨t.toNat, by omega⟩
                        have htN : tN < gs.length := by omega
                        obtain ⟨y, y1, y2, y3⟩ := (unhide HRS).manyCell htN
                        have HY := hide (y3 (by simpa using hrt))
                        have HS2 : Hid (sat (min (X + 1 + y) 1048576) = sat (kk + 1 + sumD gs d (callsL (ns.take (kk + 1))))) := by
                          have h1 := sat_capped (sat_one (unhide HS) 1) (unhide HY)
                          show sat (min (X + 1 + y) 1048576) = _
                          rw [h1, unhide HT, sumD_append]
                          congr 1
                          omega
                        have HRZ := hide (((unhide HRS).set hil (min (X + 1 + y) 1048576)).grow (Kp.drew _))
                        have hmin : min (X + 1 + y) 1048576 ≤ 1048576 := Nat.min_le_right _ _
                        clear y3 hrt
                        go_wp2_with fail
                        go_region
                        have eM : (if (1048576 : Int) < (X : Int) + 1 + (y : Int) then (1048576 : Int) else (X : Int) + 1 + (y : Int)) = ((min (X + 1 + y) 1048576 : Nat) : Int) := by split <;> omega
                        rw [eM]
                        generalize World.drew _ = w7 at *
                        clear y1 m1 m2 n1 n2 x0 x3 cgS
                        go_wp2_with fail
                        go_roundw
                        case rel => exact ⟨kk + 1, min (X + 1 + y) 1048576, by omega, by go_num, by omega, unhide HS2, unhide HRZ⟩
                        case measure => simp [intOf]; omega
                      · have h16b : ((ns.getD kk ndnil).op == 16) = false := beq_eq_false_iff_ne.2 h16
                        have HT := hide (callsL_no hkl h16)
                        have HS2 : Hid (sat (X + 1) = sat (kk + 1 + sumD gs d (callsL (ns.take (kk + 1))))) := by
                          have h1 := sat_one (unhide HS) 1
                          show sat (X + 1) = _
                          rw [h1, unhide HT]
                          congr 1
                          omega
                        generalize (ns.getD kk ndnil).op = o at *
                        go_wp2
                        go_roundw
                        case rel => exact ⟨kk + 1, X + 1, by omega, by go_num, by omega, unhide HS2, unhide HRS⟩
                        case measure => simp [intOf]; omega
                    · obtain rfl : kk = ns.length := by omega
                      have HR5 : Hid (CRow gs (gN : Int) w wr C M N d (i + 1) 0) := (unhide HR4).done hil (by omega) (fun _ => by
                        have h := unhide HS
                        rw [List.take_length] at h
                        rw [h, unhide HWK])
                      go_wp2
                      go_roundw
                      case rel => exact ⟨i + 1, by omega, by go_num, unhide HR5⟩
                      case measure => simp [intOf]; omega
              · obtain rfl : i = gs.length := by omega
                have HN := hide (unhide HR).cnt
                go_wp2
                go_roundw
                case rel => exact ⟨d + 1, N, by omega, by go_num, rfl, unhide HN⟩
                case measure => simp [intOf]; omega
          · obtain rfl : d = 10 := by omega
            obtain ⟨y, y1, _, y3⟩ := (unhide HC).manyCell hgN
            have hE := work_end (unhide HW) (unhide HX) (y3 ⟨0, by omega, lv_self⟩)
            have HK := hide (unhide HC).kp
            by_cases h4 : 4096 < y
            · have h4I : (4096 : Int) < (y : Int) := by omega
              have HE := hide (hE.1 h4)
              clear hE y3
              go_wp2
              go_ret2
              exact ⟨0, 10, rfl, unhide HE, unhide HK⟩
            · have h4I : ¬ (4096 : Int) < (y : Int) := by omega
              have HE := hide (hE.2 h4)
              clear hE y3
              go_wp2
              go_ret2
              exact ⟨(y : Int), 0, rfl, unhide HE, unhide HK⟩

end Go.Proofs.Ytliddjpcbhdplaa
