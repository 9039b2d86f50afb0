/- Texts of the proof, one behind the other: RfAC, RfAD, RfAE. -/
import Derived.Test.YtjlfibhbfdckpaaDoorK05
import Derived.Test.YtjlfibhbfdckpaaDoorK21
import Derived.Test.YtjlfibhbfdckpaaDoorK25
import Derived.Deep.DeepCutAuto
/- The document's screen: sequence. -/
namespace Go.Proofs.YtjlfibhbfdckpaaDoor
open Go.RowKit
attribute [local go_sem ↓] Go.wp_at_zero Go.wp_at_succ
set_option maxRecDepth 100000 in
set_option maxHeartbeats 4000000 in
theorem seqR2 (bs bc g cap N : Nat) (s : Rs) (b : ByteArray) (l : List Int) (w : World) (h : RefAt w bs bc g cap N s) (ok : s.Ok) (hb : b.size ≤ 100000000000) (hl : nums b = some l) (h8 : l.length ≤ 8) (q1 : l.getD 1 0 ≠ 0) (q2 : (s.H : Int) < l.getD 1 0) :
    Calls Tryd.prog 58 #[.pointer (some ⟨bs, 0, none⟩), .string b, .int .u8 114] w (RPost bs bc g w (doneR s l 114) (.tuple #[])) := by
  have Hl : Hid (nums b = some l) := hl
  have Q1 : Hid (l.getD 1 0 ≠ 0) := q1
  have Q2 : Hid ((s.H : Int) < l.getD 1 0) := q2
  clear q1 q2
  have HD : Hid (doneR s l 114 = marginsR s (one1 (l.getD 0 0)) (l.getD 1 0)) := by
    show doneR s l 114 = marginsR s (one1 (l.getD 0 0)) (l.getD 1 0)
    simp [doneR]
  have Hok : Hid s.Ok := ok
  clear hl
  go_enter Tryd.func58, Tryd.ntmps58
  go_wp2_with fail
  go_at_call 74
  refine (refNumbers b _ hb).mono ?_
  rintro e w1 ⟨B1, hN⟩
  rw [Hl.out] at hN
  obtain ⟨v, rfl, hr, hsm⟩ := hN
  obtain ⟨q, hq⟩ : ∃ q, l.length = q := ⟨_, rfl⟩
  have hd8 : decide (l.length ≤ 8) = true := by simpa using h8
  rw [hd8]
  rw [hq] at hr
  obtain ⟨av, vc, rfl⟩ : ∃ av vc, v = .slice av q vc := by
    rcases hr.2 with ⟨rfl, h0⟩ | ⟨g', cap', cur, rfl, _⟩
    · exact ⟨none, 0, by rw [h0]⟩
    · exact ⟨_, _, rfl⟩
  have HR1 : Hid (RefAt w1 bs bc g cap N s) := h.below B1
  have K1 : Keep (fun i => i = bs ∨ i = bc ∨ i = g) w w1 := Keep.below _ B1
  have Hq : Hid (l.length = q) := hq
  have q8 : q ≤ 8 := by omega
  have key : ∀ i, i < q → ∃ g', av = some ⟨g', 0, none⟩ ∧ w1.cell? ⟨g', i, none⟩ = some (.int .i64 (l.getD i 0)) := by
    intro i hi
    obtain ⟨g', cap', e⟩ := row_slice hr (by omega)
    cases e
    exact ⟨g', rfl, irow_cell hr i (by omega)⟩
  have Key : Hid (∀ i, i < q → ∃ g', av = some ⟨g', 0, none⟩ ∧ w1.cell? ⟨g', i, none⟩ = some (.int .i64 (l.getD i 0))) := key
  have HRow : Hid (w1.ownsRow w.heap.size 3 1 (.slice av q vc) q (ivals l)) := hr
  have f0 : 0 ≤ l.getD 0 0 ∧ l.getD 0 0 ≤ 9999 := hsm 0
  have f1 : 0 ≤ l.getD 1 0 ∧ l.getD 1 0 ≤ 9999 := hsm 1
  clear key hr hsm hq hd8 h8 B1 h ok
  go_upto_if 31 with fail
  go_cut [8] (fun a wc => a = .int .i64 (l.getD 0 0) ∧ wc = w1)
  case first =>
    by_cases h1 : 0 < q
    · obtain ⟨g', rfl, c0⟩ := Key.out 0 h1
      have h1' : (0 : Int) < q := by omega
      go_wp2_with fail
      go_meet
      case rel => exact ⟨rfl, rfl⟩
    · have h1' : (q : Int) ≤ 0 := by omega
      have e0 : l.getD 0 0 = 0 := by
        rw [List.getD_eq_getElem?_getD, List.getElem?_eq_none (by have := Hq.out; omega)]; rfl
      have E0 : Hid (l.getD 0 0 = 0) := e0
      clear e0
      go_wp2_with fail
      go_meet
      case rel => exact ⟨by rw [E0.out], rfl⟩
  case rest =>
    obtain ⟨rfl, hwc⟩ := hcut
    replace hwc := hwc.symm
    subst hwc
    go_upto_if 37 with fail
    go_cut [9] (fun a wc => a = .int .i64 (l.getD 1 0) ∧ wc = w1)
    case first =>
      by_cases h1 : 1 < q
      · obtain ⟨g', rfl, c0⟩ := Key.out 1 h1
        have h1' : (1 : Int) < q := by omega
        go_wp2_with fail
        go_meet
        case rel => exact ⟨rfl, rfl⟩
      · have h1' : (q : Int) ≤ 1 := by omega
        have e0 : l.getD 1 0 = 0 := by
          rw [List.getD_eq_getElem?_getD, List.getElem?_eq_none (by have := Hq.out; omega)]; rfl
        exact absurd e0 Q1.out
    case rest =>
      obtain ⟨rfl, hwc⟩ := hcut
      replace hwc := hwc.symm
      subst hwc
      generalize hfe : l.getD 0 0 = first at *
      have Hfe : Hid (l.getD 0 0 = first) := hfe
      generalize hse : l.getD 1 0 = second at *
      have Hse : Hid (l.getD 1 0 = second) := hse
      clear hfe hse
      obtain ⟨f00, f01⟩ := f0
      obtain ⟨f10, f11⟩ := f1
      go_upto_if 43 with fail
      go_cut [10] (fun a wc => a = .int .i64 (one1 first) ∧ wc = w1)
      case first =>
        by_cases h1 : first = 0
        · subst h1
          go_wp2_with fail
          go_meet
          case rel => exact ⟨rfl, rfl⟩
        · have h1' : (first == 0) = false := by simpa using h1
          have E1 : Hid (one1 first = first) := by show one1 first = first; unfold one1; exact if_neg h1
          clear h1
          go_wp2_with fail
          go_meet
          case rel => exact ⟨by rw [E1.out], rfl⟩
      case rest =>
        obtain ⟨rfl, hwc⟩ := hcut
        replace hwc := hwc.symm
        subst hwc
        have n0 : 1 ≤ one1 first := by unfold one1; split <;> omega
        have n1 : one1 first ≤ 9999 := by unfold one1; split <;> omega
        generalize hne : one1 first = n at *
        have Hne : Hid (one1 first = n) := hne
        clear hne
        have f3 := HR1.out.f3
        have f4 := HR1.out.f4
        go_wp2_with fail
        go_at_call 75
        refine (refBack bs bc g cap N s _ HR1.out).mono ?_
        rintro e w2 ⟨rfl, hb2⟩
        have HR2 : Hid (RefAt w2 bs bc g cap N s) := HR1.out.below hb2
        have K2 : Keep (fun i => i = bs ∨ i = bc ∨ i = g) w w2 := K1.thenBelow hb2
        clear hb2 HR1 K1
        have x0 := Hok.out.x0
        have x1 := Hok.out.x1
        have y0 := Hok.out.y0
        have y1 := Hok.out.y1
        have w40 := Hok.out.w2
        have h20 := Hok.out.h2
        have f2 := HR2.out.f2
        have f11 := HR2.out.f11
        have f12 := HR2.out.f12
        have fr := HR2.out.free
        have l2 := HR2.out.lt
        have h01 := Hok.out.h1
        obtain ⟨k, hk⟩ : ∃ k, lowR2 s.H second = k := ⟨_, rfl⟩
        have Hk : Hid (lowR2 s.H second = k) := hk
        clear hk
        have Hk : Hid (lowR2 s.H second = s.H) := by show lowR2 s.H second = s.H; unfold lowR2; exact if_pos (.inr Q2.out)
        have c1 : (second == 0) = false := by simpa using Q1.out
        have c2 : (s.H : Int) < second := Q2.out
        rcases (by omega : n < (s.H : Int) ∨ ((s.H : Int) ≤ n ∧ (s.H : Int) = 1 ∧ n = 1) ∨ ((s.H : Int) ≤ n ∧ (s.H : Int) = 1 ∧ n ≠ 1) ∨ ((s.H : Int) ≤ n ∧ (s.H : Int) ≠ 1)) with r1 | ⟨r1, r2, r3⟩ | ⟨r1, r2, r3⟩ | ⟨r1, r2⟩
        · have HM : Hid (marginsR s n second = goesR { s with top := n - 1, bot := (s.H : Int) - 1 } 0 0) := by
            show marginsR s n second = _
            unfold marginsR; rw [Hk.out]; exact if_pos (.inl r1)
          go_wp2_with fail
          have R3 := ((HR2.out.setTop (n - 1)).setBot ((s.H : Int) - 1)).below ((Below.refl _ _).alloc (Nat.le_refl _) (.cells #[.int .i64 (backR s).f, .int .i64 (backR s).b, .bool (backR s).bo, .bool (backR s).un, .bool (backR s).re] 44))
          have K3 := (((K2.setCell ⟨bs, 11, none⟩ (.int .i64 (n - 1)) (fun _ => .inl rfl)).setCell ⟨bs, 12, none⟩ (.int .i64 ((s.H : Int) - 1)) (fun _ => .inl rfl)).alloc (.cells #[.int .i64 (backR s).f, .int .i64 (backR s).b, .bool (backR s).bo, .bool (backR s).un, .bool (backR s).re] 44))
          go_at_call 35
          refine (refGoes bs bc g cap N { s with top := n - 1, bot := (s.H : Int) - 1 } 0 0 _ R3).mono ?_
          rintro e w5 ⟨rfl, R5, K5⟩
          have K6 : Keep (fun i => i = bs ∨ i = bc ∨ i = g) w w5 := K3.trans K5 (fun i _ hi => .inl hi)
          have R9 : RefAt w5 bs bc g cap N (doneR s l 114) := by rw [HD.out, HM.out]; exact R5
          clear R3 K3 K5 R5 K2 HR2
          go_wp2_with fail
          go_end0
          exact rpost R9 K6 (.inl rfl)
        · have HM : Hid (marginsR s n second = goesR { s with top := n - 1, bot := (s.H : Int) - 1 } 0 0) := by
            show marginsR s n second = _
            unfold marginsR; rw [Hk.out]; exact if_pos (.inr (by omega))
          have b2 : ((s.H : Int) == 1) = true := by simpa using r2
          have b3 : (n == 1) = true := by simpa using r3
          clear r2 r3
          go_wp2_with fail
          have R3 := ((HR2.out.setTop (n - 1)).setBot ((s.H : Int) - 1)).below ((Below.refl _ _).alloc (Nat.le_refl _) (.cells #[.int .i64 (backR s).f, .int .i64 (backR s).b, .bool (backR s).bo, .bool (backR s).un, .bool (backR s).re] 44))
          have K3 := (((K2.setCell ⟨bs, 11, none⟩ (.int .i64 (n - 1)) (fun _ => .inl rfl)).setCell ⟨bs, 12, none⟩ (.int .i64 ((s.H : Int) - 1)) (fun _ => .inl rfl)).alloc (.cells #[.int .i64 (backR s).f, .int .i64 (backR s).b, .bool (backR s).bo, .bool (backR s).un, .bool (backR s).re] 44))
          go_at_call 35
          refine (refGoes bs bc g cap N { s with top := n - 1, bot := (s.H : Int) - 1 } 0 0 _ R3).mono ?_
          rintro e w5 ⟨rfl, R5, K5⟩
          have K6 : Keep (fun i => i = bs ∨ i = bc ∨ i = g) w w5 := K3.trans K5 (fun i _ hi => .inl hi)
          have R9 : RefAt w5 bs bc g cap N (doneR s l 114) := by rw [HD.out, HM.out]; exact R5
          clear R3 K3 K5 R5 K2 HR2
          go_wp2_with fail
          go_end0
          exact rpost R9 K6 (.inl rfl)
        · have HM : Hid (marginsR s n second = s) := by
            show marginsR s n second = _
            unfold marginsR; rw [Hk.out]; exact if_neg (by omega)
          have b2 : ((s.H : Int) == 1) = true := by simpa using r2
          have b3 : (n == 1) = false := by simpa using r3
          clear r2 r3
          go_wp2_with fail
          go_end0
          have R9 : RefAt (w2.alloc (.cells #[.int .i64 (backR s).f, .int .i64 (backR s).b, .bool (backR s).bo, .bool (backR s).un, .bool (backR s).re] 44)) bs bc g cap N (doneR s l 114) := by rw [HD.out, HM.out]; exact HR2.out.below ((Below.refl _ _).alloc (Nat.le_refl _) _)
          exact rpost R9 (K2.alloc _) (.inl rfl)
        · have HM : Hid (marginsR s n second = s) := by
            show marginsR s n second = _
            unfold marginsR; rw [Hk.out]; exact if_neg (by omega)
          have b2 : ((s.H : Int) == 1) = false := by simpa using r2
          clear r2
          go_wp2_with fail
          go_end0
          have R9 : RefAt (w2.alloc (.cells #[.int .i64 (backR s).f, .int .i64 (backR s).b, .bool (backR s).bo, .bool (backR s).un, .bool (backR s).re] 44)) bs bc g cap N (doneR s l 114) := by rw [HD.out, HM.out]; exact HR2.out.below ((Below.refl _ _).alloc (Nat.le_refl _) _)
          exact rpost R9 (K2.alloc _) (.inl rfl)
end Go.Proofs.YtjlfibhbfdckpaaDoor

/- The document's screen: sequence. -/
namespace Go.Proofs.YtjlfibhbfdckpaaDoor
open Go.RowKit
attribute [local go_sem ↓] Go.wp_at_zero Go.wp_at_succ
set_option maxRecDepth 100000 in
set_option maxHeartbeats 4000000 in
theorem seqR3 (bs bc g cap N : Nat) (s : Rs) (b : ByteArray) (l : List Int) (w : World) (h : RefAt w bs bc g cap N s) (ok : s.Ok) (hb : b.size ≤ 100000000000) (hl : nums b = some l) (h8 : l.length ≤ 8) (q1 : l.getD 1 0 ≠ 0) (q2 : l.getD 1 0 ≤ s.H) :
    Calls Tryd.prog 58 #[.pointer (some ⟨bs, 0, none⟩), .string b, .int .u8 114] w (RPost bs bc g w (doneR s l 114) (.tuple #[])) := by
  have Hl : Hid (nums b = some l) := hl
  have Q1 : Hid (l.getD 1 0 ≠ 0) := q1
  have Q2 : Hid (l.getD 1 0 ≤ s.H) := q2
  clear q1 q2
  have HD : Hid (doneR s l 114 = marginsR s (one1 (l.getD 0 0)) (l.getD 1 0)) := by
    show doneR s l 114 = marginsR s (one1 (l.getD 0 0)) (l.getD 1 0)
    simp [doneR]
  have Hok : Hid s.Ok := ok
  clear hl
  go_enter Tryd.func58, Tryd.ntmps58
  go_wp2_with fail
  go_at_call 74
  refine (refNumbers b _ hb).mono ?_
  rintro e w1 ⟨B1, hN⟩
  rw [Hl.out] at hN
  obtain ⟨v, rfl, hr, hsm⟩ := hN
  obtain ⟨q, hq⟩ : ∃ q, l.length = q := ⟨_, rfl⟩
  have hd8 : decide (l.length ≤ 8) = true := by simpa using h8
  rw [hd8]
  rw [hq] at hr
  obtain ⟨av, vc, rfl⟩ : ∃ av vc, v = .slice av q vc := by
    rcases hr.2 with ⟨rfl, h0⟩ | ⟨g', cap', cur, rfl, _⟩
    · exact ⟨none, 0, by rw [h0]⟩
    · exact ⟨_, _, rfl⟩
  have HR1 : Hid (RefAt w1 bs bc g cap N s) := h.below B1
  have K1 : Keep (fun i => i = bs ∨ i = bc ∨ i = g) w w1 := Keep.below _ B1
  have Hq : Hid (l.length = q) := hq
  have q8 : q ≤ 8 := by omega
  have key : ∀ i, i < q → ∃ g', av = some ⟨g', 0, none⟩ ∧ w1.cell? ⟨g', i, none⟩ = some (.int .i64 (l.getD i 0)) := by
    intro i hi
    obtain ⟨g', cap', e⟩ := row_slice hr (by omega)
    cases e
    exact ⟨g', rfl, irow_cell hr i (by omega)⟩
  have Key : Hid (∀ i, i < q → ∃ g', av = some ⟨g', 0, none⟩ ∧ w1.cell? ⟨g', i, none⟩ = some (.int .i64 (l.getD i 0))) := key
  have HRow : Hid (w1.ownsRow w.heap.size 3 1 (.slice av q vc) q (ivals l)) := hr
  have f0 : 0 ≤ l.getD 0 0 ∧ l.getD 0 0 ≤ 9999 := hsm 0
  have f1 : 0 ≤ l.getD 1 0 ∧ l.getD 1 0 ≤ 9999 := hsm 1
  clear key hr hsm hq hd8 h8 B1 h ok
  go_upto_if 31 with fail
  go_cut [8] (fun a wc => a = .int .i64 (l.getD 0 0) ∧ wc = w1)
  case first =>
    by_cases h1 : 0 < q
    · obtain ⟨g', rfl, c0⟩ := Key.out 0 h1
      have h1' : (0 : Int) < q := by omega
      go_wp2_with fail
      go_meet
      case rel => exact ⟨rfl, rfl⟩
    · have h1' : (q : Int) ≤ 0 := by omega
      have e0 : l.getD 0 0 = 0 := by
        rw [List.getD_eq_getElem?_getD, List.getElem?_eq_none (by have := Hq.out; omega)]; rfl
      have E0 : Hid (l.getD 0 0 = 0) := e0
      clear e0
      go_wp2_with fail
      go_meet
      case rel => exact ⟨by rw [E0.out], rfl⟩
  case rest =>
    obtain ⟨rfl, hwc⟩ := hcut
    replace hwc := hwc.symm
    subst hwc
    go_upto_if 37 with fail
    go_cut [9] (fun a wc => a = .int .i64 (l.getD 1 0) ∧ wc = w1)
    case first =>
      by_cases h1 : 1 < q
      · obtain ⟨g', rfl, c0⟩ := Key.out 1 h1
        have h1' : (1 : Int) < q := by omega
        go_wp2_with fail
        go_meet
        case rel => exact ⟨rfl, rfl⟩
      · have h1' : (q : Int) ≤ 1 := by omega
        have e0 : l.getD 1 0 = 0 := by
          rw [List.getD_eq_getElem?_getD, List.getElem?_eq_none (by have := Hq.out; omega)]; rfl
        exact absurd e0 Q1.out
    case rest =>
      obtain ⟨rfl, hwc⟩ := hcut
      replace hwc := hwc.symm
      subst hwc
      generalize hfe : l.getD 0 0 = first at *
      have Hfe : Hid (l.getD 0 0 = first) := hfe
      generalize hse : l.getD 1 0 = second at *
      have Hse : Hid (l.getD 1 0 = second) := hse
      clear hfe hse
      obtain ⟨f00, f01⟩ := f0
      obtain ⟨f10, f11⟩ := f1
      go_upto_if 43 with fail
      go_cut [10] (fun a wc => a = .int .i64 (one1 first) ∧ wc = w1)
      case first =>
        by_cases h1 : first = 0
        · subst h1
          go_wp2_with fail
          go_meet
          case rel => exact ⟨rfl, rfl⟩
        · have h1' : (first == 0) = false := by simpa using h1
          have E1 : Hid (one1 first = first) := by show one1 first = first; unfold one1; exact if_neg h1
          clear h1
          go_wp2_with fail
          go_meet
          case rel => exact ⟨by rw [E1.out], rfl⟩
      case rest =>
        obtain ⟨rfl, hwc⟩ := hcut
        replace hwc := hwc.symm
        subst hwc
        have n0 : 1 ≤ one1 first := by unfold one1; split <;> omega
        have n1 : one1 first ≤ 9999 := by unfold one1; split <;> omega
        generalize hne : one1 first = n at *
        have Hne : Hid (one1 first = n) := hne
        clear hne
        have f3 := HR1.out.f3
        have f4 := HR1.out.f4
        go_wp2_with fail
        go_at_call 75
        refine (refBack bs bc g cap N s _ HR1.out).mono ?_
        rintro e w2 ⟨rfl, hb2⟩
        have HR2 : Hid (RefAt w2 bs bc g cap N s) := HR1.out.below hb2
        have K2 : Keep (fun i => i = bs ∨ i = bc ∨ i = g) w w2 := K1.thenBelow hb2
        clear hb2 HR1 K1
        have x0 := Hok.out.x0
        have x1 := Hok.out.x1
        have y0 := Hok.out.y0
        have y1 := Hok.out.y1
        have w40 := Hok.out.w2
        have h20 := Hok.out.h2
        have f2 := HR2.out.f2
        have f11 := HR2.out.f11
        have f12 := HR2.out.f12
        have fr := HR2.out.free
        have l2 := HR2.out.lt
        have h01 := Hok.out.h1
        obtain ⟨k, hk⟩ : ∃ k, lowR2 s.H second = k := ⟨_, rfl⟩
        have Hk : Hid (lowR2 s.H second = k) := hk
        clear hk
        have Hk : Hid (lowR2 s.H second = second) := by show lowR2 s.H second = second; unfold lowR2; exact if_neg (by have := Q1.out; have := Q2.out; omega)
        have c1 : (second == 0) = false := by simpa using Q1.out
        have c2 : second ≤ (s.H : Int) := Q2.out
        rcases (by omega : n < second ∨ (second ≤ n ∧ (s.H : Int) = 1 ∧ n = 1) ∨ (second ≤ n ∧ (s.H : Int) = 1 ∧ n ≠ 1) ∨ (second ≤ n ∧ (s.H : Int) ≠ 1)) with r1 | ⟨r1, r2, r3⟩ | ⟨r1, r2, r3⟩ | ⟨r1, r2⟩
        · have HM : Hid (marginsR s n second = goesR { s with top := n - 1, bot := second - 1 } 0 0) := by
            show marginsR s n second = _
            unfold marginsR; rw [Hk.out]; exact if_pos (.inl r1)
          go_wp2_with fail
          have R3 := ((HR2.out.setTop (n - 1)).setBot (second - 1)).below ((Below.refl _ _).alloc (Nat.le_refl _) (.cells #[.int .i64 (backR s).f, .int .i64 (backR s).b, .bool (backR s).bo, .bool (backR s).un, .bool (backR s).re] 44))
          have K3 := (((K2.setCell ⟨bs, 11, none⟩ (.int .i64 (n - 1)) (fun _ => .inl rfl)).setCell ⟨bs, 12, none⟩ (.int .i64 (second - 1)) (fun _ => .inl rfl)).alloc (.cells #[.int .i64 (backR s).f, .int .i64 (backR s).b, .bool (backR s).bo, .bool (backR s).un, .bool (backR s).re] 44))
          go_at_call 35
          refine (refGoes bs bc g cap N { s with top := n - 1, bot := second - 1 } 0 0 _ R3).mono ?_
          rintro e w5 ⟨rfl, R5, K5⟩
          have K6 : Keep (fun i => i = bs ∨ i = bc ∨ i = g) w w5 := K3.trans K5 (fun i _ hi => .inl hi)
          have R9 : RefAt w5 bs bc g cap N (doneR s l 114) := by rw [HD.out, HM.out]; exact R5
          clear R3 K3 K5 R5 K2 HR2
          go_wp2_with fail
          go_end0
          exact rpost R9 K6 (.inl rfl)
        · have HM : Hid (marginsR s n second = goesR { s with top := n - 1, bot := second - 1 } 0 0) := by
            show marginsR s n second = _
            unfold marginsR; rw [Hk.out]; exact if_pos (.inr (by omega))
          have b2 : ((s.H : Int) == 1) = true := by simpa using r2
          have b3 : (n == 1) = true := by simpa using r3
          clear r2 r3
          go_wp2_with fail
          have R3 := ((HR2.out.setTop (n - 1)).setBot (second - 1)).below ((Below.refl _ _).alloc (Nat.le_refl _) (.cells #[.int .i64 (backR s).f, .int .i64 (backR s).b, .bool (backR s).bo, .bool (backR s).un, .bool (backR s).re] 44))
          have K3 := (((K2.setCell ⟨bs, 11, none⟩ (.int .i64 (n - 1)) (fun _ => .inl rfl)).setCell ⟨bs, 12, none⟩ (.int .i64 (second - 1)) (fun _ => .inl rfl)).alloc (.cells #[.int .i64 (backR s).f, .int .i64 (backR s).b, .bool (backR s).bo, .bool (backR s).un, .bool (backR s).re] 44))
          go_at_call 35
          refine (refGoes bs bc g cap N { s with top := n - 1, bot := second - 1 } 0 0 _ R3).mono ?_
          rintro e w5 ⟨rfl, R5, K5⟩
          have K6 : Keep (fun i => i = bs ∨ i = bc ∨ i = g) w w5 := K3.trans K5 (fun i _ hi => .inl hi)
          have R9 : RefAt w5 bs bc g cap N (doneR s l 114) := by rw [HD.out, HM.out]; exact R5
          clear R3 K3 K5 R5 K2 HR2
          go_wp2_with fail
          go_end0
          exact rpost R9 K6 (.inl rfl)
        · have HM : Hid (marginsR s n second = s) := by
            show marginsR s n second = _
            unfold marginsR; rw [Hk.out]; exact if_neg (by omega)
          have b2 : ((s.H : Int) == 1) = true := by simpa using r2
          have b3 : (n == 1) = false := by simpa using r3
          clear r2 r3
          go_wp2_with fail
          go_end0
          have R9 : RefAt (w2.alloc (.cells #[.int .i64 (backR s).f, .int .i64 (backR s).b, .bool (backR s).bo, .bool (backR s).un, .bool (backR s).re] 44)) bs bc g cap N (doneR s l 114) := by rw [HD.out, HM.out]; exact HR2.out.below ((Below.refl _ _).alloc (Nat.le_refl _) _)
          exact rpost R9 (K2.alloc _) (.inl rfl)
        · have HM : Hid (marginsR s n second = s) := by
            show marginsR s n second = _
            unfold marginsR; rw [Hk.out]; exact if_neg (by omega)
          have b2 : ((s.H : Int) == 1) = false := by simpa using r2
          clear r2
          go_wp2_with fail
          go_end0
          have R9 : RefAt (w2.alloc (.cells #[.int .i64 (backR s).f, .int .i64 (backR s).b, .bool (backR s).bo, .bool (backR s).un, .bool (backR s).re] 44)) bs bc g cap N (doneR s l 114) := by rw [HD.out, HM.out]; exact HR2.out.below ((Below.refl _ _).alloc (Nat.le_refl _) _)
          exact rpost R9 (K2.alloc _) (.inl rfl)
end Go.Proofs.YtjlfibhbfdckpaaDoor

/- The document's screen: sequence. -/
namespace Go.Proofs.YtjlfibhbfdckpaaDoor
open Go.RowKit
attribute [local go_sem ↓] Go.wp_at_zero Go.wp_at_succ
set_option maxRecDepth 100000 in
set_option maxHeartbeats 4000000 in
theorem seqM (bs bc g cap N : Nat) (s : Rs) (b : ByteArray) (l : List Int) (w : World) (h : RefAt w bs bc g cap N s) (ok : s.Ok) (hb : b.size ≤ 100000000000) (hl : nums b = some l) (h8 : l.length ≤ 8) :
    Calls Tryd.prog 58 #[.pointer (some ⟨bs, 0, none⟩), .string b, .int .u8 109] w (RPost bs bc g w (doneR s l 109) (.tuple #[])) := by
  have Hl : Hid (nums b = some l) := hl
  have HD : Hid (doneR s l 109 = pensR s (begunL l)) := by
    show doneR s l 109 = pensR s (begunL l)
    simp [doneR]
  have bsl := h.lt
  have bcl := h.cels.lt
  have gl := h.cels.glt
  have Hok : Hid s.Ok := ok
  clear hl
  go_enter Tryd.func58, Tryd.ntmps58
  go_wp2_with fail
  go_at_call 74
  refine (refNumbers b _ hb).mono ?_
  rintro e w1 ⟨B1, hN⟩
  rw [Hl.out] at hN
  obtain ⟨v, rfl, hr, hsm⟩ := hN
  obtain ⟨q, hq⟩ : ∃ q, l.length = q := ⟨_, rfl⟩
  have hd8 : decide (l.length ≤ 8) = true := by simpa using h8
  rw [hd8]
  rw [hq] at hr
  obtain ⟨av, vc, rfl⟩ : ∃ av vc, v = .slice av q vc := by
    rcases hr.2 with ⟨rfl, h0⟩ | ⟨g', cap', cur, rfl, _⟩
    · exact ⟨none, 0, by rw [h0]⟩
    · exact ⟨_, _, rfl⟩
  have HR1 : Hid (RefAt w1 bs bc g cap N s) := h.below B1
  have K1 : Keep (fun i => i = bs ∨ i = bc ∨ i = g) w w1 := Keep.below _ B1
  have Hq : Hid (l.length = q) := hq
  have q8 : q ≤ 8 := by omega
  have key : ∀ i, i < q → ∃ g', av = some ⟨g', 0, none⟩ ∧ w1.cell? ⟨g', i, none⟩ = some (.int .i64 (l.getD i 0)) := by
    intro i hi
    obtain ⟨g', cap', e⟩ := row_slice hr (by omega)
    cases e
    exact ⟨g', rfl, irow_cell hr i (by omega)⟩
  have Key : Hid (∀ i, i < q → ∃ g', av = some ⟨g', 0, none⟩ ∧ w1.cell? ⟨g', i, none⟩ = some (.int .i64 (l.getD i 0))) := key
  have HRow : Hid (w1.ownsRow w.heap.size 3 1 (.slice av q vc) q (ivals l)) := hr
  have f0 : 0 ≤ l.getD 0 0 ∧ l.getD 0 0 ≤ 9999 := hsm 0
  have f1 : 0 ≤ l.getD 1 0 ∧ l.getD 1 0 ≤ 9999 := hsm 1
  clear key hr hsm hq hd8 h8 B1 h ok
  go_upto_if 31 with fail
  go_cut [8] (fun a wc => a = .int .i64 (l.getD 0 0) ∧ wc = w1)
  case first =>
    by_cases h1 : 0 < q
    · obtain ⟨g', rfl, c0⟩ := Key.out 0 h1
      have h1' : (0 : Int) < q := by omega
      go_wp2_with fail
      go_meet
      case rel => exact ⟨rfl, rfl⟩
    · have h1' : (q : Int) ≤ 0 := by omega
      have e0 : l.getD 0 0 = 0 := by
        rw [List.getD_eq_getElem?_getD, List.getElem?_eq_none (by have := Hq.out; omega)]; rfl
      have E0 : Hid (l.getD 0 0 = 0) := e0
      clear e0
      go_wp2_with fail
      go_meet
      case rel => exact ⟨by rw [E0.out], rfl⟩
  case rest =>
    obtain ⟨rfl, hwc⟩ := hcut
    replace hwc := hwc.symm
    subst hwc
    go_upto_if 37 with fail
    go_cut [9] (fun a wc => a = .int .i64 (l.getD 1 0) ∧ wc = w1)
    case first =>
      by_cases h1 : 1 < q
      · obtain ⟨g', rfl, c0⟩ := Key.out 1 h1
        have h1' : (1 : Int) < q := by omega
        go_wp2_with fail
        go_meet
        case rel => exact ⟨rfl, rfl⟩
      · have h1' : (q : Int) ≤ 1 := by omega
        have e0 : l.getD 1 0 = 0 := by
          rw [List.getD_eq_getElem?_getD, List.getElem?_eq_none (by have := Hq.out; omega)]; rfl
        have E0 : Hid (l.getD 1 0 = 0) := e0
        clear e0
        go_wp2_with fail
        go_meet
        case rel => exact ⟨by rw [E0.out], rfl⟩
    case rest =>
      obtain ⟨rfl, hwc⟩ := hcut
      replace hwc := hwc.symm
      subst hwc
      generalize hfe : l.getD 0 0 = first at *
      have Hfe : Hid (l.getD 0 0 = first) := hfe
      generalize hse : l.getD 1 0 = second at *
      have Hse : Hid (l.getD 1 0 = second) := hse
      clear hfe hse
      obtain ⟨f00, f01⟩ := f0
      obtain ⟨f10, f11⟩ := f1
      go_upto_if 43 with fail
      go_cut [10] (fun a wc => a = .int .i64 (one1 first) ∧ wc = w1)
      case first =>
        by_cases h1 : first = 0
        · subst h1
          go_wp2_with fail
          go_meet
          case rel => exact ⟨rfl, rfl⟩
        · have h1' : (first == 0) = false := by simpa using h1
          have E1 : Hid (one1 first = first) := by show one1 first = first; unfold one1; exact if_neg h1
          clear h1
          go_wp2_with fail
          go_meet
          case rel => exact ⟨by rw [E1.out], rfl⟩
      case rest =>
        obtain ⟨rfl, hwc⟩ := hcut
        replace hwc := hwc.symm
        subst hwc
        have n0 : 1 ≤ one1 first := by unfold one1; split <;> omega
        have n1 : one1 first ≤ 9999 := by unfold one1; split <;> omega
        generalize hne : one1 first = n at *
        have Hne : Hid (one1 first = n) := hne
        clear hne
        have f3 := HR1.out.f3
        have f4 := HR1.out.f4
        go_wp2_with fail
        go_at_call 75
        refine (refBack bs bc g cap N s _ HR1.out).mono ?_
        rintro e w2 ⟨rfl, hb2⟩
        have HR2 : Hid (RefAt w2 bs bc g cap N s) := HR1.out.below hb2
        have K2 : Keep (fun i => i = bs ∨ i = bc ∨ i = g) w w2 := K1.thenBelow hb2
        have HRow2 : Hid (w2.ownsRow w.heap.size 3 1 (.slice av q vc) q (ivals l)) := irow_same HRow.out (fun i hi => hb2.block _ (HRow.out.lt i hi).2)
        clear hb2 HR1 K1
        have x0 := Hok.out.x0
        have x1 := Hok.out.x1
        have y0 := Hok.out.y0
        have y1 := Hok.out.y1
        have w40 := Hok.out.w2
        have h20 := Hok.out.h2
        have R3 := HR2.out.below ((Below.refl _ _).alloc (Nat.le_refl _) (.cells #[.int .i64 (backR s).f, .int .i64 (backR s).b, .bool (backR s).bo, .bool (backR s).un, .bool (backR s).re] 44))
        have K3 := K2.alloc (.cells #[.int .i64 (backR s).f, .int .i64 (backR s).b, .bool (backR s).bo, .bool (backR s).un, .bool (backR s).re] 44)
        have HRow3 : Hid ((w2.alloc (.cells #[.int .i64 (backR s).f, .int .i64 (backR s).b, .bool (backR s).bo, .bool (backR s).un, .bool (backR s).re] 44)).ownsRow w.heap.size 3 1 (.slice av q vc) q (ivals l)) := irow_same HRow2.out (fun i hi => Below.heap_alloc _ _ _ (HRow2.out.lt i hi).2)
        have sz3 := K3.size
        have HR3 : Hid (RefAt (w2.alloc (.cells #[.int .i64 (backR s).f, .int .i64 (backR s).b, .bool (backR s).bo, .bool (backR s).un, .bool (backR s).re] 44)) bs bc g cap N s) := R3
        have HK3 : Hid (Keep (fun i => i = bs ∨ i = bc ∨ i = g) w (w2.alloc (.cells #[.int .i64 (backR s).f, .int .i64 (backR s).b, .bool (backR s).bo, .bool (backR s).un, .bool (backR s).re] 44))) := K3
        clear R3 K3 HRow2 HR2 K2 f3 f4
        by_cases hq0 : q = 0
        · have hl0 : l = [] := List.eq_nil_of_length_eq_zero (by rw [Hq.out]; exact hq0)
          subst hq0
          have HB : Hid (begunL l = [0]) := by show begunL l = [0]; rw [hl0]; rfl
          have HRow4 : Hid ((w2.alloc (.cells #[.int .i64 (backR s).f, .int .i64 (backR s).b, .bool (backR s).bo, .bool (backR s).un, .bool (backR s).re] 44)).ownsRow w.heap.size 3 1 (.slice av 0 vc) 0 (ivals [])) := by rw [hl0] at HRow3; exact HRow3
          clear hl0 HRow3
          go_wp2_with ((at_builtin; refine list_append_int _ (by rfl) (.tmp 218) (.tmp 219) (by rfl) w.heap.size (.slice av 0 vc) [] 0 0 rfl (by rfl) (irow_same HRow4.out (fun i hi => Below.heap_alloc _ _ _ (HRow4.out.lt i hi).2)) _ (by rfl) (heap_new' _ _ _ (by simp)) (by omega) (by simp at sz3 ⊢; omega) ?_; intro g7 cap7 w7 hr7 hg7 ho7 hl7))
          have r7 := (hr7.lt g7 rfl).1
          have nb : ∀ i, i < w.heap.size → some i ≠ (Value.slice av 0 vc).ownBlock := fun i hi e => by have := (HRow4.out.lt i e.symm).1; omega
          have hbk : ∀ i, i < w.heap.size → w7.heap[i]? = (w2.alloc (.cells #[.int .i64 (backR s).f, .int .i64 (backR s).b, .bool (backR s).bo, .bool (backR s).un, .bool (backR s).re] 44)).heap[i]? := fun i hi => (hg7.block i (by simp at sz3 ⊢; omega) (nb i hi)).trans (Below.heap_alloc _ _ _ (by simp at sz3 ⊢; omega))
          have R4 : RefAt w7 bs bc g cap N (pensR s (([0] : List Int).take 0)) := HR3.out.same (hbk _ bsl) (hbk _ bcl) (hbk _ gl)
          have K4 : Keep (fun i => i = bs ∨ i = bc ∨ i = g) w w7 := (HK3.out.alloc _).grown hg7 (fun i hi hi2 => absurd hi.symm (nb i hi2))
          have C4 : ∀ j, j < 1 → w7.cell? ⟨g7, j, none⟩ = some (.int .i64 (([0] : List Int).getD j 0)) := fun j hj => irow_cell hr7 j (by simpa using hj)
          have L4 := hl7
          have gne : g ≠ g7 := by omega
          clear hr7 hg7 ho7 nb hbk HRow4 HR3 HK3
          have Hlen : Hid (([0] : List Int).length = 1) := rfl
          generalize ([0] : List Int) = lb at *
          go_wp2_with fail
          go_loopw [14] (fun i w' => ∃ (k gc cc Nc : Nat), k ≤ 1 ∧ i = .int .i64 k ∧ RefAt w' bs bc gc cc Nc (pensR s (lb.take k)) ∧ Keep (fun i => i = bs ∨ i = bc ∨ i = g) w w' ∧ (gc = g ∨ w.heap.size ≤ gc) ∧ gc ≠ g7 ∧ g7 < w'.heap.size ∧ ∀ j, j < 1 → w'.cell? ⟨g7, j, none⟩ = some (.int .i64 (lb.getD j 0))) (fun i _ => 1 - (intOf i).toNat)
          case atStart => exact ⟨0, g, cap, N, by omega, rfl, R4, K4, .inl rfl, by omega, L4, C4⟩
          case round =>
            clear R4 K4 C4 L4
            obtain ⟨k, gc, cc, Nc, hk, rfl, hR, hK, hg, hne, hl4, hC⟩ := hrel
            have HR5 : Hid (RefAt wr bs bc gc cc Nc (pensR s (lb.take k))) := hR
            have HC5 : Hid (∀ j, j < 1 → wr.cell? ⟨g7, j, none⟩ = some (.int .i64 (lb.getD j 0))) := hC
            have Hg5 : Hid (gc = g ∨ w.heap.size ≤ gc) := hg
            clear hR hC hg
            by_cases hlt : k < 1
            · have c0 := HC5.out k hlt
              have hlt' : (k : Int) < (1 : Int) := by omega
              go_wp2_with fail
              go_at_call 79
              refine (refPen bs bc gc cc Nc (pensR s (lb.take k)) _ _ HR5.out).mono ?_
              rintro e w5 ⟨g5, cap5, N5, rfl, R5, K5, hg5⟩
              have e1 : penR (pensR s (lb.take k)) (lb.getD k 0) = pensR s (lb.take (k + 1)) := by
                have hkl : k < lb.length := by rw [Hlen.out]; exact hlt
                unfold penR pensR
                rw [List.take_succ_eq_append_getElem hkl, List.foldl_append]
                simp [hkl]
              have R6 : RefAt w5 bs bc g5 cap5 N5 (pensR s (lb.take (k + 1))) := by rw [← e1]; exact R5
              have K6 : Keep (fun i => i = bs ∨ i = bc ∨ i = g) w w5 := hK.trans K5 (fun i hi hj => by
                have := Hg5.out
                rcases hj with q1 | q1 | q1
                · exact .inl q1
                · exact .inr (.inl q1)
                · rcases this with q2 | q2
                  · exact .inr (.inr (q1.trans q2))
                  · omega)
              have hg6 : g5 = g ∨ w.heap.size ≤ g5 := by
                have := Hg5.out
                have := hK.size
                omega
              have hne6 : g5 ≠ g7 := by omega
              have hl6 : g7 < w5.heap.size := Nat.lt_of_lt_of_le hl4 K5.size
              have C6 : ∀ j, j < 1 → w5.cell? ⟨g7, j, none⟩ = some (.int .i64 (lb.getD j 0)) := fun j hj => by
                rw [keep_cells K5 hl4 (by omega) j]; exact HC5.out j hj
              have HC6 : Hid (∀ j, j < 1 → w5.cell? ⟨g7, j, none⟩ = some (.int .i64 (lb.getD j 0))) := C6
              have HG6 : Hid (g5 = g ∨ w.heap.size ≤ g5) := hg6
              have HR6 : Hid (RefAt w5 bs bc g5 cap5 N5 (pensR s (lb.take (k + 1)))) := R6
              clear R5 R6 C6 hg6 hg5 K5 e1 c0
              go_wp2_with fail
              go_roundw
              case rel => exact ⟨k + 1, g5, cap5, N5, by omega, by go_num, HR6.out, K6, HG6.out, hne6, hl6, HC6.out⟩
              case measure => simp [intOf]; omega
            · have hke : Hid (lb.take k = begunL l) := by
                show lb.take k = begunL l
                rw [HB.out]
                exact List.take_of_length_le (by rw [Hlen.out]; omega)
              go_wp2_with fail
              go_end0
              have R9 : RefAt wr bs bc gc cc Nc (doneR s l 109) := by rw [HD.out, ← hke.out]; exact HR5.out
              exact rpost R9 hK Hg5.out
        · have hqp : 0 < q := by omega
          have HB : Hid (begunL l = l) := by
            show begunL l = l
            unfold begunL
            exact if_neg (fun e => by rw [e] at Hq; have := Hq.out; simp at this; omega)
          obtain ⟨g7, cap7, hav⟩ := row_slice HRow3.out (by omega)
          simp only [Value.slice.injEq, true_and] at hav
          obtain ⟨rfl, rfl⟩ := hav
          have r7 := (HRow3.out.lt g7 rfl)
          have R4 : RefAt (w2.alloc (.cells #[.int .i64 (backR s).f, .int .i64 (backR s).b, .bool (backR s).bo, .bool (backR s).un, .bool (backR s).re] 44)) bs bc g cap N (pensR s (l.take 0)) := HR3.out
          have K4 := HK3.out
          have C4 : ∀ j, j < q → (w2.alloc (.cells #[.int .i64 (backR s).f, .int .i64 (backR s).b, .bool (backR s).bo, .bool (backR s).un, .bool (backR s).re] 44)).cell? ⟨g7, j, none⟩ = some (.int .i64 (l.getD j 0)) := fun j hj => irow_cell HRow3.out j (by rw [Hq.out]; exact hj)
          have L4 := r7.2
          have gne : g ≠ g7 := by have := r7.1; omega
          have hq' : ((q : Int) == 0) = false := by simp; omega
          clear HRow3 HR3 HK3
          go_wp2_with fail
          generalize w2.alloc (.cells #[.int .i64 (backR s).f, .int .i64 (backR s).b, .bool (backR s).bo, .bool (backR s).un, .bool (backR s).re] 44) = w4 at *
          go_loopw [14] (fun i w' => ∃ (k gc cc Nc : Nat), k ≤ q ∧ i = .int .i64 k ∧ RefAt w' bs bc gc cc Nc (pensR s (l.take k)) ∧ Keep (fun i => i = bs ∨ i = bc ∨ i = g) w w' ∧ (gc = g ∨ w.heap.size ≤ gc) ∧ gc ≠ g7 ∧ g7 < w'.heap.size ∧ ∀ j, j < q → w'.cell? ⟨g7, j, none⟩ = some (.int .i64 (l.getD j 0))) (fun i _ => q - (intOf i).toNat)
          case atStart => exact ⟨0, g, cap, N, by omega, rfl, R4, K4, .inl rfl, by omega, L4, C4⟩
          case round =>
            clear R4 K4 C4 L4
            obtain ⟨k, gc, cc, Nc, hk, rfl, hR, hK, hg, hne, hl4, hC⟩ := hrel
            have HR5 : Hid (RefAt wr bs bc gc cc Nc (pensR s (l.take k))) := hR
            have HC5 : Hid (∀ j, j < q → wr.cell? ⟨g7, j, none⟩ = some (.int .i64 (l.getD j 0))) := hC
            have Hg5 : Hid (gc = g ∨ w.heap.size ≤ gc) := hg
            clear hR hC hg
            by_cases hlt : k < q
            · have c0 := HC5.out k hlt
              have hlt' : (k : Int) < (q : Int) := by omega
              go_wp2_with fail
              go_at_call 79
              refine (refPen bs bc gc cc Nc (pensR s (l.take k)) _ _ HR5.out).mono ?_
              rintro e w5 ⟨g5, cap5, N5, rfl, R5, K5, hg5⟩
              have e1 : penR (pensR s (l.take k)) (l.getD k 0) = pensR s (l.take (k + 1)) := by
                have hkl : k < l.length := by rw [Hq.out]; exact hlt
                unfold penR pensR
                rw [List.take_succ_eq_append_getElem hkl, List.foldl_append]
                simp [hkl]
              have R6 : RefAt w5 bs bc g5 cap5 N5 (pensR s (l.take (k + 1))) := by rw [← e1]; exact R5
              have K6 : Keep (fun i => i = bs ∨ i = bc ∨ i = g) w w5 := hK.trans K5 (fun i hi hj => by
                have := Hg5.out
                rcases hj with q1 | q1 | q1
                · exact .inl q1
                · exact .inr (.inl q1)
                · rcases this with q2 | q2
                  · exact .inr (.inr (q1.trans q2))
                  · omega)
              have hg6 : g5 = g ∨ w.heap.size ≤ g5 := by
                have := Hg5.out
                have := hK.size
                omega
              have hne6 : g5 ≠ g7 := by omega
              have hl6 : g7 < w5.heap.size := Nat.lt_of_lt_of_le hl4 K5.size
              have C6 : ∀ j, j < q → w5.cell? ⟨g7, j, none⟩ = some (.int .i64 (l.getD j 0)) := fun j hj => by
                rw [keep_cells K5 hl4 (by omega) j]; exact HC5.out j hj
              have HC6 : Hid (∀ j, j < q → w5.cell? ⟨g7, j, none⟩ = some (.int .i64 (l.getD j 0))) := C6
              have HG6 : Hid (g5 = g ∨ w.heap.size ≤ g5) := hg6
              have HR6 : Hid (RefAt w5 bs bc g5 cap5 N5 (pensR s (l.take (k + 1)))) := R6
              clear R5 R6 C6 hg6 hg5 K5 e1 c0
              go_wp2_with fail
              go_roundw
              case rel => exact ⟨k + 1, g5, cap5, N5, by omega, by go_num, HR6.out, K6, HG6.out, hne6, hl6, HC6.out⟩
              case measure => simp [intOf]; omega
            · have hke : Hid (l.take k = begunL l) := by
                show l.take k = begunL l
                rw [HB.out]
                exact List.take_of_length_le (by rw [Hq.out]; omega)
              go_wp2_with fail
              go_end0
              have R9 : RefAt wr bs bc gc cc Nc (doneR s l 109) := by rw [HD.out, ← hke.out]; exact HR5.out
              exact rpost R9 hK Hg5.out
end Go.Proofs.YtjlfibhbfdckpaaDoor
