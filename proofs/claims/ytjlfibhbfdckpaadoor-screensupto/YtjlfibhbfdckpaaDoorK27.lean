/- Texts of the proof, one behind the other: RfZ, RfAA, RfAB. -/
import Derived.Test.YtjlfibhbfdckpaaDoorK05
import Derived.Test.YtjlfibhbfdckpaaDoorK21
import Derived.Test.YtjlfibhbfdckpaaDoorK25
import Derived.Deep.DeepCutAuto
/- The document's screen: sequence. -/
namespace Go.Proofs.YtjlfibhbfdckpaaDoor
open Go.RowKit
attribute [local go_sem ↓] Go.wp_at_zero Go.wp_at_succ
set_option maxRecDepth 100000 in
set_option maxHeartbeats 4000000 in
theorem seqT (bs bc g cap N : Nat) (s : Rs) (b : ByteArray) (l : List Int) (w : World) (h : RefAt w bs bc g cap N s) (ok : s.Ok) (hb : b.size ≤ 100000000000) (hl : nums b = some l) (h8 : l.length ≤ 8) :
    Calls Tryd.prog 58 #[.pointer (some ⟨bs, 0, none⟩), .string b, .int .u8 84] w (RPost bs bc g w (doneR s l 84) (.tuple #[])) := by
  have Hl : Hid (nums b = some l) := hl
  have HD : Hid (doneR s l 84 = { s with G := scrollG s.top s.bot (-one1 (l.getD 0 0)) (backR s) s.G }) := by
    show doneR s l 84 = { s with G := scrollG s.top s.bot (-one1 (l.getD 0 0)) (backR s) s.G }
    simp [doneR]
  have Hok : Hid s.Ok := ok
  clear hl
  go_enter Tryd.func58, Tryd.ntmps58
  go_wp2_with fail
  go_at_call 74
  refine (refNumbers b _ hb).mono ?_
  rintro e w1 ⟨B1, hN⟩
  rw [Hl.out] at hN
  obtain ⟨v, rfl, hr, hsm⟩ := hN
  obtain ⟨q, hq⟩ : ∃ q, l.length = q := ⟨_, rfl⟩
  have hd8 : decide (l.length ≤ 8) = true := by simpa using h8
  rw [hd8]
  rw [hq] at hr
  obtain ⟨av, vc, rfl⟩ : ∃ av vc, v = .slice av q vc := by
    rcases hr.2 with ⟨rfl, h0⟩ | ⟨g', cap', cur, rfl, _⟩
    · exact ⟨none, 0, by rw [h0]⟩
    · exact ⟨_, _, rfl⟩
  have HR1 : Hid (RefAt w1 bs bc g cap N s) := h.below B1
  have K1 : Keep (fun i => i = bs ∨ i = bc ∨ i = g) w w1 := Keep.below _ B1
  have Hq : Hid (l.length = q) := hq
  have q8 : q ≤ 8 := by omega
  have key : ∀ i, i < q → ∃ g', av = some ⟨g', 0, none⟩ ∧ w1.cell? ⟨g', i, none⟩ = some (.int .i64 (l.getD i 0)) := by
    intro i hi
    obtain ⟨g', cap', e⟩ := row_slice hr (by omega)
    cases e
    exact ⟨g', rfl, irow_cell hr i (by omega)⟩
  have Key : Hid (∀ i, i < q → ∃ g', av = some ⟨g', 0, none⟩ ∧ w1.cell? ⟨g', i, none⟩ = some (.int .i64 (l.getD i 0))) := key
  have HRow : Hid (w1.ownsRow w.heap.size 3 1 (.slice av q vc) q (ivals l)) := hr
  have f0 : 0 ≤ l.getD 0 0 ∧ l.getD 0 0 ≤ 9999 := hsm 0
  have f1 : 0 ≤ l.getD 1 0 ∧ l.getD 1 0 ≤ 9999 := hsm 1
  clear key hr hsm hq hd8 h8 B1 h ok
  go_upto_if 31 with fail
  go_cut [8] (fun a wc => a = .int .i64 (l.getD 0 0) ∧ wc = w1)
  case first =>
    by_cases h1 : 0 < q
    · obtain ⟨g', rfl, c0⟩ := Key.out 0 h1
      have h1' : (0 : Int) < q := by omega
      go_wp2_with fail
      go_meet
      case rel => exact ⟨rfl, rfl⟩
    · have h1' : (q : Int) ≤ 0 := by omega
      have e0 : l.getD 0 0 = 0 := by
        rw [List.getD_eq_getElem?_getD, List.getElem?_eq_none (by have := Hq.out; omega)]; rfl
      have E0 : Hid (l.getD 0 0 = 0) := e0
      clear e0
      go_wp2_with fail
      go_meet
      case rel => exact ⟨by rw [E0.out], rfl⟩
  case rest =>
    obtain ⟨rfl, hwc⟩ := hcut
    replace hwc := hwc.symm
    subst hwc
    go_upto_if 37 with fail
    go_cut [9] (fun a wc => a = .int .i64 (l.getD 1 0) ∧ wc = w1)
    case first =>
      by_cases h1 : 1 < q
      · obtain ⟨g', rfl, c0⟩ := Key.out 1 h1
        have h1' : (1 : Int) < q := by omega
        go_wp2_with fail
        go_meet
        case rel => exact ⟨rfl, rfl⟩
      · have h1' : (q : Int) ≤ 1 := by omega
        have e0 : l.getD 1 0 = 0 := by
          rw [List.getD_eq_getElem?_getD, List.getElem?_eq_none (by have := Hq.out; omega)]; rfl
        have E0 : Hid (l.getD 1 0 = 0) := e0
        clear e0
        go_wp2_with fail
        go_meet
        case rel => exact ⟨by rw [E0.out], rfl⟩
    case rest =>
      obtain ⟨rfl, hwc⟩ := hcut
      replace hwc := hwc.symm
      subst hwc
      generalize hfe : l.getD 0 0 = first at *
      have Hfe : Hid (l.getD 0 0 = first) := hfe
      generalize hse : l.getD 1 0 = second at *
      have Hse : Hid (l.getD 1 0 = second) := hse
      clear hfe hse
      obtain ⟨f00, f01⟩ := f0
      obtain ⟨f10, f11⟩ := f1
      go_upto_if 43 with fail
      go_cut [10] (fun a wc => a = .int .i64 (one1 first) ∧ wc = w1)
      case first =>
        by_cases h1 : first = 0
        · subst h1
          go_wp2_with fail
          go_meet
          case rel => exact ⟨rfl, rfl⟩
        · have h1' : (first == 0) = false := by simpa using h1
          have E1 : Hid (one1 first = first) := by show one1 first = first; unfold one1; exact if_neg h1
          clear h1
          go_wp2_with fail
          go_meet
          case rel => exact ⟨by rw [E1.out], rfl⟩
      case rest =>
        obtain ⟨rfl, hwc⟩ := hcut
        replace hwc := hwc.symm
        subst hwc
        have n0 : 1 ≤ one1 first := by unfold one1; split <;> omega
        have n1 : one1 first ≤ 9999 := by unfold one1; split <;> omega
        generalize hne : one1 first = n at *
        have Hne : Hid (one1 first = n) := hne
        clear hne
        have f3 := HR1.out.f3
        have f4 := HR1.out.f4
        go_wp2_with fail
        go_at_call 75
        refine (refBack bs bc g cap N s _ HR1.out).mono ?_
        rintro e w2 ⟨rfl, hb2⟩
        have HR2 : Hid (RefAt w2 bs bc g cap N s) := HR1.out.below hb2
        have K2 : Keep (fun i => i = bs ∨ i = bc ∨ i = g) w w2 := K1.thenBelow hb2
        clear hb2 HR1 K1
        have x0 := Hok.out.x0
        have x1 := Hok.out.x1
        have y0 := Hok.out.y0
        have y1 := Hok.out.y1
        have w40 := Hok.out.w2
        have h20 := Hok.out.h2
        go_wp2_with fail
        generalize hW3 : w2.alloc _ = w3
        have B3 : Below w2.heap.size w2 w3 := by rw [← hW3]; exact (Below.refl _ _).alloc (Nat.le_refl _) _
        have P3 : PenAt w3 w2.heap.size 0 (backR s) := by rw [← hW3]; exact pen_new _ _ _
        have HR3 : Hid (RefAt w3 bs bc g cap N s) := HR2.out.below B3
        have K3 : Keep (fun i => i = bs ∨ i = bc ∨ i = g) w w3 := K2.thenBelow B3
        have np : w2.heap.size ≠ bc := by have := HR2.out.cels.lt; omega
        have npg : w2.heap.size ≠ g := by have := HR2.out.cels.glt; omega
        have szw : w.heap.size ≤ w3.heap.size := K3.size
        generalize w2.heap.size = Bp at *
        clear hW3 B3 HR2 K2 f3 f4
        have g0 := HR3.out.f0
        have g11 := HR3.out.f11
        have g12 := HR3.out.f12
        have l3 := HR3.out.lt
        have lp := P3.lt
        have nsc := HR3.out.ne1
        have nsg := HR3.out.ne2
        obtain ⟨p0, p1, p2, p3, p4⟩ := P3
        have hneg : IntKind.i64.wrap (-n) = -n := wrap_id _ (by omega) (by omega)
        go_region_held3 (fun w' => w'.cell? ⟨bs, 0, none⟩ = some (.pointer (some ⟨bc, 0, none⟩)) ∧ w'.cell? ⟨bs, 11, none⟩ = some (.int .i64 s.top) ∧ w'.cell? ⟨bs, 12, none⟩ = some (.int .i64 s.bot) ∧ w'.cell? ⟨Bp, 0, none⟩ = some (.int .i64 (backR s).f) ∧ w'.cell? ⟨Bp, 1, none⟩ = some (.int .i64 (backR s).b) ∧ w'.cell? ⟨Bp, 2, none⟩ = some (.bool (backR s).bo) ∧ w'.cell? ⟨Bp, 3, none⟩ = some (.bool (backR s).un) ∧ w'.cell? ⟨Bp, 4, none⟩ = some (.bool (backR s).re)) (simp [*]) (first | (go_at_call 78; refine (refScrollI bc g cap s.W s.H N s.G s.top s.bot (-n) (backR s) _ HR3.out.cels.drew Hok.out.t0 (Int.le_trans Hok.out.t0 Hok.out.tb) Hok.out.b1).mono ?_; rintro e w4 ⟨g4, cap4, rfl, C4, K4, hg4⟩; have e1 := keep_cells K4 l3 nsc; have e2 := keep_cells K4 lp np))
        have K4 : Keep (fun i => i = bc) w3 w4 := ⟨K4.os, K4.tape, K4.output, K4.size, K4.block⟩
        have hg4' : w3.heap.size ≤ g4 := hg4
        have R9 : RefAt w4 bs bc g4 cap4 N (doneR s l 84) := by
          rw [HD.out]
          exact HR3.out.cells { s with G := scrollG s.top s.bot (-n) (backR s) s.G } (K4.block _ l3 nsc) C4 rfl (by omega)
        have K5 : Keep (fun i => i = bs ∨ i = bc ∨ i = g) w w4 := K3.trans K4 (fun i _ hi => .inr (.inl hi))
        rename_i hS
        clear hS e1 e2 C4 K4
        go_wp2_with fail
        go_end0
        exact rpost R9 K5 (.inr (by omega))
set_option maxRecDepth 100000 in
set_option maxHeartbeats 4000000 in
theorem seqX (bs bc g cap N : Nat) (s : Rs) (b : ByteArray) (l : List Int) (w : World) (h : RefAt w bs bc g cap N s) (ok : s.Ok) (hb : b.size ≤ 100000000000) (hl : nums b = some l) (h8 : l.length ≤ 8) :
    Calls Tryd.prog 58 #[.pointer (some ⟨bs, 0, none⟩), .string b, .int .u8 88] w (RPost bs bc g w (doneR s l 88) (.tuple #[])) := by
  have Hl : Hid (nums b = some l) := hl
  have HD : Hid (doneR s l 88 = { s with G := wrt s.G (rg s.x (s.x + one1 (l.getD 0 0)) s.y.toNat) (fun _ _ => blk (backR s)) }) := by
    show doneR s l 88 = { s with G := wrt s.G (rg s.x (s.x + one1 (l.getD 0 0)) s.y.toNat) (fun _ _ => blk (backR s)) }
    simp [doneR]
  have Hok : Hid s.Ok := ok
  clear hl
  go_enter Tryd.func58, Tryd.ntmps58
  go_wp2_with fail
  go_at_call 74
  refine (refNumbers b _ hb).mono ?_
  rintro e w1 ⟨B1, hN⟩
  rw [Hl.out] at hN
  obtain ⟨v, rfl, hr, hsm⟩ := hN
  obtain ⟨q, hq⟩ : ∃ q, l.length = q := ⟨_, rfl⟩
  have hd8 : decide (l.length ≤ 8) = true := by simpa using h8
  rw [hd8]
  rw [hq] at hr
  obtain ⟨av, vc, rfl⟩ : ∃ av vc, v = .slice av q vc := by
    rcases hr.2 with ⟨rfl, h0⟩ | ⟨g', cap', cur, rfl, _⟩
    · exact ⟨none, 0, by rw [h0]⟩
    · exact ⟨_, _, rfl⟩
  have HR1 : Hid (RefAt w1 bs bc g cap N s) := h.below B1
  have K1 : Keep (fun i => i = bs ∨ i = bc ∨ i = g) w w1 := Keep.below _ B1
  have Hq : Hid (l.length = q) := hq
  have q8 : q ≤ 8 := by omega
  have key : ∀ i, i < q → ∃ g', av = some ⟨g', 0, none⟩ ∧ w1.cell? ⟨g', i, none⟩ = some (.int .i64 (l.getD i 0)) := by
    intro i hi
    obtain ⟨g', cap', e⟩ := row_slice hr (by omega)
    cases e
    exact ⟨g', rfl, irow_cell hr i (by omega)⟩
  have Key : Hid (∀ i, i < q → ∃ g', av = some ⟨g', 0, none⟩ ∧ w1.cell? ⟨g', i, none⟩ = some (.int .i64 (l.getD i 0))) := key
  have HRow : Hid (w1.ownsRow w.heap.size 3 1 (.slice av q vc) q (ivals l)) := hr
  have f0 : 0 ≤ l.getD 0 0 ∧ l.getD 0 0 ≤ 9999 := hsm 0
  have f1 : 0 ≤ l.getD 1 0 ∧ l.getD 1 0 ≤ 9999 := hsm 1
  clear key hr hsm hq hd8 h8 B1 h ok
  go_upto_if 31 with fail
  go_cut [8] (fun a wc => a = .int .i64 (l.getD 0 0) ∧ wc = w1)
  case first =>
    by_cases h1 : 0 < q
    · obtain ⟨g', rfl, c0⟩ := Key.out 0 h1
      have h1' : (0 : Int) < q := by omega
      go_wp2_with fail
      go_meet
      case rel => exact ⟨rfl, rfl⟩
    · have h1' : (q : Int) ≤ 0 := by omega
      have e0 : l.getD 0 0 = 0 := by
        rw [List.getD_eq_getElem?_getD, List.getElem?_eq_none (by have := Hq.out; omega)]; rfl
      have E0 : Hid (l.getD 0 0 = 0) := e0
      clear e0
      go_wp2_with fail
      go_meet
      case rel => exact ⟨by rw [E0.out], rfl⟩
  case rest =>
    obtain ⟨rfl, hwc⟩ := hcut
    replace hwc := hwc.symm
    subst hwc
    go_upto_if 37 with fail
    go_cut [9] (fun a wc => a = .int .i64 (l.getD 1 0) ∧ wc = w1)
    case first =>
      by_cases h1 : 1 < q
      · obtain ⟨g', rfl, c0⟩ := Key.out 1 h1
        have h1' : (1 : Int) < q := by omega
        go_wp2_with fail
        go_meet
        case rel => exact ⟨rfl, rfl⟩
      · have h1' : (q : Int) ≤ 1 := by omega
        have e0 : l.getD 1 0 = 0 := by
          rw [List.getD_eq_getElem?_getD, List.getElem?_eq_none (by have := Hq.out; omega)]; rfl
        have E0 : Hid (l.getD 1 0 = 0) := e0
        clear e0
        go_wp2_with fail
        go_meet
        case rel => exact ⟨by rw [E0.out], rfl⟩
    case rest =>
      obtain ⟨rfl, hwc⟩ := hcut
      replace hwc := hwc.symm
      subst hwc
      generalize hfe : l.getD 0 0 = first at *
      have Hfe : Hid (l.getD 0 0 = first) := hfe
      generalize hse : l.getD 1 0 = second at *
      have Hse : Hid (l.getD 1 0 = second) := hse
      clear hfe hse
      obtain ⟨f00, f01⟩ := f0
      obtain ⟨f10, f11⟩ := f1
      go_upto_if 43 with fail
      go_cut [10] (fun a wc => a = .int .i64 (one1 first) ∧ wc = w1)
      case first =>
        by_cases h1 : first = 0
        · subst h1
          go_wp2_with fail
          go_meet
          case rel => exact ⟨rfl, rfl⟩
        · have h1' : (first == 0) = false := by simpa using h1
          have E1 : Hid (one1 first = first) := by show one1 first = first; unfold one1; exact if_neg h1
          clear h1
          go_wp2_with fail
          go_meet
          case rel => exact ⟨by rw [E1.out], rfl⟩
      case rest =>
        obtain ⟨rfl, hwc⟩ := hcut
        replace hwc := hwc.symm
        subst hwc
        have n0 : 1 ≤ one1 first := by unfold one1; split <;> omega
        have n1 : one1 first ≤ 9999 := by unfold one1; split <;> omega
        generalize hne : one1 first = n at *
        have Hne : Hid (one1 first = n) := hne
        clear hne
        have f3 := HR1.out.f3
        have f4 := HR1.out.f4
        go_wp2_with fail
        go_at_call 75
        refine (refBack bs bc g cap N s _ HR1.out).mono ?_
        rintro e w2 ⟨rfl, hb2⟩
        have HR2 : Hid (RefAt w2 bs bc g cap N s) := HR1.out.below hb2
        have K2 : Keep (fun i => i = bs ∨ i = bc ∨ i = g) w w2 := K1.thenBelow hb2
        clear hb2 HR1 K1
        have x0 := Hok.out.x0
        have x1 := Hok.out.x1
        have y0 := Hok.out.y0
        have y1 := Hok.out.y1
        have w40 := Hok.out.w2
        have h20 := Hok.out.h2
        go_wp2_with fail
        generalize hW3 : w2.alloc _ = w3
        have B3 : Below w2.heap.size w2 w3 := by rw [← hW3]; exact (Below.refl _ _).alloc (Nat.le_refl _) _
        have P3 : PenAt w3 w2.heap.size 0 (backR s) := by rw [← hW3]; exact pen_new _ _ _
        have HR3 : Hid (RefAt w3 bs bc g cap N s) := HR2.out.below B3
        have K3 : Keep (fun i => i = bs ∨ i = bc ∨ i = g) w w3 := K2.thenBelow B3
        have np : w2.heap.size ≠ bc := by have := HR2.out.cels.lt; omega
        have npg : w2.heap.size ≠ g := by have := HR2.out.cels.glt; omega
        have szw : w.heap.size ≤ w3.heap.size := K3.size
        generalize w2.heap.size = Bp at *
        clear hW3 B3 HR2 K2 f3 f4
        have g0 := HR3.out.f0
        have g11 := HR3.out.f11
        have g12 := HR3.out.f12
        have l3 := HR3.out.lt
        have lp := P3.lt
        have nsc := HR3.out.ne1
        have nsg := HR3.out.ne2
        obtain ⟨p0, p1, p2, p3, p4⟩ := P3
        have hwx : IntKind.i64.wrap (s.x + n) = s.x + n := wrap_id _ (by omega) (by omega)
        go_region_held3 (fun w' => w'.cell? ⟨bs, 0, none⟩ = some (.pointer (some ⟨bc, 0, none⟩)) ∧ w'.cell? ⟨Bp, 0, none⟩ = some (.int .i64 (backR s).f) ∧ w'.cell? ⟨Bp, 1, none⟩ = some (.int .i64 (backR s).b) ∧ w'.cell? ⟨Bp, 2, none⟩ = some (.bool (backR s).bo) ∧ w'.cell? ⟨Bp, 3, none⟩ = some (.bool (backR s).un) ∧ w'.cell? ⟨Bp, 4, none⟩ = some (.bool (backR s).re)) (simp [*]) (first | (go_at_call 77; refine (refEraseI bc g cap s.W s.H N s.G s.x (s.x + n) s.y (backR s) _ HR3.out.cels.drew Hok.out.wf Hok.out.y0 Hok.out.y1).mono ?_; rintro e w4 ⟨rfl, C4, K4⟩; have e1 := keep_cells K4 l3 nsg; have e2 := keep_cells K4 lp npg))
        have K4 : Keep (fun i => i = g) w3 w4 := ⟨K4.os, K4.tape, K4.output, K4.size, K4.block⟩
        have R9 : RefAt w4 bs bc g cap N (doneR s l 88) := by
          rw [HD.out]
          exact HR3.out.cells { s with G := wrt s.G (rg s.x (s.x + n) s.y.toNat) (fun _ _ => blk (backR s)) } (K4.block _ l3 nsg) C4 rfl HR3.out.ne2
        have K5 : Keep (fun i => i = bs ∨ i = bc ∨ i = g) w w4 := K3.trans K4 (fun i _ hi => .inr (.inr hi))
        rename_i hS
        clear hS e1 e2 C4 K4
        go_wp2_with fail
        go_end0
        exact rpost R9 K5 (.inl rfl)
end Go.Proofs.YtjlfibhbfdckpaaDoor

/- The document's screen: sequence. -/
namespace Go.Proofs.YtjlfibhbfdckpaaDoor
open Go.RowKit
attribute [local go_sem ↓] Go.wp_at_zero Go.wp_at_succ
set_option maxRecDepth 100000 in
set_option maxHeartbeats 4000000 in
theorem seqO (bs bc g cap N : Nat) (s : Rs) (b : ByteArray) (l : List Int) (w : World) (h : RefAt w bs bc g cap N s) (ok : s.Ok) (hb : b.size ≤ 100000000000) (hl : nums b = some l) (h8 : l.length ≤ 8) (last : Int) (n65 : last ≠ 65) (n66 : last ≠ 66) (n67 : last ≠ 67) (n68 : last ≠ 68) (n72 : last ≠ 72) (n75 : last ≠ 75) (n74 : last ≠ 74) (n88 : last ≠ 88) (n83 : last ≠ 83) (n84 : last ≠ 84) (n114 : last ≠ 114) (n109 : last ≠ 109) :
    Calls Tryd.prog 58 #[.pointer (some ⟨bs, 0, none⟩), .string b, .int .u8 last] w (RPost bs bc g w (doneR s l last) (.tuple #[])) := by
  have Hl : Hid (nums b = some l) := hl
  have HD : Hid (doneR s l last = oddR s) := by
    show doneR s l last = oddR s
    simp [doneR, n65, n66, n67, n68, n72, n75, n74, n88, n83, n84, n114, n109]
  have b65 : (last == 65) = false := by simpa using n65
  have b66 : (last == 66) = false := by simpa using n66
  have b67 : (last == 67) = false := by simpa using n67
  have b68 : (last == 68) = false := by simpa using n68
  have b72 : (last == 72) = false := by simpa using n72
  have b75 : (last == 75) = false := by simpa using n75
  have b74 : (last == 74) = false := by simpa using n74
  have b88 : (last == 88) = false := by simpa using n88
  have b83 : (last == 83) = false := by simpa using n83
  have b84 : (last == 84) = false := by simpa using n84
  have b114 : (last == 114) = false := by simpa using n114
  have b109 : (last == 109) = false := by simpa using n109
  clear n65 n66 n67 n68 n72 n75 n74 n88 n83 n84 n114 n109
  have Hok : Hid s.Ok := ok
  clear hl
  go_enter Tryd.func58, Tryd.ntmps58
  go_wp2_with fail
  go_at_call 74
  refine (refNumbers b _ hb).mono ?_
  rintro e w1 ⟨B1, hN⟩
  rw [Hl.out] at hN
  obtain ⟨v, rfl, hr, hsm⟩ := hN
  obtain ⟨q, hq⟩ : ∃ q, l.length = q := ⟨_, rfl⟩
  have hd8 : decide (l.length ≤ 8) = true := by simpa using h8
  rw [hd8]
  rw [hq] at hr
  obtain ⟨av, vc, rfl⟩ : ∃ av vc, v = .slice av q vc := by
    rcases hr.2 with ⟨rfl, h0⟩ | ⟨g', cap', cur, rfl, _⟩
    · exact ⟨none, 0, by rw [h0]⟩
    · exact ⟨_, _, rfl⟩
  have HR1 : Hid (RefAt w1 bs bc g cap N s) := h.below B1
  have K1 : Keep (fun i => i = bs ∨ i = bc ∨ i = g) w w1 := Keep.below _ B1
  have Hq : Hid (l.length = q) := hq
  have q8 : q ≤ 8 := by omega
  have key : ∀ i, i < q → ∃ g', av = some ⟨g', 0, none⟩ ∧ w1.cell? ⟨g', i, none⟩ = some (.int .i64 (l.getD i 0)) := by
    intro i hi
    obtain ⟨g', cap', e⟩ := row_slice hr (by omega)
    cases e
    exact ⟨g', rfl, irow_cell hr i (by omega)⟩
  have Key : Hid (∀ i, i < q → ∃ g', av = some ⟨g', 0, none⟩ ∧ w1.cell? ⟨g', i, none⟩ = some (.int .i64 (l.getD i 0))) := key
  have HRow : Hid (w1.ownsRow w.heap.size 3 1 (.slice av q vc) q (ivals l)) := hr
  have f0 : 0 ≤ l.getD 0 0 ∧ l.getD 0 0 ≤ 9999 := hsm 0
  have f1 : 0 ≤ l.getD 1 0 ∧ l.getD 1 0 ≤ 9999 := hsm 1
  clear key hr hsm hq hd8 h8 B1 h ok
  go_upto_if 31 with fail
  go_cut [8] (fun a wc => a = .int .i64 (l.getD 0 0) ∧ wc = w1)
  case first =>
    by_cases h1 : 0 < q
    · obtain ⟨g', rfl, c0⟩ := Key.out 0 h1
      have h1' : (0 : Int) < q := by omega
      go_wp2_with fail
      go_meet
      case rel => exact ⟨rfl, rfl⟩
    · have h1' : (q : Int) ≤ 0 := by omega
      have e0 : l.getD 0 0 = 0 := by
        rw [List.getD_eq_getElem?_getD, List.getElem?_eq_none (by have := Hq.out; omega)]; rfl
      have E0 : Hid (l.getD 0 0 = 0) := e0
      clear e0
      go_wp2_with fail
      go_meet
      case rel => exact ⟨by rw [E0.out], rfl⟩
  case rest =>
    obtain ⟨rfl, hwc⟩ := hcut
    replace hwc := hwc.symm
    subst hwc
    go_upto_if 37 with fail
    go_cut [9] (fun a wc => a = .int .i64 (l.getD 1 0) ∧ wc = w1)
    case first =>
      by_cases h1 : 1 < q
      · obtain ⟨g', rfl, c0⟩ := Key.out 1 h1
        have h1' : (1 : Int) < q := by omega
        go_wp2_with fail
        go_meet
        case rel => exact ⟨rfl, rfl⟩
      · have h1' : (q : Int) ≤ 1 := by omega
        have e0 : l.getD 1 0 = 0 := by
          rw [List.getD_eq_getElem?_getD, List.getElem?_eq_none (by have := Hq.out; omega)]; rfl
        have E0 : Hid (l.getD 1 0 = 0) := e0
        clear e0
        go_wp2_with fail
        go_meet
        case rel => exact ⟨by rw [E0.out], rfl⟩
    case rest =>
      obtain ⟨rfl, hwc⟩ := hcut
      replace hwc := hwc.symm
      subst hwc
      generalize hfe : l.getD 0 0 = first at *
      have Hfe : Hid (l.getD 0 0 = first) := hfe
      generalize hse : l.getD 1 0 = second at *
      have Hse : Hid (l.getD 1 0 = second) := hse
      clear hfe hse
      obtain ⟨f00, f01⟩ := f0
      obtain ⟨f10, f11⟩ := f1
      go_upto_if 43 with fail
      go_cut [10] (fun a wc => a = .int .i64 (one1 first) ∧ wc = w1)
      case first =>
        by_cases h1 : first = 0
        · subst h1
          go_wp2_with fail
          go_meet
          case rel => exact ⟨rfl, rfl⟩
        · have h1' : (first == 0) = false := by simpa using h1
          have E1 : Hid (one1 first = first) := by show one1 first = first; unfold one1; exact if_neg h1
          clear h1
          go_wp2_with fail
          go_meet
          case rel => exact ⟨by rw [E1.out], rfl⟩
      case rest =>
        obtain ⟨rfl, hwc⟩ := hcut
        replace hwc := hwc.symm
        subst hwc
        have n0 : 1 ≤ one1 first := by unfold one1; split <;> omega
        have n1 : one1 first ≤ 9999 := by unfold one1; split <;> omega
        generalize hne : one1 first = n at *
        have Hne : Hid (one1 first = n) := hne
        clear hne
        have f3 := HR1.out.f3
        have f4 := HR1.out.f4
        go_wp2_with fail
        go_at_call 75
        refine (refBack bs bc g cap N s _ HR1.out).mono ?_
        rintro e w2 ⟨rfl, hb2⟩
        have HR2 : Hid (RefAt w2 bs bc g cap N s) := HR1.out.below hb2
        have K2 : Keep (fun i => i = bs ∨ i = bc ∨ i = g) w w2 := K1.thenBelow hb2
        clear hb2 HR1 K1
        have x0 := Hok.out.x0
        have x1 := Hok.out.x1
        have y0 := Hok.out.y0
        have y1 := Hok.out.y1
        have w40 := Hok.out.w2
        have h20 := Hok.out.h2
        have f15 := HR2.out.f15
        have fr := HR2.out.free
        have l2 := HR2.out.lt
        go_wp2_with fail
        go_end0
        have R9 : RefAt ((w2.setCell ⟨bs, 15, none⟩ (.int .i64 (wrap64 (s.odd + 1)))).alloc (.cells #[.int .i64 (backR s).f, .int .i64 (backR s).b, .bool (backR s).bo, .bool (backR s).un, .bool (backR s).re] 44)) bs bc g cap N (doneR s l last) := by
          rw [HD.out]; exact (HR2.out.setOdd _).below ((Below.refl _ _).alloc (Nat.le_refl _) _)
        exact rpost R9 ((K2.setCell ⟨bs, 15, none⟩ _ (fun _ => .inl rfl)).alloc _) (.inl rfl)
end Go.Proofs.YtjlfibhbfdckpaaDoor

/- The document's screen: sequence. -/
namespace Go.Proofs.YtjlfibhbfdckpaaDoor
open Go.RowKit
attribute [local go_sem ↓] Go.wp_at_zero Go.wp_at_succ
set_option maxRecDepth 100000 in
set_option maxHeartbeats 4000000 in
theorem seqR1 (bs bc g cap N : Nat) (s : Rs) (b : ByteArray) (l : List Int) (w : World) (h : RefAt w bs bc g cap N s) (ok : s.Ok) (hb : b.size ≤ 100000000000) (hl : nums b = some l) (h8 : l.length ≤ 8) (q1 : l.getD 1 0 = 0) :
    Calls Tryd.prog 58 #[.pointer (some ⟨bs, 0, none⟩), .string b, .int .u8 114] w (RPost bs bc g w (doneR s l 114) (.tuple #[])) := by
  have Hl : Hid (nums b = some l) := hl
  have Q1 : Hid (l.getD 1 0 = 0) := q1
  clear q1
  have HD : Hid (doneR s l 114 = marginsR s (one1 (l.getD 0 0)) (l.getD 1 0)) := by
    show doneR s l 114 = marginsR s (one1 (l.getD 0 0)) (l.getD 1 0)
    simp [doneR]
  have Hok : Hid s.Ok := ok
  clear hl
  go_enter Tryd.func58, Tryd.ntmps58
  go_wp2_with fail
  go_at_call 74
  refine (refNumbers b _ hb).mono ?_
  rintro e w1 ⟨B1, hN⟩
  rw [Hl.out] at hN
  obtain ⟨v, rfl, hr, hsm⟩ := hN
  obtain ⟨q, hq⟩ : ∃ q, l.length = q := ⟨_, rfl⟩
  have hd8 : decide (l.length ≤ 8) = true := by simpa using h8
  rw [hd8]
  rw [hq] at hr
  obtain ⟨av, vc, rfl⟩ : ∃ av vc, v = .slice av q vc := by
    rcases hr.2 with ⟨rfl, h0⟩ | ⟨g', cap', cur, rfl, _⟩
    · exact ⟨none, 0, by rw [h0]⟩
    · exact ⟨_, _, rfl⟩
  have HR1 : Hid (RefAt w1 bs bc g cap N s) := h.below B1
  have K1 : Keep (fun i => i = bs ∨ i = bc ∨ i = g) w w1 := Keep.below _ B1
  have Hq : Hid (l.length = q) := hq
  have q8 : q ≤ 8 := by omega
  have key : ∀ i, i < q → ∃ g', av = some ⟨g', 0, none⟩ ∧ w1.cell? ⟨g', i, none⟩ = some (.int .i64 (l.getD i 0)) := by
    intro i hi
    obtain ⟨g', cap', e⟩ := row_slice hr (by omega)
    cases e
    exact ⟨g', rfl, irow_cell hr i (by omega)⟩
  have Key : Hid (∀ i, i < q → ∃ g', av = some ⟨g', 0, none⟩ ∧ w1.cell? ⟨g', i, none⟩ = some (.int .i64 (l.getD i 0))) := key
  have HRow : Hid (w1.ownsRow w.heap.size 3 1 (.slice av q vc) q (ivals l)) := hr
  have f0 : 0 ≤ l.getD 0 0 ∧ l.getD 0 0 ≤ 9999 := hsm 0
  have f1 : 0 ≤ l.getD 1 0 ∧ l.getD 1 0 ≤ 9999 := hsm 1
  clear key hr hsm hq hd8 h8 B1 h ok
  go_upto_if 31 with fail
  go_cut [8] (fun a wc => a = .int .i64 (l.getD 0 0) ∧ wc = w1)
  case first =>
    by_cases h1 : 0 < q
    · obtain ⟨g', rfl, c0⟩ := Key.out 0 h1
      have h1' : (0 : Int) < q := by omega
      go_wp2_with fail
      go_meet
      case rel => exact ⟨rfl, rfl⟩
    · have h1' : (q : Int) ≤ 0 := by omega
      have e0 : l.getD 0 0 = 0 := by
        rw [List.getD_eq_getElem?_getD, List.getElem?_eq_none (by have := Hq.out; omega)]; rfl
      have E0 : Hid (l.getD 0 0 = 0) := e0
      clear e0
      go_wp2_with fail
      go_meet
      case rel => exact ⟨by rw [E0.out], rfl⟩
  case rest =>
    obtain ⟨rfl, hwc⟩ := hcut
    replace hwc := hwc.symm
    subst hwc
    go_upto_if 37 with fail
    go_cut [9] (fun a wc => a = .int .i64 (l.getD 1 0) ∧ wc = w1)
    case first =>
      by_cases h1 : 1 < q
      · obtain ⟨g', rfl, c0⟩ := Key.out 1 h1
        have h1' : (1 : Int) < q := by omega
        go_wp2_with fail
        go_meet
        case rel => exact ⟨rfl, rfl⟩
      · have h1' : (q : Int) ≤ 1 := by omega
        have e0 : l.getD 1 0 = 0 := by
          rw [List.getD_eq_getElem?_getD, List.getElem?_eq_none (by have := Hq.out; omega)]; rfl
        have E0 : Hid (l.getD 1 0 = 0) := e0
        clear e0
        go_wp2_with fail
        go_meet
        case rel => exact ⟨by rw [E0.out], rfl⟩
    case rest =>
      obtain ⟨rfl, hwc⟩ := hcut
      replace hwc := hwc.symm
      subst hwc
      generalize hfe : l.getD 0 0 = first at *
      have Hfe : Hid (l.getD 0 0 = first) := hfe
      generalize hse : l.getD 1 0 = second at *
      have Hse : Hid (l.getD 1 0 = second) := hse
      clear hfe hse
      obtain ⟨f00, f01⟩ := f0
      obtain ⟨f10, f11⟩ := f1
      go_upto_if 43 with fail
      go_cut [10] (fun a wc => a = .int .i64 (one1 first) ∧ wc = w1)
      case first =>
        by_cases h1 : first = 0
        · subst h1
          go_wp2_with fail
          go_meet
          case rel => exact ⟨rfl, rfl⟩
        · have h1' : (first == 0) = false := by simpa using h1
          have E1 : Hid (one1 first = first) := by show one1 first = first; unfold one1; exact if_neg h1
          clear h1
          go_wp2_with fail
          go_meet
          case rel => exact ⟨by rw [E1.out], rfl⟩
      case rest =>
        obtain ⟨rfl, hwc⟩ := hcut
        replace hwc := hwc.symm
        subst hwc
        have n0 : 1 ≤ one1 first := by unfold one1; split <;> omega
        have n1 : one1 first ≤ 9999 := by unfold one1; split <;> omega
        generalize hne : one1 first = n at *
        have Hne : Hid (one1 first = n) := hne
        clear hne
        have f3 := HR1.out.f3
        have f4 := HR1.out.f4
        go_wp2_with fail
        go_at_call 75
        refine (refBack bs bc g cap N s _ HR1.out).mono ?_
        rintro e w2 ⟨rfl, hb2⟩
        have HR2 : Hid (RefAt w2 bs bc g cap N s) := HR1.out.below hb2
        have K2 : Keep (fun i => i = bs ∨ i = bc ∨ i = g) w w2 := K1.thenBelow hb2
        clear hb2 HR1 K1
        have x0 := Hok.out.x0
        have x1 := Hok.out.x1
        have y0 := Hok.out.y0
        have y1 := Hok.out.y1
        have w40 := Hok.out.w2
        have h20 := Hok.out.h2
        have f2 := HR2.out.f2
        have f11 := HR2.out.f11
        have f12 := HR2.out.f12
        have fr := HR2.out.free
        have l2 := HR2.out.lt
        have h01 := Hok.out.h1
        obtain ⟨k, hk⟩ : ∃ k, lowR2 s.H second = k := ⟨_, rfl⟩
        have Hk : Hid (lowR2 s.H second = k) := hk
        clear hk
        have Hk : Hid (lowR2 s.H second = s.H) := by show lowR2 s.H second = s.H; unfold lowR2; exact if_pos (.inl Q1.out)
        have c1 : (second == 0) = true := by simpa using Q1.out
        rcases (by omega : n < (s.H : Int) ∨ ((s.H : Int) ≤ n ∧ (s.H : Int) = 1 ∧ n = 1) ∨ ((s.H : Int) ≤ n ∧ (s.H : Int) = 1 ∧ n ≠ 1) ∨ ((s.H : Int) ≤ n ∧ (s.H : Int) ≠ 1)) with r1 | ⟨r1, r2, r3⟩ | ⟨r1, r2, r3⟩ | ⟨r1, r2⟩
        · have HM : Hid (marginsR s n second = goesR { s with top := n - 1, bot := (s.H : Int) - 1 } 0 0) := by
            show marginsR s n second = _
            unfold marginsR; rw [Hk.out]; exact if_pos (.inl r1)
          go_wp2_with fail
          have R3 := ((HR2.out.setTop (n - 1)).setBot ((s.H : Int) - 1)).below ((Below.refl _ _).alloc (Nat.le_refl _) (.cells #[.int .i64 (backR s).f, .int .i64 (backR s).b, .bool (backR s).bo, .bool (backR s).un, .bool (backR s).re] 44))
          have K3 := (((K2.setCell ⟨bs, 11, none⟩ (.int .i64 (n - 1)) (fun _ => .inl rfl)).setCell ⟨bs, 12, none⟩ (.int .i64 ((s.H : Int) - 1)) (fun _ => .inl rfl)).alloc (.cells #[.int .i64 (backR s).f, .int .i64 (backR s).b, .bool (backR s).bo, .bool (backR s).un, .bool (backR s).re] 44))
          go_at_call 35
          refine (refGoes bs bc g cap N { s with top := n - 1, bot := (s.H : Int) - 1 } 0 0 _ R3).mono ?_
          rintro e w5 ⟨rfl, R5, K5⟩
          have K6 : Keep (fun i => i = bs ∨ i = bc ∨ i = g) w w5 := K3.trans K5 (fun i _ hi => .inl hi)
          have R9 : RefAt w5 bs bc g cap N (doneR s l 114) := by rw [HD.out, HM.out]; exact R5
          clear R3 K3 K5 R5 K2 HR2
          go_wp2_with fail
          go_end0
          exact rpost R9 K6 (.inl rfl)
        · have HM : Hid (marginsR s n second = goesR { s with top := n - 1, bot := (s.H : Int) - 1 } 0 0) := by
            show marginsR s n second = _
            unfold marginsR; rw [Hk.out]; exact if_pos (.inr (by omega))
          have b2 : ((s.H : Int) == 1) = true := by simpa using r2
          have b3 : (n == 1) = true := by simpa using r3
          clear r2 r3
          go_wp2_with fail
          have R3 := ((HR2.out.setTop (n - 1)).setBot ((s.H : Int) - 1)).below ((Below.refl _ _).alloc (Nat.le_refl _) (.cells #[.int .i64 (backR s).f, .int .i64 (backR s).b, .bool (backR s).bo, .bool (backR s).un, .bool (backR s).re] 44))
          have K3 := (((K2.setCell ⟨bs, 11, none⟩ (.int .i64 (n - 1)) (fun _ => .inl rfl)).setCell ⟨bs, 12, none⟩ (.int .i64 ((s.H : Int) - 1)) (fun _ => .inl rfl)).alloc (.cells #[.int .i64 (backR s).f, .int .i64 (backR s).b, .bool (backR s).bo, .bool (backR s).un, .bool (backR s).re] 44))
          go_at_call 35
          refine (refGoes bs bc g cap N { s with top := n - 1, bot := (s.H : Int) - 1 } 0 0 _ R3).mono ?_
          rintro e w5 ⟨rfl, R5, K5⟩
          have K6 : Keep (fun i => i = bs ∨ i = bc ∨ i = g) w w5 := K3.trans K5 (fun i _ hi => .inl hi)
          have R9 : RefAt w5 bs bc g cap N (doneR s l 114) := by rw [HD.out, HM.out]; exact R5
          clear R3 K3 K5 R5 K2 HR2
          go_wp2_with fail
          go_end0
          exact rpost R9 K6 (.inl rfl)
        · have HM : Hid (marginsR s n second = s) := by
            show marginsR s n second = _
            unfold marginsR; rw [Hk.out]; exact if_neg (by omega)
          have b2 : ((s.H : Int) == 1) = true := by simpa using r2
          have b3 : (n == 1) = false := by simpa using r3
          clear r2 r3
          go_wp2_with fail
          go_end0
          have R9 : RefAt (w2.alloc (.cells #[.int .i64 (backR s).f, .int .i64 (backR s).b, .bool (backR s).bo, .bool (backR s).un, .bool (backR s).re] 44)) bs bc g cap N (doneR s l 114) := by rw [HD.out, HM.out]; exact HR2.out.below ((Below.refl _ _).alloc (Nat.le_refl _) _)
          exact rpost R9 (K2.alloc _) (.inl rfl)
        · have HM : Hid (marginsR s n second = s) := by
            show marginsR s n second = _
            unfold marginsR; rw [Hk.out]; exact if_neg (by omega)
          have b2 : ((s.H : Int) == 1) = false := by simpa using r2
          clear r2
          go_wp2_with fail
          go_end0
          have R9 : RefAt (w2.alloc (.cells #[.int .i64 (backR s).f, .int .i64 (backR s).b, .bool (backR s).bo, .bool (backR s).un, .bool (backR s).re] 44)) bs bc g cap N (doneR s l 114) := by rw [HD.out, HM.out]; exact HR2.out.below ((Below.refl _ _).alloc (Nat.le_refl _) _)
          exact rpost R9 (K2.alloc _) (.inl rfl)
end Go.Proofs.YtjlfibhbfdckpaaDoor
