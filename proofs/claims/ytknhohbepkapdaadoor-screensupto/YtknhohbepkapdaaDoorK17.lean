/- Texts of the proof, one behind the other: RfF. -/
import Derived.Test.YtknhohbepkapdaaDoorK04
import Derived.Test.YtknhohbepkapdaaDoorK16
/- The document's cells: broken. -/
namespace Go.Proofs.YtknhohbepkapdaaDoor
open Go.RowKit
attribute [local go_sem ↓] Go.wp_at_zero Go.wp_at_succ
theorem field_part (c : Cel) (w : World) : (Instr.field 56 c.agg 1).run Tryd.prog w = .ok (.int .i64 c.p) w := by kernel_rfl
set_option maxRecDepth 100000 in
set_option maxHeartbeats 20000000 in
theorem refBroken (bc g cap W H N : Nat) (G : Nat → Nat → Cel) (w : World) (h : Cels w bc g cap W H N G) (ha : Aw W H G) :
    Calls Tryd.prog 52 #[.pointer (some ⟨bc, 0, none⟩)] w fun e w' => e = .returned (.tuple #[]) ∧ Cels w' bc g cap W H N (lastG W G) ∧ Keep (fun i => i = g) w w' := by
  have hw2 := h.w2
  have hh2 := h.h2
  have nle := h.nle
  have HN : Hid (N = H * W) := h.hN
  have hl0 : Hid (Cels w bc g cap W H N G) := h
  clear h
  have hfp := field_part
  go_enter Tryd.func52, Tryd.ntmps52
  go_wp2_with fail
  go_loopw [2] (fun i w' => ∃ (y m : Nat), y ≤ H ∧ y * W = m ∧ i = .int .i64 y ∧ Cels w' bc g cap W H N (bk W G m) ∧ Keep (fun i => i = g) w w') (fun i _ => H - (intOf i).toNat)
  case atStart => exact ⟨0, 0, by omega, by simp, rfl, hl0.out.congr (fun a b _ _ => by simp [bk]), Keep.refl _ _⟩
  case round =>
    obtain ⟨y, m0, hy, hm0, rfl, hC, hK⟩ := hrel
    have HC0 : Hid (Cels wr bc g cap W H N (bk W G m0)) := hC
    have c1 := hC.c1
    have Hm0 : Hid (y * W = m0) := hm0
    clear hC hm0
    by_cases hlt : y < H
    · go_wp2_with fail
      go_loopw [3] (fun i w' => ∃ (x m : Nat), x ≤ W ∧ y * W + x = m ∧ i = .int .i64 x ∧ Cels w' bc g cap W H N (bk W G m) ∧ Keep (fun i => i = g) w w') (fun i _ => W - (intOf i).toNat)
      case atStart => exact ⟨0, m0, by omega, by have := Hm0.out; omega, rfl, HC0.out, hK⟩
      case round =>
        clear HC0 c1 hK
        obtain ⟨x, m, hx, hm, rfl, hC, hK⟩ := hrel
        have Hm : Hid (y * W + x = m) := hm
        have HC : Hid (Cels wr bc g cap W H N (bk W G m)) := hC
        have c0 := hC.c0
        clear hC hm
        by_cases hlx : x < W
        · have hbk : bk W G m x y = G x y := by rw [← Hm.out]; exact bk_at W G x y
          have hbr : bk W G m (x + 1) y = G (x + 1) y := by rw [← Hm.out]; exact bk_right W G x y
          have hbl : 1 ≤ x → bk W G m (x - 1) y = G (x - 1) y := fun q => by rw [← Hm.out]; exact bk_left W G x y hlx q
          have Hbl : Hid (1 ≤ x → bk W G m (x - 1) y = G (x - 1) y) := hbl
          clear hbl
          by_cases hr1 : x + 1 < W
          · rcases (by omega : (G x y).p = 1 ∨ (G x y).p = 2 ∨ ((G x y).p ≠ 1 ∧ (G x y).p ≠ 2)) with hp | hp | hp
            · by_cases hx1 : 1 ≤ x
              · have P : (G x y).p = 1 := hp
                have PQ := P
                have PR : (G (x + 1) y).p = 2 := ha.head x y hr1 hlt hp
                go_wp2_with fail
                go_at_call 40
                refine (refAt bc g cap W H N _ x y _ HC.out (by omega) (by omega) (by omega) (by omega)).mono ?_
                rintro e w2 ⟨rfl, hb2⟩
                simp only [Int.toNat_natCast, hbk]
                have HC2 : Hid (Cels w2 bc g cap W H N (bk W G m)) := HC.out.below hb2
                have K2 : Keep (fun i => i = g) w w2 := hK.thenBelow hb2
                have c02 := HC2.out.c0
                have bl2 := HC2.out.lt
                have gl2 := HC2.out.glt
                clear hb2 HC hK c0
                go_wp2_with fail
                go_at_call 40
                refine (refAt bc g cap W H N _ ((x : Int) + 1) y _ (HC2.out.below ((Below.refl _ _).alloc (Nat.le_refl _) _)) (by omega) (by omega) (by omega) (by omega)).mono ?_
                rintro e w3 ⟨rfl, hb3⟩
                have tx : ((x : Int) + 1).toNat = x + 1 := by omega
                simp only [Int.toNat_natCast, tx, hbr]
                have b3 : Below w2.heap.size w2 w3 := ((Below.refl _ _).alloc (Nat.le_refl _) _).trans (hb3.mono (by simp))
                have HC3 : Hid (Cels w3 bc g cap W H N (bk W G m)) := HC2.out.below b3
                have K3 : Keep (fun i => i = g) w w3 := K2.thenBelow b3
                have k3 : CelAt w3 w2.heap.size 0 (G x y) := (cel_new' w2 (G x y) _ PQ _).same (hb3.block _ (by simp))
                have k31 := k3.2.1
                rw [P] at k31
                clear hb3 b3
                go_wp2_with fail
                go_at_call 40
                refine (refAt bc g cap W H N _ ((x : Int) - 1) y _ HC3.out (by omega) (by omega) (by omega) (by omega)).mono ?_
                rintro e w4 ⟨rfl, hb4⟩
                have ty : ((x : Int) - 1).toNat = x - 1 := by omega
                simp only [Int.toNat_natCast, ty, Hbl.out hx1]
                have HC4 : Hid (Cels w4 bc g cap W H N (bk W G m)) := HC3.out.below hb4
                have K4 : Keep (fun i => i = g) w w4 := K3.thenBelow hb4
                have k4 : CelAt w4 w2.heap.size 0 (G x y) := k3.below hb4 k3.lt
                have k41 := k4.2.1
                rw [P] at k41
                clear hb4 k31
                go_wp2_with fail
                go_roundw
                case rel =>
                  refine ⟨x + 1, m + 1, by omega, by have := Hm.out; omega, by go_num, HC4.out.congr ?_, K4⟩
                  have := bk_next W H G x y hlx (by omega)
                  rw [Hm.out] at this
                  exact this
                case measure => simp [intOf]; omega
              · have hx0 : (x : Int) < 1 := by omega
                have P : (G x y).p = 1 := hp
                have PQ := P
                have PR : (G (x + 1) y).p = 2 := ha.head x y hr1 hlt hp
                go_wp2_with fail
                go_at_call 40
                refine (refAt bc g cap W H N _ x y _ HC.out (by omega) (by omega) (by omega) (by omega)).mono ?_
                rintro e w2 ⟨rfl, hb2⟩
                simp only [Int.toNat_natCast, hbk]
                have HC2 : Hid (Cels w2 bc g cap W H N (bk W G m)) := HC.out.below hb2
                have K2 : Keep (fun i => i = g) w w2 := hK.thenBelow hb2
                have c02 := HC2.out.c0
                have bl2 := HC2.out.lt
                have gl2 := HC2.out.glt
                clear hb2 HC hK c0
                go_wp2_with fail
                go_at_call 40
                refine (refAt bc g cap W H N _ ((x : Int) + 1) y _ (HC2.out.below ((Below.refl _ _).alloc (Nat.le_refl _) _)) (by omega) (by omega) (by omega) (by omega)).mono ?_
                rintro e w3 ⟨rfl, hb3⟩
                have tx : ((x : Int) + 1).toNat = x + 1 := by omega
                simp only [Int.toNat_natCast, tx, hbr]
                have b3 : Below w2.heap.size w2 w3 := ((Below.refl _ _).alloc (Nat.le_refl _) _).trans (hb3.mono (by simp))
                have HC3 : Hid (Cels w3 bc g cap W H N (bk W G m)) := HC2.out.below b3
                have K3 : Keep (fun i => i = g) w w3 := K2.thenBelow b3
                have k3 : CelAt w3 w2.heap.size 0 (G x y) := (cel_new' w2 (G x y) _ PQ _).same (hb3.block _ (by simp))
                have k31 := k3.2.1
                rw [P] at k31
                clear hb3 b3
                go_wp2_with fail
                go_roundw
                case rel =>
                  refine ⟨x + 1, m + 1, by omega, by have := Hm.out; omega, by go_num, HC3.out.congr ?_, K3⟩
                  have := bk_next W H G x y hlx (by omega)
                  rw [Hm.out] at this
                  exact this
                case measure => simp [intOf]; omega
            · have hx1 : 1 ≤ x := (ha.tail x y hlx hlt hp).1
              have P : (G x y).p = 2 := hp
              have PQ := P
              have PL : (G (x - 1) y).p = 1 := (ha.tail x y hlx hlt hp).2
              go_wp2_with fail
              go_at_call 40
              refine (refAt bc g cap W H N _ x y _ HC.out (by omega) (by omega) (by omega) (by omega)).mono ?_
              rintro e w2 ⟨rfl, hb2⟩
              simp only [Int.toNat_natCast, hbk]
              have HC2 : Hid (Cels w2 bc g cap W H N (bk W G m)) := HC.out.below hb2
              have K2 : Keep (fun i => i = g) w w2 := hK.thenBelow hb2
              have c02 := HC2.out.c0
              have bl2 := HC2.out.lt
              have gl2 := HC2.out.glt
              clear hb2 HC hK c0
              go_wp2_with fail
              go_at_call 40
              refine (refAt bc g cap W H N _ ((x : Int) + 1) y _ (HC2.out.below ((Below.refl _ _).alloc (Nat.le_refl _) _)) (by omega) (by omega) (by omega) (by omega)).mono ?_
              rintro e w3 ⟨rfl, hb3⟩
              have tx : ((x : Int) + 1).toNat = x + 1 := by omega
              simp only [Int.toNat_natCast, tx, hbr]
              have b3 : Below w2.heap.size w2 w3 := ((Below.refl _ _).alloc (Nat.le_refl _) _).trans (hb3.mono (by simp))
              have HC3 : Hid (Cels w3 bc g cap W H N (bk W G m)) := HC2.out.below b3
              have K3 : Keep (fun i => i = g) w w3 := K2.thenBelow b3
              have k3 : CelAt w3 w2.heap.size 0 (G x y) := (cel_new' w2 (G x y) _ PQ _).same (hb3.block _ (by simp))
              have k31 := k3.2.1
              rw [P] at k31
              clear hb3 b3
              go_wp2_with fail
              go_at_call 40
              refine (refAt bc g cap W H N _ ((x : Int) - 1) y _ HC3.out (by omega) (by omega) (by omega) (by omega)).mono ?_
              rintro e w4 ⟨rfl, hb4⟩
              have ty : ((x : Int) - 1).toNat = x - 1 := by omega
              simp only [Int.toNat_natCast, ty, Hbl.out hx1]
              have HC4 : Hid (Cels w4 bc g cap W H N (bk W G m)) := HC3.out.below hb4
              have K4 : Keep (fun i => i = g) w w4 := K3.thenBelow hb4
              have k4 : CelAt w4 w2.heap.size 0 (G x y) := k3.below hb4 k3.lt
              have k41 := k4.2.1
              rw [P] at k41
              clear hb4 k31
              go_wp2_with fail
              go_roundw
              case rel =>
                refine ⟨x + 1, m + 1, by omega, by have := Hm.out; omega, by go_num, HC4.out.congr ?_, K4⟩
                have := bk_next W H G x y hlx (by omega)
                rw [Hm.out] at this
                exact this
              case measure => simp [intOf]; omega
            · by_cases hx1 : 1 ≤ x
              · have P1 : ((G x y).p == 1) = false := by simpa using hp.1
                have P2 : ((G x y).p == 2) = false := by simpa using hp.2
                go_wp2_with fail
                go_at_call 40
                refine (refAt bc g cap W H N _ x y _ HC.out (by omega) (by omega) (by omega) (by omega)).mono ?_
                rintro e w2 ⟨rfl, hb2⟩
                simp only [Int.toNat_natCast, hbk]
                have HC2 : Hid (Cels w2 bc g cap W H N (bk W G m)) := HC.out.below hb2
                have K2 : Keep (fun i => i = g) w w2 := hK.thenBelow hb2
                have c02 := HC2.out.c0
                have bl2 := HC2.out.lt
                have gl2 := HC2.out.glt
                clear hb2 HC hK c0
                go_wp2_with fail
                go_at_call 40
                refine (refAt bc g cap W H N _ ((x : Int) + 1) y _ (HC2.out.below ((Below.refl _ _).alloc (Nat.le_refl _) _)) (by omega) (by omega) (by omega) (by omega)).mono ?_
                rintro e w3 ⟨rfl, hb3⟩
                have tx : ((x : Int) + 1).toNat = x + 1 := by omega
                simp only [Int.toNat_natCast, tx, hbr]
                have b3 : Below w2.heap.size w2 w3 := ((Below.refl _ _).alloc (Nat.le_refl _) _).trans (hb3.mono (by simp))
                have HC3 : Hid (Cels w3 bc g cap W H N (bk W G m)) := HC2.out.below b3
                have K3 : Keep (fun i => i = g) w w3 := K2.thenBelow b3
                have k3 : CelAt w3 w2.heap.size 0 (G x y) := (cel_new' w2 (G x y) _ rfl _).same (hb3.block _ (by simp))
                have k31 := k3.2.1
                clear hb3 b3
                go_wp2_with fail
                go_at_call 40
                refine (refAt bc g cap W H N _ ((x : Int) - 1) y _ HC3.out (by omega) (by omega) (by omega) (by omega)).mono ?_
                rintro e w4 ⟨rfl, hb4⟩
                have ty : ((x : Int) - 1).toNat = x - 1 := by omega
                simp only [Int.toNat_natCast, ty, Hbl.out hx1]
                have HC4 : Hid (Cels w4 bc g cap W H N (bk W G m)) := HC3.out.below hb4
                have K4 : Keep (fun i => i = g) w w4 := K3.thenBelow hb4
                have k4 : CelAt w4 w2.heap.size 0 (G x y) := k3.below hb4 k3.lt
                have k41 := k4.2.1
                clear hb4 k31
                go_wp2_with fail
                go_roundw
                case rel =>
                  refine ⟨x + 1, m + 1, by omega, by have := Hm.out; omega, by go_num, HC4.out.congr ?_, K4⟩
                  have := bk_next W H G x y hlx (by omega)
                  rw [Hm.out] at this
                  exact this
                case measure => simp [intOf]; omega
              · have hx0 : (x : Int) < 1 := by omega
                have P1 : ((G x y).p == 1) = false := by simpa using hp.1
                have P2 : ((G x y).p == 2) = false := by simpa using hp.2
                go_wp2_with fail
                go_at_call 40
                refine (refAt bc g cap W H N _ x y _ HC.out (by omega) (by omega) (by omega) (by omega)).mono ?_
                rintro e w2 ⟨rfl, hb2⟩
                simp only [Int.toNat_natCast, hbk]
                have HC2 : Hid (Cels w2 bc g cap W H N (bk W G m)) := HC.out.below hb2
                have K2 : Keep (fun i => i = g) w w2 := hK.thenBelow hb2
                have c02 := HC2.out.c0
                have bl2 := HC2.out.lt
                have gl2 := HC2.out.glt
                clear hb2 HC hK c0
                go_wp2_with fail
                go_at_call 40
                refine (refAt bc g cap W H N _ ((x : Int) + 1) y _ (HC2.out.below ((Below.refl _ _).alloc (Nat.le_refl _) _)) (by omega) (by omega) (by omega) (by omega)).mono ?_
                rintro e w3 ⟨rfl, hb3⟩
                have tx : ((x : Int) + 1).toNat = x + 1 := by omega
                simp only [Int.toNat_natCast, tx, hbr]
                have b3 : Below w2.heap.size w2 w3 := ((Below.refl _ _).alloc (Nat.le_refl _) _).trans (hb3.mono (by simp))
                have HC3 : Hid (Cels w3 bc g cap W H N (bk W G m)) := HC2.out.below b3
                have K3 : Keep (fun i => i = g) w w3 := K2.thenBelow b3
                have k3 : CelAt w3 w2.heap.size 0 (G x y) := (cel_new' w2 (G x y) _ rfl _).same (hb3.block _ (by simp))
                have k31 := k3.2.1
                clear hb3 b3
                go_wp2_with fail
                go_roundw
                case rel =>
                  refine ⟨x + 1, m + 1, by omega, by have := Hm.out; omega, by go_num, HC3.out.congr ?_, K3⟩
                  have := bk_next W H G x y hlx (by omega)
                  rw [Hm.out] at this
                  exact this
                case measure => simp [intOf]; omega
          · rcases (by omega : (G x y).p = 1 ∨ (G x y).p = 2 ∨ ((G x y).p ≠ 1 ∧ (G x y).p ≠ 2)) with hp | hp | hp
            · by_cases hx1 : 1 ≤ x
              · have P : (G x y).p = 1 := hp
                have PQ := P
                go_wp2_with fail
                go_at_call 40
                refine (refAt bc g cap W H N _ x y _ HC.out (by omega) (by omega) (by omega) (by omega)).mono ?_
                rintro e w2 ⟨rfl, hb2⟩
                simp only [Int.toNat_natCast, hbk]
                have HC2 : Hid (Cels w2 bc g cap W H N (bk W G m)) := HC.out.below hb2
                have K2 : Keep (fun i => i = g) w w2 := hK.thenBelow hb2
                have c02 := HC2.out.c0
                have bl2 := HC2.out.lt
                have gl2 := HC2.out.glt
                clear hb2 HC hK c0
                go_wp2_with fail
                go_at_call 40
                refine (refAt bc g cap W H N _ ((x : Int) - 1) y _ (HC2.out.below ((Below.refl _ _).alloc (Nat.le_refl _) _)) (by omega) (by omega) (by omega) (by omega)).mono ?_
                rintro e w4 ⟨rfl, hb4⟩
                have ty : ((x : Int) - 1).toNat = x - 1 := by omega
                simp only [Int.toNat_natCast, ty, Hbl.out hx1]
                have b4 : Below w2.heap.size w2 w4 := ((Below.refl _ _).alloc (Nat.le_refl _) _).trans (hb4.mono (by simp))
                have HC4 : Hid (Cels w4 bc g cap W H N (bk W G m)) := HC2.out.below b4
                have K4 : Keep (fun i => i = g) w w4 := K2.thenBelow b4
                have k4 : CelAt w4 w2.heap.size 0 (G x y) := (cel_new' w2 (G x y) _ PQ _).same (hb4.block _ (by simp))
                have k41 := k4.2.1
                rw [P] at k41
                clear hb4 b4
                go_wp2_with fail
                have C5 := HC4.out
                have K5 := K4
                have k5 := k4
                clear k41
                generalize w4 = WW at *
                have hl : y * W + x < N := by rw [HN.out]; exact place_lt hlx hlt
                rw [Hm.out] at hl
                obtain ⟨mm, hmm⟩ : ∃ mm, y * W = mm := ⟨_, rfl⟩
                have hv1 : IntKind.i64.wrap ((y : Int) * (W : Int)) = (mm : Int) := by rw [← Int.natCast_mul, hmm]; exact wrap_id _ (by omega) (by have := Hm.out; omega)
                have hv2 : IntKind.i64.wrap ((mm : Int) + (x : Int)) = (m : Int) := by have := Hm.out; rw [wrap_id _ (by omega) (by omega)]; omega
                have hi1 : (0 : Int) ≤ (m : Int) := by omega
                have hi2 : (m : Int) < (N : Int) := by omega
                clear hmm
                have tgt := C5.grid.cel x y hlx hlt
                rw [Hm.out] at tgt
                obtain ⟨t0, t1, t2, t3, t4, t5, t6⟩ := tgt
                have fr := C5.grid.free
                have q0 := C5.c0
                have q2 := C5.c2
                have s3 := k5.lt
                obtain ⟨d0, d1, d2, d3, d4, d5, d6⟩ := k5
                have lb := C5.lt
                have lg := C5.glt
                have ng1 : g ≠ bc := fun e => C5.ne e.symm
                have ng2 : g ≠ w2.heap.size := by omega
                generalize w2.heap.size = B2 at *
                have HC5 : Hid (Cels WW bc g cap W H N (bk W G m)) := C5
                clear C5
                go_region_held3 (fun w' => w'.cell? ⟨bc, 0, none⟩ = some (.int .i64 W) ∧ w'.cell? ⟨bc, 2, none⟩ = some (.slice (some ⟨g, 0, none⟩) N cap) ∧ w'.cell? ⟨B2, 2, none⟩ = some (.int .i64 (G x y).n.f) ∧ w'.cell? ⟨B2, 3, none⟩ = some (.int .i64 (G x y).n.b) ∧ w'.cell? ⟨B2, 4, none⟩ = some (.bool (G x y).n.bo) ∧ w'.cell? ⟨B2, 5, none⟩ = some (.bool (G x y).n.un) ∧ w'.cell? ⟨B2, 6, none⟩ = some (.bool (G x y).n.re) ∧ (w'.cell? ⟨g, m * 7, none⟩).isSome = true ∧ (w'.cell? ⟨g, m * 7 + 1, none⟩).isSome = true ∧ (w'.cell? ⟨g, m * 7 + 2, none⟩).isSome = true ∧ (w'.cell? ⟨g, m * 7 + 3, none⟩).isSome = true ∧ (w'.cell? ⟨g, m * 7 + 4, none⟩).isSome = true ∧ (w'.cell? ⟨g, m * 7 + 5, none⟩).isSome = true ∧ (w'.cell? ⟨g, m * 7 + 6, none⟩).isSome = true ∧ (∀ o, w'.frozen? ⟨g, o, none⟩ = false)) (simp [*, World.cell?_setCell_far, isSome_set]) (first | (go_at_call 51; refine (refBlank (G x y).n _).mono ?_; rintro e w5 ⟨rfl, hb5⟩; have e1 := hb5.cells lb; have e2 := hb5.cells s3; have e3 := hb5.cells lg; have e4 := hb5.marks lg))
                have hb5 : Below WW.heap.size WW w5 := below_drew' hb5
                have C6 := (HC5.out.below hb5).put hlx hlt (blk (G x y).n)
                rw [Hm.out] at C6
                have K6 : Keep (fun i => i = g) w (put7 w5 g (m * 7) (blk (G x y).n)) := (K5.thenBelow hb5).put7 _ _ _ (fun _ => rfl)
                generalize hW6 : put7 w5 g (m * 7) (blk (G x y).n) = w6 at *
                unfold put7 at hW6
                rw [hW6]
                rename_i hS
                clear hS hW6 e1 e2 e3 e4 q0 q2 d0 d1 d2 d3 d4 d5 d6 t0 t1 t2 t3 t4 t5 t6 fr
                go_wp2_with fail
                go_roundw
                case rel =>
                  refine ⟨x + 1, m + 1, by omega, by have := Hm.out; omega, by go_num, C6.congr ?_, K6⟩
                  have := bk_put W H G x y hlx ⟨by omega, hp⟩
                  rw [Hm.out] at this
                  exact this
                case measure => simp [intOf]; omega
              · have hx0 : (x : Int) < 1 := by omega
                have P : (G x y).p = 1 := hp
                have PQ := P
                go_wp2_with fail
                go_at_call 40
                refine (refAt bc g cap W H N _ x y _ HC.out (by omega) (by omega) (by omega) (by omega)).mono ?_
                rintro e w2 ⟨rfl, hb2⟩
                simp only [Int.toNat_natCast, hbk]
                have HC2 : Hid (Cels w2 bc g cap W H N (bk W G m)) := HC.out.below hb2
                have K2 : Keep (fun i => i = g) w w2 := hK.thenBelow hb2
                have c02 := HC2.out.c0
                have bl2 := HC2.out.lt
                have gl2 := HC2.out.glt
                clear hb2 HC hK c0
                go_wp2_with fail
                generalize hWW : w2.alloc _ = WW
                have b5 : Below w2.heap.size w2 WW := by rw [← hWW]; exact (Below.refl _ _).alloc (Nat.le_refl _) _
                have C5 : Cels WW bc g cap W H N (bk W G m) := HC2.out.below b5
                have K5 : Keep (fun i => i = g) w WW := K2.thenBelow b5
                have k5 : CelAt WW w2.heap.size 0 (G x y) := by
                  rw [← hWW]
                  refine ⟨?_, ?_, ?_, ?_, ?_, ?_, ?_⟩ <;> first | (simp [go_sem]; done) | (simp [go_sem, P]; done)
                clear hWW b5
                have hl : y * W + x < N := by rw [HN.out]; exact place_lt hlx hlt
                rw [Hm.out] at hl
                obtain ⟨mm, hmm⟩ : ∃ mm, y * W = mm := ⟨_, rfl⟩
                have hv1 : IntKind.i64.wrap ((y : Int) * (W : Int)) = (mm : Int) := by rw [← Int.natCast_mul, hmm]; exact wrap_id _ (by omega) (by have := Hm.out; omega)
                have hv2 : IntKind.i64.wrap ((mm : Int) + (x : Int)) = (m : Int) := by have := Hm.out; rw [wrap_id _ (by omega) (by omega)]; omega
                have hi1 : (0 : Int) ≤ (m : Int) := by omega
                have hi2 : (m : Int) < (N : Int) := by omega
                clear hmm
                have tgt := C5.grid.cel x y hlx hlt
                rw [Hm.out] at tgt
                obtain ⟨t0, t1, t2, t3, t4, t5, t6⟩ := tgt
                have fr := C5.grid.free
                have q0 := C5.c0
                have q2 := C5.c2
                have s3 := k5.lt
                obtain ⟨d0, d1, d2, d3, d4, d5, d6⟩ := k5
                have lb := C5.lt
                have lg := C5.glt
                have ng1 : g ≠ bc := fun e => C5.ne e.symm
                have ng2 : g ≠ w2.heap.size := by omega
                generalize w2.heap.size = B2 at *
                have HC5 : Hid (Cels WW bc g cap W H N (bk W G m)) := C5
                clear C5
                go_region_held3 (fun w' => w'.cell? ⟨bc, 0, none⟩ = some (.int .i64 W) ∧ w'.cell? ⟨bc, 2, none⟩ = some (.slice (some ⟨g, 0, none⟩) N cap) ∧ w'.cell? ⟨B2, 2, none⟩ = some (.int .i64 (G x y).n.f) ∧ w'.cell? ⟨B2, 3, none⟩ = some (.int .i64 (G x y).n.b) ∧ w'.cell? ⟨B2, 4, none⟩ = some (.bool (G x y).n.bo) ∧ w'.cell? ⟨B2, 5, none⟩ = some (.bool (G x y).n.un) ∧ w'.cell? ⟨B2, 6, none⟩ = some (.bool (G x y).n.re) ∧ (w'.cell? ⟨g, m * 7, none⟩).isSome = true ∧ (w'.cell? ⟨g, m * 7 + 1, none⟩).isSome = true ∧ (w'.cell? ⟨g, m * 7 + 2, none⟩).isSome = true ∧ (w'.cell? ⟨g, m * 7 + 3, none⟩).isSome = true ∧ (w'.cell? ⟨g, m * 7 + 4, none⟩).isSome = true ∧ (w'.cell? ⟨g, m * 7 + 5, none⟩).isSome = true ∧ (w'.cell? ⟨g, m * 7 + 6, none⟩).isSome = true ∧ (∀ o, w'.frozen? ⟨g, o, none⟩ = false)) (simp [*, World.cell?_setCell_far, isSome_set]) (first | (go_at_call 51; refine (refBlank (G x y).n _).mono ?_; rintro e w5 ⟨rfl, hb5⟩; have e1 := hb5.cells lb; have e2 := hb5.cells s3; have e3 := hb5.cells lg; have e4 := hb5.marks lg))
                have hb5 : Below WW.heap.size WW w5 := below_drew' hb5
                have C6 := (HC5.out.below hb5).put hlx hlt (blk (G x y).n)
                rw [Hm.out] at C6
                have K6 : Keep (fun i => i = g) w (put7 w5 g (m * 7) (blk (G x y).n)) := (K5.thenBelow hb5).put7 _ _ _ (fun _ => rfl)
                generalize hW6 : put7 w5 g (m * 7) (blk (G x y).n) = w6 at *
                unfold put7 at hW6
                rw [hW6]
                rename_i hS
                clear hS hW6 e1 e2 e3 e4 q0 q2 d0 d1 d2 d3 d4 d5 d6 t0 t1 t2 t3 t4 t5 t6 fr
                go_wp2_with fail
                go_roundw
                case rel =>
                  refine ⟨x + 1, m + 1, by omega, by have := Hm.out; omega, by go_num, C6.congr ?_, K6⟩
                  have := bk_put W H G x y hlx ⟨by omega, hp⟩
                  rw [Hm.out] at this
                  exact this
                case measure => simp [intOf]; omega
            · have hx1 : 1 ≤ x := (ha.tail x y hlx hlt hp).1
              have P : (G x y).p = 2 := hp
              have PQ := P
              have PL : (G (x - 1) y).p = 1 := (ha.tail x y hlx hlt hp).2
              go_wp2_with fail
              go_at_call 40
              refine (refAt bc g cap W H N _ x y _ HC.out (by omega) (by omega) (by omega) (by omega)).mono ?_
              rintro e w2 ⟨rfl, hb2⟩
              simp only [Int.toNat_natCast, hbk]
              have HC2 : Hid (Cels w2 bc g cap W H N (bk W G m)) := HC.out.below hb2
              have K2 : Keep (fun i => i = g) w w2 := hK.thenBelow hb2
              have c02 := HC2.out.c0
              have bl2 := HC2.out.lt
              have gl2 := HC2.out.glt
              clear hb2 HC hK c0
              go_wp2_with fail
              go_at_call 40
              refine (refAt bc g cap W H N _ ((x : Int) - 1) y _ (HC2.out.below ((Below.refl _ _).alloc (Nat.le_refl _) _)) (by omega) (by omega) (by omega) (by omega)).mono ?_
              rintro e w4 ⟨rfl, hb4⟩
              have ty : ((x : Int) - 1).toNat = x - 1 := by omega
              simp only [Int.toNat_natCast, ty, Hbl.out hx1]
              have b4 : Below w2.heap.size w2 w4 := ((Below.refl _ _).alloc (Nat.le_refl _) _).trans (hb4.mono (by simp))
              have HC4 : Hid (Cels w4 bc g cap W H N (bk W G m)) := HC2.out.below b4
              have K4 : Keep (fun i => i = g) w w4 := K2.thenBelow b4
              have k4 : CelAt w4 w2.heap.size 0 (G x y) := (cel_new' w2 (G x y) _ PQ _).same (hb4.block _ (by simp))
              have k41 := k4.2.1
              rw [P] at k41
              clear hb4 b4
              go_wp2_with fail
              go_roundw
              case rel =>
                refine ⟨x + 1, m + 1, by omega, by have := Hm.out; omega, by go_num, HC4.out.congr ?_, K4⟩
                have := bk_next W H G x y hlx (by omega)
                rw [Hm.out] at this
                exact this
              case measure => simp [intOf]; omega
            · by_cases hx1 : 1 ≤ x
              · have P1 : ((G x y).p == 1) = false := by simpa using hp.1
                have P2 : ((G x y).p == 2) = false := by simpa using hp.2
                go_wp2_with fail
                go_at_call 40
                refine (refAt bc g cap W H N _ x y _ HC.out (by omega) (by omega) (by omega) (by omega)).mono ?_
                rintro e w2 ⟨rfl, hb2⟩
                simp only [Int.toNat_natCast, hbk]
                have HC2 : Hid (Cels w2 bc g cap W H N (bk W G m)) := HC.out.below hb2
                have K2 : Keep (fun i => i = g) w w2 := hK.thenBelow hb2
                have c02 := HC2.out.c0
                have bl2 := HC2.out.lt
                have gl2 := HC2.out.glt
                clear hb2 HC hK c0
                go_wp2_with fail
                go_at_call 40
                refine (refAt bc g cap W H N _ ((x : Int) - 1) y _ (HC2.out.below ((Below.refl _ _).alloc (Nat.le_refl _) _)) (by omega) (by omega) (by omega) (by omega)).mono ?_
                rintro e w4 ⟨rfl, hb4⟩
                have ty : ((x : Int) - 1).toNat = x - 1 := by omega
                simp only [Int.toNat_natCast, ty, Hbl.out hx1]
                have b4 : Below w2.heap.size w2 w4 := ((Below.refl _ _).alloc (Nat.le_refl _) _).trans (hb4.mono (by simp))
                have HC4 : Hid (Cels w4 bc g cap W H N (bk W G m)) := HC2.out.below b4
                have K4 : Keep (fun i => i = g) w w4 := K2.thenBelow b4
                have k4 : CelAt w4 w2.heap.size 0 (G x y) := (cel_new' w2 (G x y) _ rfl _).same (hb4.block _ (by simp))
                have k41 := k4.2.1
                clear hb4 b4
                go_wp2_with fail
                go_roundw
                case rel =>
                  refine ⟨x + 1, m + 1, by omega, by have := Hm.out; omega, by go_num, HC4.out.congr ?_, K4⟩
                  have := bk_next W H G x y hlx (by omega)
                  rw [Hm.out] at this
                  exact this
                case measure => simp [intOf]; omega
              · have hx0 : (x : Int) < 1 := by omega
                have P1 : ((G x y).p == 1) = false := by simpa using hp.1
                have P2 : ((G x y).p == 2) = false := by simpa using hp.2
                go_wp2_with fail
                go_at_call 40
                refine (refAt bc g cap W H N _ x y _ HC.out (by omega) (by omega) (by omega) (by omega)).mono ?_
                rintro e w2 ⟨rfl, hb2⟩
                simp only [Int.toNat_natCast, hbk]
                have HC2 : Hid (Cels w2 bc g cap W H N (bk W G m)) := HC.out.below hb2
                have K2 : Keep (fun i => i = g) w w2 := hK.thenBelow hb2
                have c02 := HC2.out.c0
                have bl2 := HC2.out.lt
                have gl2 := HC2.out.glt
                clear hb2 HC hK c0
                go_wp2_with fail
                go_roundw
                case rel =>
                  refine ⟨x + 1, m + 1, by omega, by have := Hm.out; omega, by go_num, (HC2.out.below ((Below.refl _ _).alloc (Nat.le_refl _) _)).congr ?_, (K2.alloc _)⟩
                  have := bk_next W H G x y hlx (by omega)
                  rw [Hm.out] at this
                  exact this
                case measure => simp [intOf]; omega
        · obtain rfl : x = W := by omega
          go_wp2_with fail
          go_roundw
          case rel => exact ⟨y + 1, m, by omega, by rw [Nat.succ_mul]; exact Hm.out, by go_num, HC.out, hK⟩
          case measure => simp [intOf]; omega
    · obtain rfl : y = H := by omega
      go_wp2_with fail
      go_end0
      refine ⟨rfl, HC0.out.congr ?_, hK⟩
      rw [← Hm0.out]
      exact bk_all W y G
end Go.Proofs.YtknhohbepkapdaaDoor
