/- Texts of the proof, one behind the other: PcH. -/
import Derived.Test.YtjlfibhbfdckpaaGreatDoorK54
/- The statement of pictures: opened. -/
namespace Go.Proofs.YtjlfibhbfdckpaaGreatDoor
open Go.RowKit
attribute [local go_sem ↓] Go.wp_at_zero Go.wp_at_succ
set_option maxHeartbeats 2000000 in
theorem lOpenedNo (x y : Int) (w : World) (hs : sizeB x y = false) :
    Calls Tryz.prog 9 #[.int .i64 x, .int .i64 y] w fun e w' => e = .returned (.tuple #[.agg (dkArr none none none), .bool true]) ∧ Below w.heap.size w w' := by
  go_enter Tryz.func9, Tryz.ntmps9
  go_wp2_with (first | (go_at_call 15; refine (kNewNo _ _ _ hs).mono ?_; rintro e w' ⟨rfl, hw'⟩; replace hw' := hw'.symm; subst hw') | (go_at_call 29; refine (rdNewNo _ _ _ hs).mono ?_; rintro e w' ⟨rfl, hw'⟩; replace hw' := hw'.symm; subst hw'))
  exact bodyPost_ret (v := .tuple #[.agg (dkArr none none none), .bool true]) (by simp [results, Tryz.results9, go_sem]) rfl ⟨rfl, (Below.refl _ _).alloc (Nat.le_refl _) _⟩
set_option maxHeartbeats 2000000 in
theorem lOpenedYes (W H : Nat) (w : World) (hs : sizeB W H = true) (hw : 2 ≤ w.heap.size) :
    Calls Tryz.prog 9 #[.int .i64 W, .int .i64 H] w fun e w' => ∃ D : Dv, e = .returned (.tuple #[.agg (dkArr D.xp D.yp D.sp), .bool true]) ∧ DvAt w' D ∧ D.L = [rootW W H] ∧ D.last = 0 ∧ Below w.heap.size w w' ∧ ∀ i, D.own i → w.heap.size ≤ i := by
  have hz := sizeB_iff.1 hs
  have Hs : Hid (sizeB W H = true) := hs
  go_enter Tryz.func9, Tryz.ntmps9
  go_wp2_with fail
  go_at_call 15
  refine (kNew W H _ (by omega) (by omega) (by omega) (by omega) (by rw [size_alloc]; omega)).mono ?_
  rintro e wa ⟨M, rfl, D1, b1, o1⟩
  rw [size_alloc] at b1 o1
  have c0 : wa.cell? ⟨w.heap.size, 0, none⟩ = some (.pointer none) := by rw [b1.cells (by omega), cell_of_block (heap_new w _)]; rfl
  have c1 : wa.cell? ⟨w.heap.size, 1, none⟩ = some (.pointer none) := by rw [b1.cells (by omega), cell_of_block (heap_new w _)]; rfl
  have c2 : wa.cell? ⟨w.heap.size, 2, none⟩ = some (.pointer none) := by rw [b1.cells (by omega), cell_of_block (heap_new w _)]; rfl
  have fz : ∀ o, wa.frozen? ⟨w.heap.size, o, none⟩ = false := fun o => by rw [b1.marks (by omega), frozen_of_block (heap_new w _)]
  have HB : Hid (Below w.heap.size w wa) := ((Below.refl _ _).alloc (Nat.le_refl _) _).trans (b1.mono (by omega))
  have hsz : w.heap.size + 1 ≤ wa.heap.size := by have := b1.size; rwa [size_alloc] at this
  have HD : Hid (DkAt wa M [rootW W H] 0 (H * W) (newR W H) newT) := D1
  have HO : Hid (∀ i, M.own [rootW W H] i → w.heap.size + 1 ≤ i ∧ i < wa.heap.size) := fun i hi => ⟨o1 i hi, D1.lt hi⟩
  clear D1 b1 o1
  go_wp2_with fail
  go_at_call 29
  refine (rdNew W H _ Hs.out (by omega)).mono ?_
  rintro e wb ⟨R, rfl, R1, b2, o2⟩
  replace HD : Hid (DkAt wb M [rootW W H] 0 (H * W) (newR W H) newT) := HD.out.below b2
  have HR : Hid (RkAt wb R [rootW W H] 0) := R1
  have HO2 : Hid (∀ i, R.own [rootW W H] i → wa.heap.size ≤ i ∧ i < wb.heap.size) := fun i hi => ⟨o2 i hi, R1.lt hi⟩
  replace HB : Hid (Below w.heap.size w wb) := HB.out.trans (b2.mono (by omega))
  replace c0 : wb.cell? ⟨w.heap.size, 0, none⟩ = some (.pointer none) := by rw [b2.cells (by omega)]; exact c0
  replace c1 : wb.cell? ⟨w.heap.size, 1, none⟩ = some (.pointer none) := by rw [b2.cells (by omega)]; exact c1
  replace c2 : wb.cell? ⟨w.heap.size, 2, none⟩ = some (.pointer none) := by rw [b2.cells (by omega)]; exact c2
  replace fz : ∀ o, wb.frozen? ⟨w.heap.size, o, none⟩ = false := fun o => by rw [b2.marks (by omega)]; exact fz o
  have s2 := b2.size
  clear R1 b2 o2
  go_wp2_with fail
  go_at_call 30
  refine (refNewYes W H _ (by omega) (by omega) (by omega) (by omega)).mono ?_
  rintro e wc ⟨bs, bc, g, cap, rfl, r1, r2, r3, Z1, b3⟩
  replace HD : Hid (DkAt wc M [rootW W H] 0 (H * W) (newR W H) newT) := HD.out.below b3
  replace HR : Hid (RkAt wc R [rootW W H] 0) := HR.out.below b3
  have HZ : Hid (RefAt wc bs bc g cap (H * W) (newR W H)) := Z1
  replace HB : Hid (Below w.heap.size w wc) := HB.out.trans (b3.mono (by omega))
  replace c0 : wc.cell? ⟨w.heap.size, 0, none⟩ = some (.pointer none) := by rw [b3.cells (by omega)]; exact c0
  replace c1 : wc.cell? ⟨w.heap.size, 1, none⟩ = some (.pointer none) := by rw [b3.cells (by omega)]; exact c1
  replace c2 : wc.cell? ⟨w.heap.size, 2, none⟩ = some (.pointer none) := by rw [b3.cells (by omega)]; exact c2
  replace fz : ∀ o, wc.frozen? ⟨w.heap.size, o, none⟩ = false := fun o => by rw [b3.marks (by omega)]; exact fz o
  have s3 := b3.size
  clear Z1 b3
  go_wp2_with fail
  have K : Keep (fun i => i = w.heap.size) wc (((wc.setCell ⟨w.heap.size, 0, none⟩ (.pointer (some ⟨M.t 0, 0, none⟩))).setCell ⟨w.heap.size, 1, none⟩ (.pointer (some ⟨R.d, 0, none⟩))).setCell ⟨w.heap.size, 2, none⟩ (.pointer (some ⟨bs, 0, none⟩))) := (((Keep.refl (fun i => i = w.heap.size) wc).setCell ⟨w.heap.size, 0, none⟩ _ (fun _ => rfl)).setCell ⟨w.heap.size, 1, none⟩ _ (fun _ => rfl)).setCell ⟨w.heap.size, 2, none⟩ _ (fun _ => rfl)
  have hno : ∀ i, (M.own [rootW W H] i ∨ R.own [rootW W H] i ∨ i = bs ∨ i = bc ∨ i = g) → w.heap.size + 1 ≤ i := by
    rintro i (hi | hi | hi)
    · exact (HO.out i hi).1
    · have := (HO2.out i hi).1; omega
    · omega
  refine bodyPost_ret (v := .tuple #[.agg (dkArr (some ⟨M.t 0, 0, none⟩) (some ⟨R.d, 0, none⟩) (some ⟨bs, 0, none⟩)), .bool true]) (by simp [results, Tryz.results9, go_sem, c0, c1, c2]) rfl ⟨⟨M, H * W, newR W H, newT, R, [rootW W H], 0, bs, bc, g, cap, H * W, newR W H⟩, rfl, ⟨HD.out.keep K (fun i hi e => by have := hno i (.inl hi); omega), HR.out.keep K (fun i hi e => by have := hno i (.inr (.inl hi)); omega), HZ.out.keepP K (by omega) (by omega) (by omega), ok_root W H, newR_ok (by omega) (by omega) (by omega) (by omega), newR_ok (by omega) (by omega) (by omega) (by omega), Int.le_refl 0, fun i hi hr => ?_, fun i hi hs => ?_, fun i hi hs => ?_⟩, rfl, rfl, HB.out.trans (K.toBelow (by omega) (fun i hi => by omega)), fun i hi => ?_⟩
  · have := (HO.out i hi).2; have := (HO2.out i hr).1; omega
  · have := (HO.out i hi).2
    have hs' : i = bs ∨ i = bc ∨ i = g := hs
    omega
  · have := (HO2.out i hi).2
    have hs' : i = bs ∨ i = bc ∨ i = g := hs
    omega
  · have := hno i hi; omega
/-- A desk of any size. -/
theorem lOpened (x y : Int) (w : World) (hw : 2 ≤ w.heap.size) :
    Calls Tryz.prog 9 #[.int .i64 x, .int .i64 y] w fun e w' => ∃ O px py ps, e = .returned (.tuple #[.agg (dkArr px py ps), .bool true]) ∧ OAt w' O px py ps ∧ Below w.heap.size w w' ∧ (∀ i, oOwn O i → w.heap.size ≤ i) ∧ oLast O = 0 := by
  cases hs : sizeB x y with
  | false =>
    refine (lOpenedNo x y w hs).mono ?_
    rintro e w' ⟨rfl, b⟩
    exact ⟨none, none, none, none, rfl, ⟨rfl, rfl, rfl⟩, b, fun i hi => False.elim hi, rfl⟩
  | true =>
    obtain ⟨a1, a2, a3, a4⟩ := sizeB_iff.1 hs
    obtain ⟨W, rfl⟩ := Int.eq_ofNat_of_zero_le (show 0 ≤ x by omega)
    obtain ⟨H, rfl⟩ := Int.eq_ofNat_of_zero_le (show 0 ≤ y by omega)
    refine (lOpenedYes W H w hs hw).mono ?_
    rintro e w' ⟨D, rfl, h, _, hl, b, u⟩
    exact ⟨some D, D.xp, D.yp, D.sp, rfl, ⟨rfl, rfl, rfl, h⟩, b, u, hl⟩
end Go.Proofs.YtjlfibhbfdckpaaGreatDoor
