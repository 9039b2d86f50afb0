/- Texts of the proof, one behind the other: RfG. -/
import Derived.Test.YtjlfibhbfdckpaaGreatDoorK07
import Derived.Test.YtjlfibhbfdckpaaGreatDoorK26
/- The document's cells: sized. -/
namespace Go.Proofs.YtjlfibhbfdckpaaGreatDoor
open Go.RowKit
attribute [local go_sem ↓] Go.wp_at_zero Go.wp_at_succ
set_option maxRecDepth 100000 in
set_option maxHeartbeats 10000000 in
theorem refSized (bc g cap W H N W' H' : Nat) (G : Nat → Nat → Cel) (w : World) (h : Cels w bc g cap W H N G) (hwf : Wf W H G) (w1 : 1 ≤ W') (w2 : W' ≤ 40) (h1 : 1 ≤ H') (h2 : H' ≤ 20) :
    Calls Tryz.prog 90 #[.pointer (some ⟨bc, 0, none⟩), .int .i64 W', .int .i64 H'] w fun e w' => ∃ g' cap', e = .returned (.tuple #[]) ∧ Cels w' bc g' cap' W' H' (H' * W') (sizedG W H W' G) ∧ Keep (fun i => i = bc) w w' ∧ w.heap.size ≤ g' := by
  have bl := h.lt
  have gl := h.glt
  have hw2 := h.w2
  have hh2 := h.h2
  have Hwf : Hid (Wf W H G) := hwf
  have hl0 : Hid (Cels w bc g cap W H N G) := h
  clear h hwf
  obtain ⟨N', hN'⟩ : ∃ N', H' * W' = N' := ⟨_, rfl⟩
  rw [hN']
  have HN' : Hid (N' = H' * W') := hN'.symm
  clear hN'
  go_enter Tryz.func90, Tryz.ntmps90
  go_wp2_with fail
  go_at_call 74
  refine (refMade W' H' _ w1 w2 h1 h2).mono ?_
  rintro e wm ⟨bd, gd, cd, rfl, hbd, hgd, Dm, Bm⟩
  rw [← HN'.out] at Dm
  have hNle := Dm.nle
  have HDm : Hid (Cels wm bd gd cd W' H' N' (fun _ _ => blk Pn.plain)) := Dm
  have nbg := Dm.ne
  clear Dm
  go_wp2_with fail
  go_loopw [7] (fun i w' => ∃ (y : Nat), y ≤ H' ∧ i = .int .i64 y ∧ Cels w' bc g cap W H N G ∧ Cels w' bd gd cd W' H' N' (cp W H G 0 y) ∧ Below w.heap.size w w') (fun i _ => H' - (intOf i).toNat)
  case atStart => exact ⟨0, by omega, rfl, hl0.out.below Bm, by rw [cp_start]; exact HDm.out, Bm⟩
  case round =>
    obtain ⟨y, hy, rfl, hC, hD, hB⟩ := hrel
    have HC0 : Hid (Cels wr bc g cap W H N G) := hC
    have HD0 : Hid (Cels wr bd gd cd W' H' N' (cp W H G 0 y)) := hD
    have c1 := hC.c1
    clear hC hD HDm Bm hl0
    rcases (by omega : (y < H' ∧ y < H) ∨ (y < H' ∧ H ≤ y) ∨ H' ≤ y) with ⟨a1, a2⟩ | ⟨a1, a2⟩ | a1
    · have a1' : (y : Int) < H' := by omega
      have a2' : (y : Int) < H := by omega
      go_wp2_with fail
      go_loopw [8] (fun i w' => ∃ (x : Nat), x ≤ W' ∧ i = .int .i64 x ∧ Cels w' bc g cap W H N G ∧ Cels w' bd gd cd W' H' N' (cp W H G x y) ∧ Below w.heap.size w w') (fun i _ => W' - (intOf i).toNat)
      case atStart => exact ⟨0, by omega, rfl, HC0.out, HD0.out, hB⟩
      case round =>
        clear HC0 HD0 c1 hB
        obtain ⟨x, hx, rfl, hC, hD, hB⟩ := hrel
        have c0 := hC.c0
        rcases (by omega : (x < W' ∧ x < W) ∨ (x < W' ∧ W ≤ x) ∨ W' ≤ x) with ⟨b1, b2⟩ | ⟨b1, b2⟩ | b1
        · have b1' : (x : Int) < W' := by omega
          have b2' : (x : Int) < W := by omega
          have hl : y * W' + x < N' := by rw [HN'.out]; exact place_lt b1 a1
          obtain ⟨m, hm⟩ : ∃ m, y * W' + x = m := ⟨_, rfl⟩
          obtain ⟨mm, hmm⟩ : ∃ mm, y * W' = mm := ⟨_, rfl⟩
          have Hm : Hid (y * W' + x = m) := hm
          rw [hm] at hl
          rw [hmm] at hm
          have hv1 : IntKind.i64.wrap ((y : Int) * (W' : Int)) = (mm : Int) := by rw [← Int.natCast_mul, hmm]; exact wrap_id _ (by omega) (by omega)
          have hv2 : IntKind.i64.wrap ((mm : Int) + (x : Int)) = (m : Int) := by rw [wrap_id _ (by omega) (by omega)]; omega
          have hi1 : (0 : Int) ≤ (m : Int) := by omega
          have hi2 : (m : Int) < (N' : Int) := by omega
          clear hm hmm
          have tgt := hD.grid.cel x y b1 a1
          rw [Hm.out] at tgt
          obtain ⟨t0, t1, t2, t3, t4, t5, t6⟩ := tgt
          have fr := hD.grid.free
          have q2 := hD.c2
          have lb := hD.lt
          have lg := hD.glt
          have ng1 : gd ≠ bd := fun e => nbg e.symm
          have HC : Hid (Cels wr bc g cap W H N G) := hC
          have HD : Hid (Cels wr bd gd cd W' H' N' (cp W H G x y)) := hD
          clear hC hD
          go_wp2_with fail
          go_region_held3 (fun w' => w'.cell? ⟨bd, 2, none⟩ = some (.slice (some ⟨gd, 0, none⟩) N' cd) ∧ (w'.cell? ⟨gd, m * 7, none⟩).isSome = true ∧ (w'.cell? ⟨gd, m * 7 + 1, none⟩).isSome = true ∧ (w'.cell? ⟨gd, m * 7 + 2, none⟩).isSome = true ∧ (w'.cell? ⟨gd, m * 7 + 3, none⟩).isSome = true ∧ (w'.cell? ⟨gd, m * 7 + 4, none⟩).isSome = true ∧ (w'.cell? ⟨gd, m * 7 + 5, none⟩).isSome = true ∧ (w'.cell? ⟨gd, m * 7 + 6, none⟩).isSome = true ∧ (∀ o, w'.frozen? ⟨gd, o, none⟩ = false)) (simp [*, World.cell?_setCell_far, isSome_set]) (first | (go_at_call 94; refine (refAt bc g cap W H N G x y _ HC.out.drew (by omega) (by omega) (by omega) (by omega)).mono ?_; rintro e w5 ⟨rfl, hb5⟩; simp only [Int.toNat_natCast]; have e1 := hb5.cells lb; have e3 := hb5.cells lg; have e4 := hb5.marks lg))
          have hb5 : Below wr.heap.size wr w5 := below_drew' hb5
          have D6 := (HD.out.below hb5).put b1 a1 (G x y)
          rw [Hm.out] at D6
          have C6 : Cels (put7 w5 gd (m * 7) (G x y)) bc g cap W H N G := (HC.out.below hb5).same (put7_other _ _ _ _ _ (by omega)) (put7_other _ _ _ _ _ (by omega))
          have B6 : Below w.heap.size w (put7 w5 gd (m * 7) (G x y)) := ((Keep.below (fun i => i = gd) (hB.trans (hb5.mono hB.size))).put7 _ _ _ (fun _ => rfl)).toBelow (Nat.le_refl _) (fun i hi => by omega)
          generalize hW6 : put7 w5 gd (m * 7) (G x y) = w6 at *
          unfold put7 at hW6
          rw [hW6]
          rename_i hS
          clear hS hW6 e1 e3 e4 q2 t0 t1 t2 t3 t4 t5 t6 fr HC HD hB hb5
          go_wp2_with fail
          go_roundw
          case rel => exact ⟨x + 1, by omega, by go_num, C6, D6.congr (cp_put W H W' H' G x y b2 a2), B6⟩
          case measure => simp [intOf]; omega
        · have b1' : (x : Int) < W' := by omega
          have b2' : (W : Int) ≤ x := by omega
          have HC : Hid (Cels wr bc g cap W H N G) := hC
          have HD : Hid (Cels wr bd gd cd W' H' N' (cp W H G x y)) := hD
          clear hC hD
          go_wp2_with fail
          go_roundw
          case rel => exact ⟨y + 1, by omega, by go_num, HC.out, HD.out.congr (cp_line W H W' H' G x y (by omega)), hB⟩
          case measure => simp [intOf]; omega
        · have b1' : (W' : Int) ≤ x := by omega
          have HC : Hid (Cels wr bc g cap W H N G) := hC
          have HD : Hid (Cels wr bd gd cd W' H' N' (cp W H G x y)) := hD
          clear hC hD
          go_wp2_with fail
          go_roundw
          case rel => exact ⟨y + 1, by omega, by go_num, HC.out, HD.out.congr (cp_line W H W' H' G x y (by omega)), hB⟩
          case measure => simp [intOf]; omega
    · have a1' : (y : Int) < H' := by omega
      have a2' : (H : Int) ≤ y := by omega
      have hCa := HD0.out.congr (cp_all W H W' H' G y (by omega))
      have HCa : Hid (Cels wr bd gd cd W' H' N' (fun a b => if a < W ∧ b < H then G a b else blk Pn.plain)) := hCa
      clear hCa HD0
      go_wp2_with fail
      go_at_call 142
      refine (refBroken bd gd cd W' H' N' _ _ HCa.out (aw_sized Hwf.out)).mono ?_
      rintro e w4 ⟨rfl, D4, K4⟩
      have C4 : Cels w4 bc g cap W H N G := HC0.out.same (K4.block _ HC0.out.lt (by omega)) (K4.block _ HC0.out.glt (by omega))
      have B4 : Below w.heap.size w w4 := hB.trans (K4.toBelow hB.size (fun i hi => by omega))
      have hbc := C4.blk
      have q0 := C4.c0
      have q1 := C4.c1
      have q2 := C4.c2
      have fb := frozen_of_block hbc
      have d2 := D4.c2
      have l4 := C4.lt
      have HD4 : Hid (Cels w4 bd gd cd W' H' N' (lastG W' (fun a b => if a < W ∧ b < H then G a b else blk Pn.plain))) := D4
      have Hbc : Hid (w4.heap[bc]? = some (.cells #[.int .i64 W, .int .i64 H, .slice (some ⟨g, 0, none⟩) N cap] 122)) := hbc
      have nbd : bc ≠ bd := by omega
      clear C4 D4 K4 HCa hbc
      go_wp2_with fail
      go_end0
      have K9 : Keep (fun i => i = bc) w (((w4.setCell ⟨bc, 0, none⟩ (.int .i64 W')).setCell ⟨bc, 1, none⟩ (.int .i64 H')).setCell ⟨bc, 2, none⟩ (.slice (some ⟨gd, 0, none⟩) N' cd)) :=
        (((Keep.below (fun i => i = bc) B4).setCell _ _ (fun _ => rfl)).setCell _ _ (fun _ => rfl)).setCell _ _ (fun _ => rfl)
      have hb9 := heap_set_same (heap_set_same (heap_set_same Hbc.out 0 (.int .i64 W')) 1 (.int .i64 H')) 2 (.slice (some ⟨gd, 0, none⟩) N' cd)
      have hg9 : (((w4.setCell ⟨bc, 0, none⟩ (.int .i64 W')).setCell ⟨bc, 1, none⟩ (.int .i64 H')).setCell ⟨bc, 2, none⟩ (.slice (some ⟨gd, 0, none⟩) N' cd)).heap[gd]? = w4.heap[gd]? := by
        have hne : gd ≠ bc := by omega
        rw [Below.heap_setCell _ _ _ _ hne, Below.heap_setCell _ _ _ _ hne, Below.heap_setCell _ _ _ _ hne]
      exact ⟨gd, cd, rfl, ⟨hb9, HD4.out.grid.same hg9, HN'.out, by omega, w1, w2, h1, h2⟩, K9, by omega⟩
    · have a1' : (H' : Int) ≤ y := by omega
      have hCa := HD0.out.congr (cp_all W H W' H' G y (by omega))
      have HCa : Hid (Cels wr bd gd cd W' H' N' (fun a b => if a < W ∧ b < H then G a b else blk Pn.plain)) := hCa
      clear hCa HD0
      go_wp2_with fail
      go_at_call 142
      refine (refBroken bd gd cd W' H' N' _ _ HCa.out (aw_sized Hwf.out)).mono ?_
      rintro e w4 ⟨rfl, D4, K4⟩
      have C4 : Cels w4 bc g cap W H N G := HC0.out.same (K4.block _ HC0.out.lt (by omega)) (K4.block _ HC0.out.glt (by omega))
      have B4 : Below w.heap.size w w4 := hB.trans (K4.toBelow hB.size (fun i hi => by omega))
      have hbc := C4.blk
      have q0 := C4.c0
      have q1 := C4.c1
      have q2 := C4.c2
      have fb := frozen_of_block hbc
      have d2 := D4.c2
      have l4 := C4.lt
      have HD4 : Hid (Cels w4 bd gd cd W' H' N' (lastG W' (fun a b => if a < W ∧ b < H then G a b else blk Pn.plain))) := D4
      have Hbc : Hid (w4.heap[bc]? = some (.cells #[.int .i64 W, .int .i64 H, .slice (some ⟨g, 0, none⟩) N cap] 122)) := hbc
      have nbd : bc ≠ bd := by omega
      clear C4 D4 K4 HCa hbc
      go_wp2_with fail
      go_end0
      have K9 : Keep (fun i => i = bc) w (((w4.setCell ⟨bc, 0, none⟩ (.int .i64 W')).setCell ⟨bc, 1, none⟩ (.int .i64 H')).setCell ⟨bc, 2, none⟩ (.slice (some ⟨gd, 0, none⟩) N' cd)) :=
        (((Keep.below (fun i => i = bc) B4).setCell _ _ (fun _ => rfl)).setCell _ _ (fun _ => rfl)).setCell _ _ (fun _ => rfl)
      have hb9 := heap_set_same (heap_set_same (heap_set_same Hbc.out 0 (.int .i64 W')) 1 (.int .i64 H')) 2 (.slice (some ⟨gd, 0, none⟩) N' cd)
      have hg9 : (((w4.setCell ⟨bc, 0, none⟩ (.int .i64 W')).setCell ⟨bc, 1, none⟩ (.int .i64 H')).setCell ⟨bc, 2, none⟩ (.slice (some ⟨gd, 0, none⟩) N' cd)).heap[gd]? = w4.heap[gd]? := by
        have hne : gd ≠ bc := by omega
        rw [Below.heap_setCell _ _ _ _ hne, Below.heap_setCell _ _ _ _ hne, Below.heap_setCell _ _ _ _ hne]
      exact ⟨gd, cd, rfl, ⟨hb9, HD4.out.grid.same hg9, HN'.out, by omega, w1, w2, h1, h2⟩, K9, by omega⟩
end Go.Proofs.YtjlfibhbfdckpaaGreatDoor
