/- Texts of the proof, one behind the other: RfG, RfB, WdRef. -/
import Derived.Test.YtknhohbepkapdaaDoorK03
import Derived.Test.YtknhohbepkapdaaDoorK05
import Derived.Test.YtknhohbepkapdaaDoorK15
import Derived.Test.YtknhohbepkapdaaDoorK17
import Derived.Below
import Derived.Deep.QuietTactic
import Derived.BigQuiet
import Derived.WalkSmall
/- The document's cells: sized. -/
namespace Go.Proofs.YtknhohbepkapdaaDoor
open Go.RowKit
attribute [local go_sem ↓] Go.wp_at_zero Go.wp_at_succ
set_option maxRecDepth 100000 in
set_option maxHeartbeats 10000000 in
theorem refSized (bc g cap W H N W' H' : Nat) (G : Nat → Nat → Cel) (w : World) (h : Cels w bc g cap W H N G) (hwf : Wf W H G) (w1 : 1 ≤ W') (w2 : W' ≤ 40) (h1 : 1 ≤ H') (h2 : H' ≤ 20) :
    Calls Tryd.prog 34 #[.pointer (some ⟨bc, 0, none⟩), .int .i64 W', .int .i64 H'] w fun e w' => ∃ g' cap', e = .returned (.tuple #[]) ∧ Cels w' bc g' cap' W' H' (H' * W') (sizedG W H W' G) ∧ Keep (fun i => i = bc) w w' ∧ w.heap.size ≤ g' := by
  have bl := h.lt
  have gl := h.glt
  have hw2 := h.w2
  have hh2 := h.h2
  have Hwf : Hid (Wf W H G) := hwf
  have hl0 : Hid (Cels w bc g cap W H N G) := h
  clear h hwf
  obtain ⟨N', hN'⟩ : ∃ N', H' * W' = N' := ⟨_, rfl⟩
  rw [hN']
  have HN' : Hid (N' = H' * W') := hN'.symm
  clear hN'
  go_enter Tryd.func34, Tryd.ntmps34
  go_wp2_with fail
  go_at_call 33
  refine (refMade W' H' _ w1 w2 h1 h2).mono ?_
  rintro e wm ⟨bd, gd, cd, rfl, hbd, hgd, Dm, Bm⟩
  rw [← HN'.out] at Dm
  have hNle := Dm.nle
  have HDm : Hid (Cels wm bd gd cd W' H' N' (fun _ _ => blk Pn.plain)) := Dm
  have nbg := Dm.ne
  clear Dm
  go_wp2_with fail
  go_loopw [7] (fun i w' => ∃ (y : Nat), y ≤ H' ∧ i = .int .i64 y ∧ Cels w' bc g cap W H N G ∧ Cels w' bd gd cd W' H' N' (cp W H G 0 y) ∧ Below w.heap.size w w') (fun i _ => H' - (intOf i).toNat)
  case atStart => exact ⟨0, by omega, rfl, hl0.out.below Bm, by rw [cp_start]; exact HDm.out, Bm⟩
  case round =>
    obtain ⟨y, hy, rfl, hC, hD, hB⟩ := hrel
    have HC0 : Hid (Cels wr bc g cap W H N G) := hC
    have HD0 : Hid (Cels wr bd gd cd W' H' N' (cp W H G 0 y)) := hD
    have c1 := hC.c1
    clear hC hD HDm Bm hl0
    rcases (by omega : (y < H' ∧ y < H) ∨ (y < H' ∧ H ≤ y) ∨ H' ≤ y) with ⟨a1, a2⟩ | ⟨a1, a2⟩ | a1
    · have a1' : (y : Int) < H' := by omega
      have a2' : (y : Int) < H := by omega
      go_wp2_with fail
      go_loopw [8] (fun i w' => ∃ (x : Nat), x ≤ W' ∧ i = .int .i64 x ∧ Cels w' bc g cap W H N G ∧ Cels w' bd gd cd W' H' N' (cp W H G x y) ∧ Below w.heap.size w w') (fun i _ => W' - (intOf i).toNat)
      case atStart => exact ⟨0, by omega, rfl, HC0.out, HD0.out, hB⟩
      case round =>
        clear HC0 HD0 c1 hB
        obtain ⟨x, hx, rfl, hC, hD, hB⟩ := hrel
        have c0 := hC.c0
        rcases (by omega : (x < W' ∧ x < W) ∨ (x < W' ∧ W ≤ x) ∨ W' ≤ x) with ⟨b1, b2⟩ | ⟨b1, b2⟩ | b1
        · have b1' : (x : Int) < W' := by omega
          have b2' : (x : Int) < W := by omega
          have hl : y * W' + x < N' := by rw [HN'.out]; exact place_lt b1 a1
          obtain ⟨m, hm⟩ : ∃ m, y * W' + x = m := ⟨_, rfl⟩
          obtain ⟨mm, hmm⟩ : ∃ mm, y * W' = mm := ⟨_, rfl⟩
          have Hm : Hid (y * W' + x = m) := hm
          rw [hm] at hl
          rw [hmm] at hm
          have hv1 : IntKind.i64.wrap ((y : Int) * (W' : Int)) = (mm : Int) := by rw [← Int.natCast_mul, hmm]; exact wrap_id _ (by omega) (by omega)
          have hv2 : IntKind.i64.wrap ((mm : Int) + (x : Int)) = (m : Int) := by rw [wrap_id _ (by omega) (by omega)]; omega
          have hi1 : (0 : Int) ≤ (m : Int) := by omega
          have hi2 : (m : Int) < (N' : Int) := by omega
          clear hm hmm
          have tgt := hD.grid.cel x y b1 a1
          rw [Hm.out] at tgt
          obtain ⟨t0, t1, t2, t3, t4, t5, t6⟩ := tgt
          have fr := hD.grid.free
          have q2 := hD.c2
          have lb := hD.lt
          have lg := hD.glt
          have ng1 : gd ≠ bd := fun e => nbg e.symm
          have HC : Hid (Cels wr bc g cap W H N G) := hC
          have HD : Hid (Cels wr bd gd cd W' H' N' (cp W H G x y)) := hD
          clear hC hD
          go_wp2_with fail
          go_region_held3 (fun w' => w'.cell? ⟨bd, 2, none⟩ = some (.slice (some ⟨gd, 0, none⟩) N' cd) ∧ (w'.cell? ⟨gd, m * 7, none⟩).isSome = true ∧ (w'.cell? ⟨gd, m * 7 + 1, none⟩).isSome = true ∧ (w'.cell? ⟨gd, m * 7 + 2, none⟩).isSome = true ∧ (w'.cell? ⟨gd, m * 7 + 3, none⟩).isSome = true ∧ (w'.cell? ⟨gd, m * 7 + 4, none⟩).isSome = true ∧ (w'.cell? ⟨gd, m * 7 + 5, none⟩).isSome = true ∧ (w'.cell? ⟨gd, m * 7 + 6, none⟩).isSome = true ∧ (∀ o, w'.frozen? ⟨gd, o, none⟩ = false)) (simp [*, World.cell?_setCell_far, isSome_set]) (first | (go_at_call 40; refine (refAt bc g cap W H N G x y _ HC.out.drew (by omega) (by omega) (by omega) (by omega)).mono ?_; rintro e w5 ⟨rfl, hb5⟩; simp only [Int.toNat_natCast]; have e1 := hb5.cells lb; have e3 := hb5.cells lg; have e4 := hb5.marks lg))
          have hb5 : Below wr.heap.size wr w5 := below_drew' hb5
          have D6 := (HD.out.below hb5).put b1 a1 (G x y)
          rw [Hm.out] at D6
          have C6 : Cels (put7 w5 gd (m * 7) (G x y)) bc g cap W H N G := (HC.out.below hb5).same (put7_other _ _ _ _ _ (by omega)) (put7_other _ _ _ _ _ (by omega))
          have B6 : Below w.heap.size w (put7 w5 gd (m * 7) (G x y)) := ((Keep.below (fun i => i = gd) (hB.trans (hb5.mono hB.size))).put7 _ _ _ (fun _ => rfl)).toBelow (Nat.le_refl _) (fun i hi => by omega)
          generalize hW6 : put7 w5 gd (m * 7) (G x y) = w6 at *
          unfold put7 at hW6
          rw [hW6]
          rename_i hS
          clear hS hW6 e1 e3 e4 q2 t0 t1 t2 t3 t4 t5 t6 fr HC HD hB hb5
          go_wp2_with fail
          go_roundw
          case rel => exact ⟨x + 1, by omega, by go_num, C6, D6.congr (cp_put W H W' H' G x y b2 a2), B6⟩
          case measure => simp [intOf]; omega
        · have b1' : (x : Int) < W' := by omega
          have b2' : (W : Int) ≤ x := by omega
          have HC : Hid (Cels wr bc g cap W H N G) := hC
          have HD : Hid (Cels wr bd gd cd W' H' N' (cp W H G x y)) := hD
          clear hC hD
          go_wp2_with fail
          go_roundw
          case rel => exact ⟨y + 1, by omega, by go_num, HC.out, HD.out.congr (cp_line W H W' H' G x y (by omega)), hB⟩
          case measure => simp [intOf]; omega
        · have b1' : (W' : Int) ≤ x := by omega
          have HC : Hid (Cels wr bc g cap W H N G) := hC
          have HD : Hid (Cels wr bd gd cd W' H' N' (cp W H G x y)) := hD
          clear hC hD
          go_wp2_with fail
          go_roundw
          case rel => exact ⟨y + 1, by omega, by go_num, HC.out, HD.out.congr (cp_line W H W' H' G x y (by omega)), hB⟩
          case measure => simp [intOf]; omega
    · have a1' : (y : Int) < H' := by omega
      have a2' : (H : Int) ≤ y := by omega
      have hCa := HD0.out.congr (cp_all W H W' H' G y (by omega))
      have HCa : Hid (Cels wr bd gd cd W' H' N' (fun a b => if a < W ∧ b < H then G a b else blk Pn.plain)) := hCa
      clear hCa HD0
      go_wp2_with fail
      go_at_call 52
      refine (refBroken bd gd cd W' H' N' _ _ HCa.out (aw_sized Hwf.out)).mono ?_
      rintro e w4 ⟨rfl, D4, K4⟩
      have C4 : Cels w4 bc g cap W H N G := HC0.out.same (K4.block _ HC0.out.lt (by omega)) (K4.block _ HC0.out.glt (by omega))
      have B4 : Below w.heap.size w w4 := hB.trans (K4.toBelow hB.size (fun i hi => by omega))
      have hbc := C4.blk
      have q0 := C4.c0
      have q1 := C4.c1
      have q2 := C4.c2
      have fb := frozen_of_block hbc
      have d2 := D4.c2
      have l4 := C4.lt
      have HD4 : Hid (Cels w4 bd gd cd W' H' N' (lastG W' (fun a b => if a < W ∧ b < H then G a b else blk Pn.plain))) := D4
      have Hbc : Hid (w4.heap[bc]? = some (.cells #[.int .i64 W, .int .i64 H, .slice (some ⟨g, 0, none⟩) N cap] 87)) := hbc
      have nbd : bc ≠ bd := by omega
      clear C4 D4 K4 HCa hbc
      go_wp2_with fail
      go_end0
      have K9 : Keep (fun i => i = bc) w (((w4.setCell ⟨bc, 0, none⟩ (.int .i64 W')).setCell ⟨bc, 1, none⟩ (.int .i64 H')).setCell ⟨bc, 2, none⟩ (.slice (some ⟨gd, 0, none⟩) N' cd)) :=
        (((Keep.below (fun i => i = bc) B4).setCell _ _ (fun _ => rfl)).setCell _ _ (fun _ => rfl)).setCell _ _ (fun _ => rfl)
      have hb9 := heap_set_same (heap_set_same (heap_set_same Hbc.out 0 (.int .i64 W')) 1 (.int .i64 H')) 2 (.slice (some ⟨gd, 0, none⟩) N' cd)
      have hg9 : (((w4.setCell ⟨bc, 0, none⟩ (.int .i64 W')).setCell ⟨bc, 1, none⟩ (.int .i64 H')).setCell ⟨bc, 2, none⟩ (.slice (some ⟨gd, 0, none⟩) N' cd)).heap[gd]? = w4.heap[gd]? := by
        have hne : gd ≠ bc := by omega
        rw [Below.heap_setCell _ _ _ _ hne, Below.heap_setCell _ _ _ _ hne, Below.heap_setCell _ _ _ _ hne]
      exact ⟨gd, cd, rfl, ⟨hb9, HD4.out.grid.same hg9, HN'.out, by omega, w1, w2, h1, h2⟩, K9, by omega⟩
    · have a1' : (H' : Int) ≤ y := by omega
      have hCa := HD0.out.congr (cp_all W H W' H' G y (by omega))
      have HCa : Hid (Cels wr bd gd cd W' H' N' (fun a b => if a < W ∧ b < H then G a b else blk Pn.plain)) := hCa
      clear hCa HD0
      go_wp2_with fail
      go_at_call 52
      refine (refBroken bd gd cd W' H' N' _ _ HCa.out (aw_sized Hwf.out)).mono ?_
      rintro e w4 ⟨rfl, D4, K4⟩
      have C4 : Cels w4 bc g cap W H N G := HC0.out.same (K4.block _ HC0.out.lt (by omega)) (K4.block _ HC0.out.glt (by omega))
      have B4 : Below w.heap.size w w4 := hB.trans (K4.toBelow hB.size (fun i hi => by omega))
      have hbc := C4.blk
      have q0 := C4.c0
      have q1 := C4.c1
      have q2 := C4.c2
      have fb := frozen_of_block hbc
      have d2 := D4.c2
      have l4 := C4.lt
      have HD4 : Hid (Cels w4 bd gd cd W' H' N' (lastG W' (fun a b => if a < W ∧ b < H then G a b else blk Pn.plain))) := D4
      have Hbc : Hid (w4.heap[bc]? = some (.cells #[.int .i64 W, .int .i64 H, .slice (some ⟨g, 0, none⟩) N cap] 87)) := hbc
      have nbd : bc ≠ bd := by omega
      clear C4 D4 K4 HCa hbc
      go_wp2_with fail
      go_end0
      have K9 : Keep (fun i => i = bc) w (((w4.setCell ⟨bc, 0, none⟩ (.int .i64 W')).setCell ⟨bc, 1, none⟩ (.int .i64 H')).setCell ⟨bc, 2, none⟩ (.slice (some ⟨gd, 0, none⟩) N' cd)) :=
        (((Keep.below (fun i => i = bc) B4).setCell _ _ (fun _ => rfl)).setCell _ _ (fun _ => rfl)).setCell _ _ (fun _ => rfl)
      have hb9 := heap_set_same (heap_set_same (heap_set_same Hbc.out 0 (.int .i64 W')) 1 (.int .i64 H')) 2 (.slice (some ⟨gd, 0, none⟩) N' cd)
      have hg9 : (((w4.setCell ⟨bc, 0, none⟩ (.int .i64 W')).setCell ⟨bc, 1, none⟩ (.int .i64 H')).setCell ⟨bc, 2, none⟩ (.slice (some ⟨gd, 0, none⟩) N' cd)).heap[gd]? = w4.heap[gd]? := by
        have hne : gd ≠ bc := by omega
        rw [Below.heap_setCell _ _ _ _ hne, Below.heap_setCell _ _ _ _ hne, Below.heap_setCell _ _ _ _ hne]
      exact ⟨gd, cd, rfl, ⟨hb9, HD4.out.grid.same hg9, HN'.out, by omega, w1, w2, h1, h2⟩, K9, by omega⟩
end Go.Proofs.YtknhohbepkapdaaDoor

/- The document's cells: set, write. -/
namespace Go.Proofs.YtknhohbepkapdaaDoor
open Go.RowKit
attribute [local go_sem ↓] Go.wp_at_zero Go.wp_at_succ
theorem bcell {W w1 : World} (hb : Below W.heap.size W w1) : (∀ b o, b < W.heap.size → w1.cell? ⟨b, o, none⟩ = W.cell? ⟨b, o, none⟩) ∧ (∀ b o, b < W.heap.size → w1.frozen? ⟨b, o, none⟩ = W.frozen? ⟨b, o, none⟩) :=
  ⟨fun b o h => hb.cell (p := ⟨b, o, none⟩) h, fun b o h => hb.frozen (p := ⟨b, o, none⟩) h⟩
set_option maxHeartbeats 1000000 in
theorem refSet (bc g cap W H N : Nat) (G : Nat → Nat → Cel) (x y : Int) (k : Cel) (w : World) (h : Cels w bc g cap W H N G)
    (hh : inG W H x y = true → ((G x.toNat y.toNat).p = 1 → x + 1 < W) ∧ ((G x.toNat y.toNat).p = 2 → 1 ≤ x)) :
    Calls Tryd.prog 92 #[.pointer (some ⟨bc, 0, none⟩), .int .i64 x, .int .i64 y, k.agg] w fun e w' => e = .returned (.tuple #[]) ∧ Cels w' bc g cap W H N (setG W H G x y k) ∧ Keep (fun i => i = g) w w' := by
  cases hin : inG W H x y
  · have hs : setG W H G x y k = G := by simp [setG, hin]
    rw [hs]
    have h0 := h.c0
    have h1 := h.c1
    have l1 := h.lt
    have hC : Hid (Cels w bc g cap W H N G) := h
    clear h hs hh
    go_enter Tryd.func92, Tryd.ntmps92
    go_wp2_with fail
    go_at_call 39
    refine (refIn bc W H x y _ ?_ ?_).mono ?_
    · simp [go_sem, h0, l1]
    · simp [go_sem, h1, l1]
    rintro e w' ⟨rfl, rfl⟩
    go_wp2_with fail
    have hb : Below w.heap.size w (w.alloc (.cells #[.int .i32 k.r, .int .i64 k.p, .int .i64 k.n.f, .int .i64 k.n.b, .bool k.n.bo, .bool k.n.un, .bool k.n.re] 56)) := (Below.refl _ _).alloc (Nat.le_refl _) _
    exact bodyPost_ret (v := .tuple #[]) (by simp [results, Tryd.results92, go_sem]) rfl ⟨rfl, hC.out.below hb, Keep.below _ hb⟩
  · obtain ⟨x0, x1, y0, y1⟩ := inG_iff.1 hin
    obtain ⟨hp1, hp2⟩ := hh hin
    obtain ⟨x, rfl⟩ := Int.eq_ofNat_of_zero_le x0
    obtain ⟨y, rfl⟩ := Int.eq_ofNat_of_zero_le y0
    simp only [setG, hin, Int.toNat_natCast, if_true] at hp1 hp2 ⊢
    have h0 := h.c0
    have h1 := h.c1
    have l1 := h.lt
    have hC : Hid (Cels w bc g cap W H N G) := h
    have hx : x < W := by omega
    have hy : y < H := by omega
    have hl : y * W + x < N := by rw [h.hN]; exact place_lt (by omega) (by omega)
    have hlen := h.nle
    obtain ⟨i, hi⟩ : ∃ i, y * W + x = i := ⟨_, rfl⟩
    obtain ⟨m, hm⟩ : ∃ m, y * W = m := ⟨_, rfl⟩
    have Hi : Hid (y * W + x = i) := hi
    rw [hi] at hl
    rw [hm] at hi
    have hw1 : IntKind.i64.wrap ((y : Int) * (W : Int)) = (m : Int) := by rw [← Int.natCast_mul, hm]; exact wrap_id _ (by omega) (by omega)
    have hw2 : IntKind.i64.wrap ((m : Int) + (x : Int)) = (i : Int) := by rw [wrap_id _ (by omega) (by omega)]; omega
    have hi1 : (0 : Int) ≤ (i : Int) := by omega
    have hi2 : (i : Int) < (N : Int) := by omega
    clear hm hi
    rcases (by omega : (G x y).p = 1 ∨ (G x y).p = 2 ∨ ((G x y).p ≠ 1 ∧ (G x y).p ≠ 2)) with p1 | p1 | ⟨p1, p2⟩
    · have hx1 := hp1 p1
      rw [if_pos p1]
      go_enter Tryd.func92, Tryd.ntmps92
      go_wp2_with fail
      go_at_call 39
      refine (refIn bc W H x y _ ?_ ?_).mono ?_
      · simp [go_sem, h0, l1]
      · simp [go_sem, h1, l1]
      rintro e w' ⟨rfl, rfl⟩
      go_wp2_with fail
      go_at_call 40
      refine (refAt bc g cap W H N G x y _ (h.below ((Below.refl _ _).alloc (Nat.le_refl _) _)) x0 x1 y0 y1).mono ?_
      rintro e w2 ⟨rfl, hb2⟩
      simp only [Int.toNat_natCast]
      go_wp2_with fail
      have hb3 : Below w.heap.size w w2 := ((Below.refl _ _).alloc (Nat.le_refl _) _).trans (hb2.mono (by simp))
      have k3 : CelAt w2 w.heap.size 0 k := by
        obtain ⟨hc, _⟩ := bcell hb2
        refine ⟨?_, ?_, ?_, ?_, ?_, ?_, ?_⟩ <;> (rw [hc _ _ (by simp)]; simp [go_sem])
      have s2 : w.heap.size < w2.heap.size := by have := hb2.size; simp at this; omega
      generalize hW : w2.alloc _ = W3
      have hbw : Below w2.heap.size w2 W3 := by rw [← hW]; exact (Below.refl _ _).alloc (Nat.le_refl _) _
      have o3 : CelAt W3 w2.heap.size 0 (G x y) := by
        rw [← hW]
        refine ⟨?_, ?_, ?_, ?_, ?_, ?_, ?_⟩ <;> first | (simp [go_sem]; done) | (simp [go_sem, p1]; done)
      have s3 : w2.heap.size < W3.heap.size := o3.lt
      have k4 : CelAt W3 w.heap.size 0 k := by
        obtain ⟨hc, _⟩ := bcell hbw
        obtain ⟨a0, a1, a2, a3, a4, a5, a6⟩ := k3
        refine ⟨?_, ?_, ?_, ?_, ?_, ?_, ?_⟩ <;> (rw [hc _ _ s2]; assumption)
      have C3 : Cels W3 bc g cap W H N G := (h.below hb3).below hbw
      have K3 : Keep (fun i => i = g) w W3 := Keep.below _ (hb3.trans (hbw.mono (Nat.le_of_lt s2)))
      have gk : w.heap.size ≠ g := Nat.ne_of_gt h.glt
      have go : w2.heap.size ≠ g := Nat.ne_of_gt (Nat.lt_trans h.glt s2)
      have bk : w.heap.size ≠ bc := Nat.ne_of_gt h.lt
      have bo : w2.heap.size ≠ bc := Nat.ne_of_gt (Nat.lt_trans h.lt s2)
      clear hb3 k3 hW hbw hb2 hC h0 h1 l1 hh hin hp1 hp2
      generalize hsk : w.heap.size = B1 at *
      generalize hso : w2.heap.size = B2 at *
      clear hso
      have Hsk : Hid (w.heap.size = B1) := hsk
      clear hsk
      obtain ⟨j, hj⟩ : ∃ j, i + 1 = j := ⟨_, rfl⟩
      have hw3 : IntKind.i64.wrap ((i : Int) + 1) = (j : Int) := by rw [wrap_id _ (by omega) (by omega)]; omega
      have hj2 : (j : Int) < (N : Int) := by
        have := @place_lt W H (x + 1) y (by omega) hy
        rw [← C3.hN] at this
        have := Hi.out
        omega
      have hj1 : (0 : Int) ≤ (j : Int) := by omega
      have hjx : y * W + (x + 1) = j := by have := Hi.out; omega
      have tgt := C3.grid.cel (x + 1) y (by omega) hy
      rw [hjx] at tgt
      have Hjx : Hid (y * W + (x + 1) = j) := hjx
      clear hjx hj
      obtain ⟨t0, t1, t2, t3, t4, t5, t6⟩ := tgt
      have fr := C3.grid.free
      have q0 := C3.c0
      have q2 := C3.c2
      obtain ⟨d0, d1, d2, d3, d4, d5, d6⟩ := o3
      have lb := C3.lt
      have lg := C3.glt
      have ng1 : g ≠ bc := fun e => C3.ne e.symm
      have ng2 : g ≠ B2 := fun e => go e.symm
      go_region_held3 (fun w' => w'.cell? ⟨bc, 0, none⟩ = some (.int .i64 W) ∧ w'.cell? ⟨bc, 2, none⟩ = some (.slice (some ⟨g, 0, none⟩) N cap) ∧ w'.cell? ⟨B2, 2, none⟩ = some (.int .i64 (G x y).n.f) ∧ w'.cell? ⟨B2, 3, none⟩ = some (.int .i64 (G x y).n.b) ∧ w'.cell? ⟨B2, 4, none⟩ = some (.bool (G x y).n.bo) ∧ w'.cell? ⟨B2, 5, none⟩ = some (.bool (G x y).n.un) ∧ w'.cell? ⟨B2, 6, none⟩ = some (.bool (G x y).n.re) ∧ (w'.cell? ⟨g, j * 7, none⟩).isSome = true ∧ (w'.cell? ⟨g, j * 7 + 1, none⟩).isSome = true ∧ (w'.cell? ⟨g, j * 7 + 2, none⟩).isSome = true ∧ (w'.cell? ⟨g, j * 7 + 3, none⟩).isSome = true ∧ (w'.cell? ⟨g, j * 7 + 4, none⟩).isSome = true ∧ (w'.cell? ⟨g, j * 7 + 5, none⟩).isSome = true ∧ (w'.cell? ⟨g, j * 7 + 6, none⟩).isSome = true ∧ (∀ o, w'.frozen? ⟨g, o, none⟩ = false)) (simp [*, World.cell?_setCell_far, isSome_set]) (first | (go_at_call 51; refine (refBlank (G x y).n _).mono ?_; rintro e w5 ⟨rfl, hb5⟩; have e1 := hb5.cells lb; have e2 := hb5.cells s3; have e3 := hb5.cells lg; have e4 := hb5.marks lg))
      have hb5 : Below W3.heap.size W3 w5 := below_drew' hb5
      have C5 : Cels (put7 w5 g (j * 7) (blk (G x y).n)) bc g cap W H N (upd G (x + 1) y (blk (G x y).n)) := by
        have := (C3.below hb5).put (x := x + 1) (y := y) (by omega) hy (blk (G x y).n)
        rw [Hjx.out] at this
        exact this
      have o5 : CelAt (put7 w5 g (j * 7) (blk (G x y).n)) B2 0 (G x y) := (CelAt.below ⟨d0, d1, d2, d3, d4, d5, d6⟩ hb5 s3).put go
      have k5 : CelAt (put7 w5 g (j * 7) (blk (G x y).n)) B1 0 k := (k4.below hb5 k4.lt).put gk
      have K5 : Keep (fun i => i = g) w (put7 w5 g (j * 7) (blk (G x y).n)) := (K3.thenBelow hb5).put7 _ _ _ (fun _ => rfl)
      generalize hW5 : put7 w5 g (j * 7) (blk (G x y).n) = W5 at *
      unfold put7 at hW5
      rw [hW5]
      rename_i hS
      clear hS hW5 e1 e2 e3 e4 q0 q2 d0 d1 d2 d3 d4 d5 d6 t0 t1 t2 t3 t4 t5 t6 fr
      have CC := C5
      have kk := k5
      have KK := K5
      have o51 := o5.2.1
      rw [p1] at o51
      go_wp2_with fail
      have tg := CC.grid.cel x y hx hy
      rw [Hi.out] at tg
      obtain ⟨a0, a1, a2, a3, a4, a5, a6⟩ := tg
      have fr2 := CC.grid.free
      have z0 := CC.c0
      have z2 := CC.c2
      obtain ⟨f0, f1, f2, f3, f4, f5, f6⟩ := kk
      have ne1 : g ≠ bc := fun e => CC.ne e.symm
      have ne2 : g ≠ B1 := fun e => gk e.symm
      go_region_held3 (fun w' => w'.cell? ⟨bc, 0, none⟩ = some (.int .i64 W) ∧ w'.cell? ⟨bc, 2, none⟩ = some (.slice (some ⟨g, 0, none⟩) N cap) ∧ w'.cell? ⟨B1, 0, none⟩ = some (.int .i32 k.r) ∧ w'.cell? ⟨B1, 1, none⟩ = some (.int .i64 k.p) ∧ w'.cell? ⟨B1, 2, none⟩ = some (.int .i64 k.n.f) ∧ w'.cell? ⟨B1, 3, none⟩ = some (.int .i64 k.n.b) ∧ w'.cell? ⟨B1, 4, none⟩ = some (.bool k.n.bo) ∧ w'.cell? ⟨B1, 5, none⟩ = some (.bool k.n.un) ∧ w'.cell? ⟨B1, 6, none⟩ = some (.bool k.n.re) ∧ (w'.cell? ⟨g, i * 7, none⟩).isSome = true ∧ (w'.cell? ⟨g, i * 7 + 1, none⟩).isSome = true ∧ (w'.cell? ⟨g, i * 7 + 2, none⟩).isSome = true ∧ (w'.cell? ⟨g, i * 7 + 3, none⟩).isSome = true ∧ (w'.cell? ⟨g, i * 7 + 4, none⟩).isSome = true ∧ (w'.cell? ⟨g, i * 7 + 5, none⟩).isSome = true ∧ (w'.cell? ⟨g, i * 7 + 6, none⟩).isSome = true ∧ (∀ o, w'.frozen? ⟨g, o, none⟩ = false)) (simp [*, World.cell?_setCell_far, isSome_set]) (fail)
      go_wp2_with fail
      go_end0
      have CF := CC.put hx hy k
      rw [Hi.out] at CF
      exact ⟨rfl, CF.drew, (KK.put7 _ _ k (fun _ => rfl)).drew⟩
    · have hx1 := hp2 p1
      rw [if_neg (show ¬ (G x y).p = 1 by omega), if_pos p1]
      go_enter Tryd.func92, Tryd.ntmps92
      go_wp2_with fail
      go_at_call 39
      refine (refIn bc W H x y _ ?_ ?_).mono ?_
      · simp [go_sem, h0, l1]
      · simp [go_sem, h1, l1]
      rintro e w' ⟨rfl, rfl⟩
      go_wp2_with fail
      go_at_call 40
      refine (refAt bc g cap W H N G x y _ (h.below ((Below.refl _ _).alloc (Nat.le_refl _) _)) x0 x1 y0 y1).mono ?_
      rintro e w2 ⟨rfl, hb2⟩
      simp only [Int.toNat_natCast]
      go_wp2_with fail
      have hb3 : Below w.heap.size w w2 := ((Below.refl _ _).alloc (Nat.le_refl _) _).trans (hb2.mono (by simp))
      have k3 : CelAt w2 w.heap.size 0 k := by
        obtain ⟨hc, _⟩ := bcell hb2
        refine ⟨?_, ?_, ?_, ?_, ?_, ?_, ?_⟩ <;> (rw [hc _ _ (by simp)]; simp [go_sem])
      have s2 : w.heap.size < w2.heap.size := by have := hb2.size; simp at this; omega
      generalize hW : w2.alloc _ = W3
      have hbw : Below w2.heap.size w2 W3 := by rw [← hW]; exact (Below.refl _ _).alloc (Nat.le_refl _) _
      have o3 : CelAt W3 w2.heap.size 0 (G x y) := by
        rw [← hW]
        refine ⟨?_, ?_, ?_, ?_, ?_, ?_, ?_⟩ <;> first | (simp [go_sem]; done) | (simp [go_sem, p1]; done)
      have s3 : w2.heap.size < W3.heap.size := o3.lt
      have k4 : CelAt W3 w.heap.size 0 k := by
        obtain ⟨hc, _⟩ := bcell hbw
        obtain ⟨a0, a1, a2, a3, a4, a5, a6⟩ := k3
        refine ⟨?_, ?_, ?_, ?_, ?_, ?_, ?_⟩ <;> (rw [hc _ _ s2]; assumption)
      have C3 : Cels W3 bc g cap W H N G := (h.below hb3).below hbw
      have K3 : Keep (fun i => i = g) w W3 := Keep.below _ (hb3.trans (hbw.mono (Nat.le_of_lt s2)))
      have gk : w.heap.size ≠ g := Nat.ne_of_gt h.glt
      have go : w2.heap.size ≠ g := Nat.ne_of_gt (Nat.lt_trans h.glt s2)
      have bk : w.heap.size ≠ bc := Nat.ne_of_gt h.lt
      have bo : w2.heap.size ≠ bc := Nat.ne_of_gt (Nat.lt_trans h.lt s2)
      clear hb3 k3 hW hbw hb2 hC h0 h1 l1 hh hin hp1 hp2
      generalize hsk : w.heap.size = B1 at *
      generalize hso : w2.heap.size = B2 at *
      clear hso
      have Hsk : Hid (w.heap.size = B1) := hsk
      clear hsk
      obtain ⟨j, hj⟩ : ∃ j, i - 1 = j := ⟨_, rfl⟩
      have hw3 : IntKind.i64.wrap ((i : Int) - 1) = (j : Int) := by have := Hi.out; rw [wrap_id _ (by omega) (by omega)]; omega
      have hj2 : (j : Int) < (N : Int) := by
        omega
      have hj1 : (0 : Int) ≤ (j : Int) := by omega
      have hjx : y * W + (x - 1) = j := by have := Hi.out; omega
      have tgt := C3.grid.cel (x - 1) y (by omega) hy
      rw [hjx] at tgt
      have Hjx : Hid (y * W + (x - 1) = j) := hjx
      clear hjx hj
      obtain ⟨t0, t1, t2, t3, t4, t5, t6⟩ := tgt
      have fr := C3.grid.free
      have q0 := C3.c0
      have q2 := C3.c2
      obtain ⟨d0, d1, d2, d3, d4, d5, d6⟩ := o3
      have lb := C3.lt
      have lg := C3.glt
      have ng1 : g ≠ bc := fun e => C3.ne e.symm
      have ng2 : g ≠ B2 := fun e => go e.symm
      go_region_held3 (fun w' => w'.cell? ⟨bc, 0, none⟩ = some (.int .i64 W) ∧ w'.cell? ⟨bc, 2, none⟩ = some (.slice (some ⟨g, 0, none⟩) N cap) ∧ w'.cell? ⟨B2, 2, none⟩ = some (.int .i64 (G x y).n.f) ∧ w'.cell? ⟨B2, 3, none⟩ = some (.int .i64 (G x y).n.b) ∧ w'.cell? ⟨B2, 4, none⟩ = some (.bool (G x y).n.bo) ∧ w'.cell? ⟨B2, 5, none⟩ = some (.bool (G x y).n.un) ∧ w'.cell? ⟨B2, 6, none⟩ = some (.bool (G x y).n.re) ∧ (w'.cell? ⟨g, j * 7, none⟩).isSome = true ∧ (w'.cell? ⟨g, j * 7 + 1, none⟩).isSome = true ∧ (w'.cell? ⟨g, j * 7 + 2, none⟩).isSome = true ∧ (w'.cell? ⟨g, j * 7 + 3, none⟩).isSome = true ∧ (w'.cell? ⟨g, j * 7 + 4, none⟩).isSome = true ∧ (w'.cell? ⟨g, j * 7 + 5, none⟩).isSome = true ∧ (w'.cell? ⟨g, j * 7 + 6, none⟩).isSome = true ∧ (∀ o, w'.frozen? ⟨g, o, none⟩ = false)) (simp [*, World.cell?_setCell_far, isSome_set]) (first | (go_at_call 51; refine (refBlank (G x y).n _).mono ?_; rintro e w5 ⟨rfl, hb5⟩; have e1 := hb5.cells lb; have e2 := hb5.cells s3; have e3 := hb5.cells lg; have e4 := hb5.marks lg))
      have hb5 : Below W3.heap.size W3 w5 := below_drew' hb5
      have C5 : Cels (put7 w5 g (j * 7) (blk (G x y).n)) bc g cap W H N (upd G (x - 1) y (blk (G x y).n)) := by
        have := (C3.below hb5).put (x := x - 1) (y := y) (by omega) hy (blk (G x y).n)
        rw [Hjx.out] at this
        exact this
      have o5 : CelAt (put7 w5 g (j * 7) (blk (G x y).n)) B2 0 (G x y) := (CelAt.below ⟨d0, d1, d2, d3, d4, d5, d6⟩ hb5 s3).put go
      have k5 : CelAt (put7 w5 g (j * 7) (blk (G x y).n)) B1 0 k := (k4.below hb5 k4.lt).put gk
      have K5 : Keep (fun i => i = g) w (put7 w5 g (j * 7) (blk (G x y).n)) := (K3.thenBelow hb5).put7 _ _ _ (fun _ => rfl)
      generalize hW5 : put7 w5 g (j * 7) (blk (G x y).n) = W5 at *
      unfold put7 at hW5
      rw [hW5]
      rename_i hS
      clear hS hW5 e1 e2 e3 e4 q0 q2 d0 d1 d2 d3 d4 d5 d6 t0 t1 t2 t3 t4 t5 t6 fr
      have CC := C5
      have kk := k5
      have KK := K5
      have o51 := o5.2.1
      rw [p1] at o51
      go_wp2_with fail
      have tg := CC.grid.cel x y hx hy
      rw [Hi.out] at tg
      obtain ⟨a0, a1, a2, a3, a4, a5, a6⟩ := tg
      have fr2 := CC.grid.free
      have z0 := CC.c0
      have z2 := CC.c2
      obtain ⟨f0, f1, f2, f3, f4, f5, f6⟩ := kk
      have ne1 : g ≠ bc := fun e => CC.ne e.symm
      have ne2 : g ≠ B1 := fun e => gk e.symm
      go_region_held3 (fun w' => w'.cell? ⟨bc, 0, none⟩ = some (.int .i64 W) ∧ w'.cell? ⟨bc, 2, none⟩ = some (.slice (some ⟨g, 0, none⟩) N cap) ∧ w'.cell? ⟨B1, 0, none⟩ = some (.int .i32 k.r) ∧ w'.cell? ⟨B1, 1, none⟩ = some (.int .i64 k.p) ∧ w'.cell? ⟨B1, 2, none⟩ = some (.int .i64 k.n.f) ∧ w'.cell? ⟨B1, 3, none⟩ = some (.int .i64 k.n.b) ∧ w'.cell? ⟨B1, 4, none⟩ = some (.bool k.n.bo) ∧ w'.cell? ⟨B1, 5, none⟩ = some (.bool k.n.un) ∧ w'.cell? ⟨B1, 6, none⟩ = some (.bool k.n.re) ∧ (w'.cell? ⟨g, i * 7, none⟩).isSome = true ∧ (w'.cell? ⟨g, i * 7 + 1, none⟩).isSome = true ∧ (w'.cell? ⟨g, i * 7 + 2, none⟩).isSome = true ∧ (w'.cell? ⟨g, i * 7 + 3, none⟩).isSome = true ∧ (w'.cell? ⟨g, i * 7 + 4, none⟩).isSome = true ∧ (w'.cell? ⟨g, i * 7 + 5, none⟩).isSome = true ∧ (w'.cell? ⟨g, i * 7 + 6, none⟩).isSome = true ∧ (∀ o, w'.frozen? ⟨g, o, none⟩ = false)) (simp [*, World.cell?_setCell_far, isSome_set]) (fail)
      go_wp2_with fail
      go_end0
      have CF := CC.put hx hy k
      rw [Hi.out] at CF
      exact ⟨rfl, CF.drew, (KK.put7 _ _ k (fun _ => rfl)).drew⟩
    · rw [if_neg p1, if_neg p2]
      have P1 : ((G x y).p == 1) = false := by simpa using p1
      have P2 : ((G x y).p == 2) = false := by simpa using p2
      go_enter Tryd.func92, Tryd.ntmps92
      go_wp2_with fail
      go_at_call 39
      refine (refIn bc W H x y _ ?_ ?_).mono ?_
      · simp [go_sem, h0, l1]
      · simp [go_sem, h1, l1]
      rintro e w' ⟨rfl, rfl⟩
      go_wp2_with fail
      go_at_call 40
      refine (refAt bc g cap W H N G x y _ (h.below ((Below.refl _ _).alloc (Nat.le_refl _) _)) x0 x1 y0 y1).mono ?_
      rintro e w2 ⟨rfl, hb2⟩
      simp only [Int.toNat_natCast]
      go_wp2_with fail
      have hb3 : Below w.heap.size w w2 := ((Below.refl _ _).alloc (Nat.le_refl _) _).trans (hb2.mono (by simp))
      have k3 : CelAt w2 w.heap.size 0 k := by
        obtain ⟨hc, _⟩ := bcell hb2
        refine ⟨?_, ?_, ?_, ?_, ?_, ?_, ?_⟩ <;> (rw [hc _ _ (by simp)]; simp [go_sem])
      have s2 : w.heap.size < w2.heap.size := by have := hb2.size; simp at this; omega
      generalize hW : w2.alloc _ = W3
      have hbw : Below w2.heap.size w2 W3 := by rw [← hW]; exact (Below.refl _ _).alloc (Nat.le_refl _) _
      have o3 : CelAt W3 w2.heap.size 0 (G x y) := by
        rw [← hW]
        refine ⟨?_, ?_, ?_, ?_, ?_, ?_, ?_⟩ <;> first | (simp [go_sem]; done) | (simp [go_sem, p1]; done)
      have s3 : w2.heap.size < W3.heap.size := o3.lt
      have k4 : CelAt W3 w.heap.size 0 k := by
        obtain ⟨hc, _⟩ := bcell hbw
        obtain ⟨a0, a1, a2, a3, a4, a5, a6⟩ := k3
        refine ⟨?_, ?_, ?_, ?_, ?_, ?_, ?_⟩ <;> (rw [hc _ _ s2]; assumption)
      have C3 : Cels W3 bc g cap W H N G := (h.below hb3).below hbw
      have K3 : Keep (fun i => i = g) w W3 := Keep.below _ (hb3.trans (hbw.mono (Nat.le_of_lt s2)))
      have gk : w.heap.size ≠ g := Nat.ne_of_gt h.glt
      have go : w2.heap.size ≠ g := Nat.ne_of_gt (Nat.lt_trans h.glt s2)
      have bk : w.heap.size ≠ bc := Nat.ne_of_gt h.lt
      have bo : w2.heap.size ≠ bc := Nat.ne_of_gt (Nat.lt_trans h.lt s2)
      clear hb3 k3 hW hbw hb2 hC h0 h1 l1 hh hin hp1 hp2
      generalize hsk : w.heap.size = B1 at *
      generalize hso : w2.heap.size = B2 at *
      clear hso
      have Hsk : Hid (w.heap.size = B1) := hsk
      clear hsk
      have CC := C3
      have kk := k4
      have KK := K3
      have tg := CC.grid.cel x y hx hy
      rw [Hi.out] at tg
      obtain ⟨a0, a1, a2, a3, a4, a5, a6⟩ := tg
      have fr2 := CC.grid.free
      have z0 := CC.c0
      have z2 := CC.c2
      obtain ⟨f0, f1, f2, f3, f4, f5, f6⟩ := kk
      have ne1 : g ≠ bc := fun e => CC.ne e.symm
      have ne2 : g ≠ B1 := fun e => gk e.symm
      go_region_held3 (fun w' => w'.cell? ⟨bc, 0, none⟩ = some (.int .i64 W) ∧ w'.cell? ⟨bc, 2, none⟩ = some (.slice (some ⟨g, 0, none⟩) N cap) ∧ w'.cell? ⟨B1, 0, none⟩ = some (.int .i32 k.r) ∧ w'.cell? ⟨B1, 1, none⟩ = some (.int .i64 k.p) ∧ w'.cell? ⟨B1, 2, none⟩ = some (.int .i64 k.n.f) ∧ w'.cell? ⟨B1, 3, none⟩ = some (.int .i64 k.n.b) ∧ w'.cell? ⟨B1, 4, none⟩ = some (.bool k.n.bo) ∧ w'.cell? ⟨B1, 5, none⟩ = some (.bool k.n.un) ∧ w'.cell? ⟨B1, 6, none⟩ = some (.bool k.n.re) ∧ (w'.cell? ⟨g, i * 7, none⟩).isSome = true ∧ (w'.cell? ⟨g, i * 7 + 1, none⟩).isSome = true ∧ (w'.cell? ⟨g, i * 7 + 2, none⟩).isSome = true ∧ (w'.cell? ⟨g, i * 7 + 3, none⟩).isSome = true ∧ (w'.cell? ⟨g, i * 7 + 4, none⟩).isSome = true ∧ (w'.cell? ⟨g, i * 7 + 5, none⟩).isSome = true ∧ (w'.cell? ⟨g, i * 7 + 6, none⟩).isSome = true ∧ (∀ o, w'.frozen? ⟨g, o, none⟩ = false)) (simp [*, World.cell?_setCell_far, isSome_set]) (fail)
      go_wp2_with fail
      go_end0
      have CF := CC.put hx hy k
      rw [Hi.out] at CF
      exact ⟨rfl, CF.drew, (KK.put7 _ _ k (fun _ => rfl)).drew⟩
end Go.Proofs.YtknhohbepkapdaaDoor

/- The walk of the document's Width. -/
namespace Go.Proofs.YtknhohbepkapdaaDoor.Wd
open Go.RowKit
def zT (j : Nat) : Int := [127, 159, 768, 879, 8203, 8207, 55296, 57343].getD j 0
def wT (j : Nat) : Int := [4352, 4447, 11904, 42191, 44032, 55203, 63744, 64255, 65072, 65103, 65280, 65376, 65504, 65510, 127744, 128591, 131072, 262141].getD j 0
theorem zT_at (k : Nat) (h : k < 4) : zeroL[k]? = some (zT (2 * k), zT (2 * k + 1)) := by
  rcases (by omega : k = 0 ∨ k = 1 ∨ k = 2 ∨ k = 3) with rfl | rfl | rfl | rfl <;> rfl
theorem wT_at (k : Nat) (h : k < 9) : wideL[k]? = some (wT (2 * k), wT (2 * k + 1)) := by
  rcases (by omega : k = 0 ∨ k = 1 ∨ k = 2 ∨ k = 3 ∨ k = 4 ∨ k = 5 ∨ k = 6 ∨ k = 7 ∨ k = 8) with rfl | rfl | rfl | rfl | rfl | rfl | rfl | rfl | rfl <;> rfl
def Tabs (w : World) (B : Nat) : Prop := (∀ j, j < 8 → w.cell? ⟨B, j, none⟩ = some (.int .i64 (zT j))) ∧ ∀ j, j < 18 → w.cell? ⟨B + 1, j, none⟩ = some (.int .i64 (wT j))
theorem tabs_made (w : World) : Tabs (((w.alloc (.cells #[.int .i64 127, .int .i64 159, .int .i64 768, .int .i64 879, .int .i64 8203, .int .i64 8207, .int .i64 55296, .int .i64 57343] 3)).alloc (.cells #[.int .i64 4352, .int .i64 4447, .int .i64 11904, .int .i64 42191, .int .i64 44032, .int .i64 55203, .int .i64 63744, .int .i64 64255, .int .i64 65072, .int .i64 65103, .int .i64 65280, .int .i64 65376, .int .i64 65504, .int .i64 65510, .int .i64 127744, .int .i64 128591, .int .i64 131072, .int .i64 262141] 3))) w.heap.size := by
  constructor
  · intro j hj
    rcases (by omega : j = 0 ∨ j = 1 ∨ j = 2 ∨ j = 3 ∨ j = 4 ∨ j = 5 ∨ j = 6 ∨ j = 7) with rfl | rfl | rfl | rfl | rfl | rfl | rfl | rfl <;> simp [zT, go_sem]
  · intro j hj
    rcases (by omega : j = 0 ∨ j = 1 ∨ j = 2 ∨ j = 3 ∨ j = 4 ∨ j = 5 ∨ j = 6 ∨ j = 7 ∨ j = 8 ∨ j = 9 ∨ j = 10 ∨ j = 11 ∨ j = 12 ∨ j = 13 ∨ j = 14 ∨ j = 15 ∨ j = 16 ∨ j = 17) with rfl | rfl | rfl | rfl | rfl | rfl | rfl | rfl | rfl | rfl | rfl | rfl | rfl | rfl | rfl | rfl | rfl | rfl <;> simp [wT, go_sem]
theorem Tabs.drewN {w : World} {B : Nat} (h : Tabs w B) (q : Nat) : Tabs (w.drewN q) B := h
set_option maxHeartbeats 8000000 in
theorem refWidth (n : Int) (w : World) (hn1 : -2147483648 ≤ n) (hn2 : n ≤ 2147483647) :
    Calls Tryd.prog 72 #[.int .i32 n] w fun e w' => e = .returned (.int .i64 (wd n)) ∧ Below w.heap.size w w' := by
  by_cases h1 : n < 32
  · have hz : wd n = 0 := by simp [wd, zero_any, h1]
    rw [hz]; clear hz
    go_enter Tryd.func72, Tryd.ntmps72
    go_wp2
    go_ret
    exact ⟨rfl, ((Below.refl _ _).alloc (Nat.le_refl _) _).alloc (by simp) _⟩
  by_cases h2 : 1114111 < n
  · have hz : wd n = 0 := by simp [wd, zero_any, h2]
    rw [hz]; clear hz
    go_enter Tryd.func72, Tryd.ntmps72
    go_wp2
    go_ret
    exact ⟨rfl, ((Below.refl _ _).alloc (Nat.le_refl _) _).alloc (by simp) _⟩
  have h1' : 32 ≤ n := by omega
  have h2' : n ≤ 1114111 := by omega
  clear h1 h2
  go_enter Tryd.func72, Tryd.ntmps72
  go_wp2_with fail
  go_loopw [6] (fun i w' => ∃ m : Nat, m ≤ 8 ∧ m % 2 = 0 ∧ i = .int .i64 m ∧ Hid (anyB n (zeroL.take (m / 2)) = false) ∧ Tabs w' w.heap.size ∧ Below w.heap.size w w') (fun i _ => 8 - (intOf i).toNat)
  case atStart => exact ⟨0, by omega, by omega, rfl, rfl, tabs_made w, ((Below.refl _ _).alloc (Nat.le_refl _) _).alloc (by simp) _⟩
  case round =>
    obtain ⟨m, hm, hm2, rfl, hany, hT, hB⟩ := hrel
    by_cases hk : m < 8
    · have hat := zT_at (m / 2) (by omega)
      rw [show 2 * (m / 2) = m from by omega] at hat
      have hc0 := hT.1 m (by omega)
      have hc1 := hT.1 (m + 1) (by omega)
      have hm' : (m : Int) + 1 < 8 := by omega
      have Hm2 : Hid (m % 2 = 0) := hm2
      clear hm2 hm
      have Hat : Hid (zeroL[m / 2]? = some (zT m, zT (m + 1))) := hat
      clear hat
      go_wp2_with fail
      go_quiet ((go_at_call 50; exact Calls.quiet_of_same (refBetween _ _ _ _)))
      go_wp2_with fail
      · have hw := wd_zero n (any_hit n zeroL (m / 2) _ _ Hat.out (by assumption))
        go_ret
        exact ⟨by rw [hw]; rfl, hB.trans ⟨rfl, rfl, rfl, Nat.le_refl _, fun _ _ => rfl⟩⟩
      · have hm2 := Hm2.out
        have hst := any_step n zeroL (m / 2) _ _ Hat.out hany.out (by assumption)
        rw [show m / 2 + 1 = (m + 2) / 2 from by omega] at hst
        exact ⟨⟨m + 2, by omega, by omega, by go_num, hst, hT.drewN _, hB.trans ⟨rfl, rfl, rfl, Nat.le_refl _, fun _ _ => rfl⟩⟩, by simp [intOf]; omega⟩
    · obtain rfl : m = 8 := by omega
      have Hz : Hid (anyB n zeroL = false) := hany
      clear hany hk hm hm2
      go_wp2_with fail
      go_loopw [8] (fun i w' => ∃ m : Nat, m ≤ 18 ∧ m % 2 = 0 ∧ i = .int .i64 m ∧ Hid (anyB n (wideL.take (m / 2)) = false) ∧ Tabs w' w.heap.size ∧ Below w.heap.size w w') (fun i _ => 18 - (intOf i).toNat)
      case atStart => exact ⟨0, by omega, by omega, rfl, rfl, hT, hB⟩
      case round =>
        clear hT hB
        obtain ⟨m, hm, hm2, rfl, hany, hT, hB⟩ := hrel
        by_cases hk : m < 18
        · have hat := wT_at (m / 2) (by omega)
          rw [show 2 * (m / 2) = m from by omega] at hat
          have hc0 := hT.2 m (by omega)
          have hc1 := hT.2 (m + 1) (by omega)
          have hm' : (m : Int) + 1 < 18 := by omega
          have Hm2 : Hid (m % 2 = 0) := hm2
          clear hm2 hm
          have Hat : Hid (wideL[m / 2]? = some (wT m, wT (m + 1))) := hat
          clear hat
          go_wp2_with fail
          go_quiet ((go_at_call 50; exact Calls.quiet_of_same (refBetween _ _ _ _)))
          go_wp2_with fail
          · have hw := wd_two n h1' h2' Hz.out (any_hit n wideL (m / 2) _ _ Hat.out (by assumption))
            go_ret
            exact ⟨by rw [hw]; rfl, hB.trans ⟨rfl, rfl, rfl, Nat.le_refl _, fun _ _ => rfl⟩⟩
          · have hm2 := Hm2.out
            have hst := any_step n wideL (m / 2) _ _ Hat.out hany.out (by assumption)
            rw [show m / 2 + 1 = (m + 2) / 2 from by omega] at hst
            exact ⟨⟨m + 2, by omega, by omega, by go_num, hst, hT.drewN _, hB.trans ⟨rfl, rfl, rfl, Nat.le_refl _, fun _ _ => rfl⟩⟩, by simp [intOf]; omega⟩
        · obtain rfl : m = 18 := by omega
          have hw : Hid (wd n = 1) := wd_one n h1' h2' Hz.out hany
          clear hany hk hm hm2
          go_wp2_with fail
          go_ret
          exact ⟨by rw [hw.out]; rfl, hB⟩
end Go.Proofs.YtknhohbepkapdaaDoor.Wd
