/- Texts of the proof, one behind the other: RfC, RfH, RfI. -/
import Derived.Test.YtjlfibhbfdckpaaDoorK02
import Derived.Test.YtjlfibhbfdckpaaDoorK13
import Derived.Test.YtjlfibhbfdckpaaDoorK18
import Derived.Deep.RegionWith
/- The document's cells: erase, write. -/
namespace Go.Proofs.YtjlfibhbfdckpaaDoor
open Go.RowKit
open Wd (wd)
attribute [local go_sem ↓] Go.wp_at_zero Go.wp_at_succ
theorem refSetW (bc g cap W H N : Nat) (G : Nat → Nat → Cel) (x y : Nat) (k : Cel) (w : World) (h : Cels w bc g cap W H N G) (hwf : Wf W H G) (hx : x < W) (hy : y < H) :
    Calls Tryd.prog 92 #[.pointer (some ⟨bc, 0, none⟩), .int .i64 x, .int .i64 y, k.agg] w fun e w' => e = .returned (.tuple #[]) ∧ Cels w' bc g cap W H N (wrt G (pt x y) (fun _ _ => k)) ∧ Keep (fun i => i = g) w w' :=
  (refSet bc g cap W H N G x y k w h (hwf.half x y)).mono fun _ _ ⟨h1, h2, h3⟩ => ⟨h1, h2.congr (setG_wr hwf hx hy k), h3⟩
set_option maxHeartbeats 1000000 in
theorem refErase (bc g cap W H N : Nat) (G : Nat → Nat → Cel) (f t : Int) (y : Nat) (n : Pn) (w : World) (h : Cels w bc g cap W H N G) (hwf : Wf W H G) (hy : y < H) :
    Calls Tryd.prog 77 #[.pointer (some ⟨bc, 0, none⟩), .int .i64 f, .int .i64 t, .int .i64 y, n.agg] w fun e w' => e = .returned (.tuple #[]) ∧ Cels w' bc g cap W H N (wrt G (rg f t y) (fun _ _ => blk n)) ∧ Keep (fun i => i = g) w w' := by
  have gb := h.glt
  have w2 := h.w2
  have Hh : Hid (Cels w bc g cap W H N G) := h
  clear h
  go_enter Tryd.func77, Tryd.ntmps77
  go_wp2_with fail
  have hb0 : Below w.heap.size w (w.alloc (.cells #[.int .i64 n.f, .int .i64 n.b, .bool n.bo, .bool n.un, .bool n.re] 44)) := (Below.refl _ _).alloc (Nat.le_refl _) _
  go_loopw [10] (fun i w' => ∃ k : Nat, k ≤ W ∧ i = .int .i64 k ∧ Cels w' bc g cap W H N (wrt G (fun a b => rg f t y a b && decide (a < k)) (fun _ _ => blk n)) ∧ Keep (fun i => i = g) w w' ∧ PenAt w' w.heap.size 0 n) (fun i _ => W - (intOf i).toNat)
  case atStart => exact ⟨0, by omega, rfl, by rw [wr_none _ _ _ (by simp)]; exact Hh.out.below hb0, Keep.below _ hb0, pen_new _ _ _⟩
  case round =>
    obtain ⟨k, hk, rfl, hC, hK, hP⟩ := hrel
    have c0 := hC.c0
    obtain ⟨p0, p1, p2, p3, p4⟩ := hP
    have hC' : Hid (Cels wr bc g cap W H N (wrt G (fun a b => rg f t y a b && decide (a < k)) (fun _ _ => blk n))) := hC
    clear hC
    have hnext : (∀ a b, (rg f t y a b && decide (a < k)) = (rg f t y a b && decide (a < k + 1))) → Cels wr bc g cap W H N (wrt G (fun a b => rg f t y a b && decide (a < k + 1)) (fun _ _ => blk n)) := fun e => by rw [← wr_congr e]; exact hC'.out
    have Hn : Hid ((∀ a b, (rg f t y a b && decide (a < k)) = (rg f t y a b && decide (a < k + 1))) → Cels wr bc g cap W H N (wrt G (fun a b => rg f t y a b && decide (a < k + 1)) (fun _ _ => blk n))) := hnext
    clear hnext
    by_cases hlt : k < W
    · rcases (by omega : (k : Int) < f ∨ (f ≤ k ∧ t ≤ k) ∨ (f ≤ k ∧ (k : Int) < t)) with a1 | ⟨a1, a2⟩ | ⟨a1, a2⟩
      · go_wp2_with fail
        go_roundw
        case rel => exact ⟨k + 1, by omega, by go_num, Hn.out (fun a b => by rw [Bool.eq_iff_iff]; simp [rg]; omega), hK, ⟨p0, p1, p2, p3, p4⟩⟩
        case measure => simp [intOf]; omega
      · go_wp2_with fail
        go_roundw
        case rel => exact ⟨k + 1, by omega, by go_num, Hn.out (fun a b => by rw [Bool.eq_iff_iff]; simp [rg]; omega), hK, ⟨p0, p1, p2, p3, p4⟩⟩
        case measure => simp [intOf]; omega
      · go_wp2_with fail
        go_at_call 51
        refine (refBlank n _).mono ?_
        rintro e w3 ⟨rfl, hb3⟩
        have C3 : Cels w3 bc g cap W H N (wrt G (fun a b => rg f t y a b && decide (a < k)) (fun _ _ => blk n)) := hC'.out.below hb3
        have P3 : PenAt w3 w.heap.size 0 n := PenAt.same ⟨p0, p1, p2, p3, p4⟩ (hb3.block _ (PenAt.lt ⟨p0, p1, p2, p3, p4⟩))
        have K3 := hK.thenBelow hb3
        clear hb3 p0 p1 p2 p3 p4 Hn hC'
        go_wp2_with fail
        go_at_call 92
        refine (refSetW bc g cap W H N _ k y (blk n) _ C3 (hwf.blk _ n) hlt hy).mono ?_
        rintro e w4 ⟨rfl, C4, K4⟩
        rw [wr_blk_next _ _ _ _ _ _ a1 a2] at C4
        have P4 : PenAt w4 w.heap.size 0 n := P3.keep K4 (Nat.ne_of_gt gb)
        have K5 : Keep (fun i => i = g) w w4 := K3.trans K4 (fun _ _ h => h)
        clear C3 P3 K3 K4
        go_wp2_with fail
        go_roundw
        case rel => exact ⟨k + 1, by omega, by go_num, C4, K5, P4⟩
        case measure => simp [intOf]; omega
    · go_wp2_with fail
      go_end0
      refine ⟨rfl, hC'.out.congr (fun a b ha hb => ?_), hK⟩
      exact wr_dom hwf (P := fun a b => rg f t y a b && decide (a < k)) (fun a b ha hb => by rw [Bool.eq_iff_iff]; simp; omega) (fun _ _ _ _ _ => rfl) a b ha hb
set_option maxHeartbeats 2000000 in
theorem refWrite (bc g cap W H N : Nat) (G : Nat → Nat → Cel) (x y r : Int) (n : Pn) (w : World) (h : Cels w bc g cap W H N G) (hwf : Wf W H G)
    (x0 : -100000 ≤ x) (x1 : x ≤ 100000) (r0 : -2147483648 ≤ r) (r1 : r ≤ 2147483647) :
    Calls Tryd.prog 73 #[.pointer (some ⟨bc, 0, none⟩), .int .i64 x, .int .i64 y, .int .i32 r, n.agg] w fun e w' => e = .returned (.tuple #[]) ∧ Cels w' bc g cap W H N (writeG W H G x y r n) ∧ Keep (fun i => i = g) w w' := by
  have gb := h.glt
  have hw2 := h.w2
  have nle := h.nle
  have Hh : Hid (Cels w bc g cap W H N G) := h
  clear h
  by_cases hr : wd r = 1
  · have hq : (wd r == 1) = true := by simp [hr]
    have HG : Hid (writeG W H G x y r n = setG W H G x y ⟨r, 0, n⟩) := by unfold writeG; exact if_pos hr
    clear hr
    go_enter Tryd.func73, Tryd.ntmps73
    go_wp2_with fail
    go_at_call 72
    refine (Wd.refWidth r _ r0 r1).mono ?_
    rintro e w1 ⟨rfl, hb1⟩
    have hb : Below w.heap.size w w1 := ((Below.refl _ _).alloc (Nat.le_refl _) _).trans (hb1.mono (by simp))
    have C1 : Cels w1 bc g cap W H N G := Hh.out.below hb
    have P1 : PenAt w1 w.heap.size 0 n := (pen_new w n _).same (hb1.block _ (by simp))
    have K1 : Keep (fun i => i = g) w w1 := Keep.below _ hb
    clear hb1 hb
    obtain ⟨p0, p1, p2, p3, p4⟩ := P1
    go_wp2_with fail
    go_at_call 92
    refine (refSet bc g cap W H N _ x y ⟨r, 0, n⟩ _ C1 (hwf.half x y)).mono ?_
    rintro e w2 ⟨rfl, C2, K2⟩
    go_wp2_with fail
    refine bodyPost_ret (v := .tuple #[]) (by simp [results, Tryd.results73, go_sem]) rfl ⟨rfl, ?_, K1.trans K2 (fun _ _ h => h)⟩
    rw [HG.out]; exact C2
  · have hq : (wd r == 1) = false := by simp [hr]
    have Hr : Hid (¬ wd r = 1) := hr
    clear hr
    have wf2 := hwf.setBlk x y n
    cases i1 : inG W H x y
    · have HG : Hid (writeG W H G x y r n = setG W H (setG W H G x y (blk n)) (x + 1) y (blk n)) := by unfold writeG; rw [if_neg Hr.out, if_neg (by simp [i1])]; rfl
      go_enter Tryd.func73, Tryd.ntmps73
      go_wp2_with fail
      go_at_call 72
      refine (Wd.refWidth r _ r0 r1).mono ?_
      rintro e w1 ⟨rfl, hb1⟩
      have hb : Below w.heap.size w w1 := ((Below.refl _ _).alloc (Nat.le_refl _) _).trans (hb1.mono (by simp))
      have C1 : Cels w1 bc g cap W H N G := Hh.out.below hb
      have P1 : PenAt w1 w.heap.size 0 n := (pen_new w n _).same (hb1.block _ (by simp))
      have K1 : Keep (fun i => i = g) w w1 := Keep.below _ hb
      clear hb1 hb
      go_wp2_with fail
      go_at_call 39
      refine (refIn bc W H x y _ C1.c0 C1.c1).mono ?_
      rintro e w' ⟨rfl, rfl⟩
      go_wp2_with fail
      go_at_call 39
      refine (refIn bc W H (x + 1) y _ C1.c0 C1.c1).mono ?_
      rintro e w' ⟨rfl, rfl⟩
      obtain ⟨p0, p1, p2, p3, p4⟩ := P1
      go_wp2_with fail
      go_at_call 51
      refine (refBlank n _).mono ?_
      rintro e w1b ⟨rfl, hb⟩
      have C1b := C1.below hb
      have P1b : PenAt w1b w.heap.size 0 n := PenAt.same ⟨p0, p1, p2, p3, p4⟩ (hb.block _ (PenAt.lt ⟨p0, p1, p2, p3, p4⟩))
      have K1b := K1.thenBelow hb
      clear hb p0 p1 p2 p3 p4
      go_wp2_with fail
      go_at_call 92
      refine (refSet bc g cap W H N _ x y (blk n) _ C1b (hwf.half _ _)).mono ?_
      rintro e w2 ⟨rfl, C2, K1c⟩
      have P2 : PenAt w2 w.heap.size 0 n := P1b.keep K1c (Nat.ne_of_gt gb)
      have K2 : Keep (fun i => i = g) w w2 := K1b.trans K1c (fun _ _ h => h)
      clear C1b P1b K1b K1c
      obtain ⟨p0, p1, p2, p3, p4⟩ := P2
      go_wp2_with fail
      go_at_call 51
      refine (refBlank n _).mono ?_
      rintro e w2b ⟨rfl, hb⟩
      have C2b := C2.below hb
      have P2b : PenAt w2b w.heap.size 0 n := PenAt.same ⟨p0, p1, p2, p3, p4⟩ (hb.block _ (PenAt.lt ⟨p0, p1, p2, p3, p4⟩))
      have K2b := K2.thenBelow hb
      clear hb p0 p1 p2 p3 p4
      go_wp2_with fail
      go_at_call 92
      refine (refSet bc g cap W H N _ (x + 1) y (blk n) _ C2b (wf2.half _ _)).mono ?_
      rintro e w3 ⟨rfl, C3, K2c⟩
      have P3 : PenAt w3 w.heap.size 0 n := P2b.keep K2c (Nat.ne_of_gt gb)
      have K3 : Keep (fun i => i = g) w w3 := K2b.trans K2c (fun _ _ h => h)
      clear C2b P2b K2b K2c
      go_wp2_with fail
      go_end0
      refine ⟨rfl, ?_, K3⟩
      rw [HG.out]; exact C3
    · cases i2 : inG W H (x + 1) y
      · have HG : Hid (writeG W H G x y r n = setG W H (setG W H G x y (blk n)) (x + 1) y (blk n)) := by unfold writeG; rw [if_neg Hr.out, if_neg (by simp [i2])]; rfl
        go_enter Tryd.func73, Tryd.ntmps73
        go_wp2_with fail
        go_at_call 72
        refine (Wd.refWidth r _ r0 r1).mono ?_
        rintro e w1 ⟨rfl, hb1⟩
        have hb : Below w.heap.size w w1 := ((Below.refl _ _).alloc (Nat.le_refl _) _).trans (hb1.mono (by simp))
        have C1 : Cels w1 bc g cap W H N G := Hh.out.below hb
        have P1 : PenAt w1 w.heap.size 0 n := (pen_new w n _).same (hb1.block _ (by simp))
        have K1 : Keep (fun i => i = g) w w1 := Keep.below _ hb
        clear hb1 hb
        go_wp2_with fail
        go_at_call 39
        refine (refIn bc W H x y _ C1.c0 C1.c1).mono ?_
        rintro e w' ⟨rfl, rfl⟩
        go_wp2_with fail
        go_at_call 39
        refine (refIn bc W H (x + 1) y _ C1.c0 C1.c1).mono ?_
        rintro e w' ⟨rfl, rfl⟩
        obtain ⟨p0, p1, p2, p3, p4⟩ := P1
        go_wp2_with fail
        go_at_call 51
        refine (refBlank n _).mono ?_
        rintro e w1b ⟨rfl, hb⟩
        have C1b := C1.below hb
        have P1b : PenAt w1b w.heap.size 0 n := PenAt.same ⟨p0, p1, p2, p3, p4⟩ (hb.block _ (PenAt.lt ⟨p0, p1, p2, p3, p4⟩))
        have K1b := K1.thenBelow hb
        clear hb p0 p1 p2 p3 p4
        go_wp2_with fail
        go_at_call 92
        refine (refSet bc g cap W H N _ x y (blk n) _ C1b (hwf.half _ _)).mono ?_
        rintro e w2 ⟨rfl, C2, K1c⟩
        have P2 : PenAt w2 w.heap.size 0 n := P1b.keep K1c (Nat.ne_of_gt gb)
        have K2 : Keep (fun i => i = g) w w2 := K1b.trans K1c (fun _ _ h => h)
        clear C1b P1b K1b K1c
        obtain ⟨p0, p1, p2, p3, p4⟩ := P2
        go_wp2_with fail
        go_at_call 51
        refine (refBlank n _).mono ?_
        rintro e w2b ⟨rfl, hb⟩
        have C2b := C2.below hb
        have P2b : PenAt w2b w.heap.size 0 n := PenAt.same ⟨p0, p1, p2, p3, p4⟩ (hb.block _ (PenAt.lt ⟨p0, p1, p2, p3, p4⟩))
        have K2b := K2.thenBelow hb
        clear hb p0 p1 p2 p3 p4
        go_wp2_with fail
        go_at_call 92
        refine (refSet bc g cap W H N _ (x + 1) y (blk n) _ C2b (wf2.half _ _)).mono ?_
        rintro e w3 ⟨rfl, C3, K2c⟩
        have P3 : PenAt w3 w.heap.size 0 n := P2b.keep K2c (Nat.ne_of_gt gb)
        have K3 : Keep (fun i => i = g) w w3 := K2b.trans K2c (fun _ _ h => h)
        clear C2b P2b K2b K2c
        go_wp2_with fail
        go_end0
        refine ⟨rfl, ?_, K3⟩
        rw [HG.out]; exact C3
      · obtain ⟨a1, a2, a3, a4⟩ := inG_iff.1 i1
        obtain ⟨b1, b2, b3, b4⟩ := inG_iff.1 i2
        obtain ⟨x, rfl⟩ := Int.eq_ofNat_of_zero_le a1
        obtain ⟨y, rfl⟩ := Int.eq_ofNat_of_zero_le a3
        have HG : Hid (writeG W H G x y r n = upd (upd (setG W H (setG W H G x y (blk n)) (x + 1) y (blk n)) x y ⟨r, 1, n⟩) (x + 1) y ⟨r, 2, n⟩) := by unfold writeG; rw [if_neg Hr.out, if_pos ⟨i1, i2⟩]; rfl
        have HN : Hid (N = H * W) := Hh.out.hN
        have hl : y * W + (x + 1) < N := by rw [HN.out]; exact place_lt (by omega) (by omega)
        obtain ⟨i, hi⟩ : ∃ i, y * W + x = i := ⟨_, rfl⟩
        obtain ⟨m, hm⟩ : ∃ m, y * W = m := ⟨_, rfl⟩
        obtain ⟨j, hj⟩ : ∃ j, y * W + (x + 1) = j := ⟨_, rfl⟩
        have Hi : Hid (y * W + x = i) := hi
        have Hj : Hid (y * W + (x + 1) = j) := hj
        rw [hj] at hl
        rw [hm] at hi hj
        have hv1 : IntKind.i64.wrap ((y : Int) * (W : Int)) = (m : Int) := by rw [← Int.natCast_mul, hm]; exact wrap_id _ (by omega) (by omega)
        have hv2 : IntKind.i64.wrap ((m : Int) + (x : Int)) = (i : Int) := by rw [wrap_id _ (by omega) (by omega)]; omega
        have hv3 : IntKind.i64.wrap ((i : Int) + 1) = (j : Int) := by rw [wrap_id _ (by omega) (by omega)]; omega
        have hi1 : (0 : Int) ≤ (i : Int) := by omega
        have hi2 : (i : Int) < (N : Int) := by omega
        have hj1 : (0 : Int) ≤ (j : Int) := by omega
        have hj2 : (j : Int) < (N : Int) := by omega
        clear hm hi hj
        go_enter Tryd.func73, Tryd.ntmps73
        go_wp2_with fail
        go_at_call 72
        refine (Wd.refWidth r _ r0 r1).mono ?_
        rintro e w1 ⟨rfl, hb1⟩
        have hb : Below w.heap.size w w1 := ((Below.refl _ _).alloc (Nat.le_refl _) _).trans (hb1.mono (by simp))
        have C1 : Cels w1 bc g cap W H N G := Hh.out.below hb
        have P1 : PenAt w1 w.heap.size 0 n := (pen_new w n _).same (hb1.block _ (by simp))
        have K1 : Keep (fun i => i = g) w w1 := Keep.below _ hb
        clear hb1 hb
        go_wp2_with fail
        go_at_call 39
        refine (refIn bc W H x y _ C1.c0 C1.c1).mono ?_
        rintro e w' ⟨rfl, rfl⟩
        go_wp2_with fail
        go_at_call 39
        refine (refIn bc W H (x + 1) y _ C1.c0 C1.c1).mono ?_
        rintro e w' ⟨rfl, rfl⟩
        obtain ⟨p0, p1, p2, p3, p4⟩ := P1
        go_wp2_with fail
        go_at_call 51
        refine (refBlank n _).mono ?_
        rintro e w1b ⟨rfl, hb⟩
        have C1b := C1.below hb
        have P1b : PenAt w1b w.heap.size 0 n := PenAt.same ⟨p0, p1, p2, p3, p4⟩ (hb.block _ (PenAt.lt ⟨p0, p1, p2, p3, p4⟩))
        have K1b := K1.thenBelow hb
        clear hb p0 p1 p2 p3 p4
        go_wp2_with fail
        go_at_call 92
        refine (refSet bc g cap W H N _ x y (blk n) _ C1b (hwf.half _ _)).mono ?_
        rintro e w2 ⟨rfl, C2, K1c⟩
        have P2 : PenAt w2 w.heap.size 0 n := P1b.keep K1c (Nat.ne_of_gt gb)
        have K2 : Keep (fun i => i = g) w w2 := K1b.trans K1c (fun _ _ h => h)
        clear C1b P1b K1b K1c
        obtain ⟨p0, p1, p2, p3, p4⟩ := P2
        go_wp2_with fail
        go_at_call 51
        refine (refBlank n _).mono ?_
        rintro e w2b ⟨rfl, hb⟩
        have C2b := C2.below hb
        have P2b : PenAt w2b w.heap.size 0 n := PenAt.same ⟨p0, p1, p2, p3, p4⟩ (hb.block _ (PenAt.lt ⟨p0, p1, p2, p3, p4⟩))
        have K2b := K2.thenBelow hb
        clear hb p0 p1 p2 p3 p4
        go_wp2_with fail
        go_at_call 92
        refine (refSet bc g cap W H N _ (x + 1) y (blk n) _ C2b (wf2.half _ _)).mono ?_
        rintro e w3 ⟨rfl, C3, K2c⟩
        have P3 : PenAt w3 w.heap.size 0 n := P2b.keep K2c (Nat.ne_of_gt gb)
        have K3 : Keep (fun i => i = g) w w3 := K2b.trans K2c (fun _ _ h => h)
        clear C2b P2b K2b K2c
        clear C1 C2 K1 K2
        go_wp2_with fail
        have tg := C3.grid.cel x y (by omega) (by omega)
        rw [Hi.out] at tg
        obtain ⟨t0, t1, t2, t3, t4, t5, t6⟩ := tg
        have fr := C3.grid.free
        have z0 := C3.c0
        have z2 := C3.c2
        obtain ⟨p0, p1, p2, p3, p4⟩ := P3
        have ne1 : g ≠ bc := fun e => C3.ne e.symm
        have ne2 : g ≠ w.heap.size := Nat.ne_of_lt gb
        generalize w.heap.size = B1 at *
        go_region_held3 (fun w' => w'.cell? ⟨bc, 0, none⟩ = some (.int .i64 W) ∧ w'.cell? ⟨bc, 2, none⟩ = some (.slice (some ⟨g, 0, none⟩) N cap) ∧ w'.cell? ⟨B1, 0, none⟩ = some (.int .i64 n.f) ∧ w'.cell? ⟨B1, 1, none⟩ = some (.int .i64 n.b) ∧ w'.cell? ⟨B1, 2, none⟩ = some (.bool n.bo) ∧ w'.cell? ⟨B1, 3, none⟩ = some (.bool n.un) ∧ w'.cell? ⟨B1, 4, none⟩ = some (.bool n.re) ∧ (w'.cell? ⟨g, i * 7, none⟩).isSome = true ∧ (w'.cell? ⟨g, i * 7 + 1, none⟩).isSome = true ∧ (w'.cell? ⟨g, i * 7 + 2, none⟩).isSome = true ∧ (w'.cell? ⟨g, i * 7 + 3, none⟩).isSome = true ∧ (w'.cell? ⟨g, i * 7 + 4, none⟩).isSome = true ∧ (w'.cell? ⟨g, i * 7 + 5, none⟩).isSome = true ∧ (w'.cell? ⟨g, i * 7 + 6, none⟩).isSome = true ∧ (∀ o, w'.frozen? ⟨g, o, none⟩ = false)) (simp [*, World.cell?_setCell_far, isSome_set]) (fail)
        have C4 := C3.put (x := x) (y := y) (by omega) (by omega) (⟨r, 1, n⟩ : Cel)
        rw [Hi.out] at C4
        have P4 : PenAt (put7 w3 g (i * 7) ⟨r, 1, n⟩) B1 0 n := PenAt.same ⟨p0, p1, p2, p3, p4⟩ (put7_other _ _ _ _ _ ne2.symm)
        have K4 : Keep (fun i => i = g) w (put7 w3 g (i * 7) ⟨r, 1, n⟩) := K3.put7 _ _ _ (fun _ => rfl)
        generalize hW4 : put7 w3 g (i * 7) ⟨r, 1, n⟩ = w4 at *
        unfold put7 at hW4
        simp only at hW4
        rw [hW4]
        rename_i hS
        clear hS hW4 C3 K3 t0 t1 t2 t3 t4 t5 t6 fr z0 z2 p0 p1 p2 p3 p4
        go_wp2_with fail
        have tg := C4.grid.cel (x + 1) y (by omega) (by omega)
        rw [Hj.out] at tg
        obtain ⟨t0, t1, t2, t3, t4, t5, t6⟩ := tg
        have fr := C4.grid.free
        have z0 := C4.c0
        have z2 := C4.c2
        obtain ⟨p0, p1, p2, p3, p4⟩ := P4
        have ne1 : g ≠ bc := fun e => C4.ne e.symm
        go_region_held3 (fun w' => w'.cell? ⟨bc, 0, none⟩ = some (.int .i64 W) ∧ w'.cell? ⟨bc, 2, none⟩ = some (.slice (some ⟨g, 0, none⟩) N cap) ∧ w'.cell? ⟨B1, 0, none⟩ = some (.int .i64 n.f) ∧ w'.cell? ⟨B1, 1, none⟩ = some (.int .i64 n.b) ∧ w'.cell? ⟨B1, 2, none⟩ = some (.bool n.bo) ∧ w'.cell? ⟨B1, 3, none⟩ = some (.bool n.un) ∧ w'.cell? ⟨B1, 4, none⟩ = some (.bool n.re) ∧ (w'.cell? ⟨g, j * 7, none⟩).isSome = true ∧ (w'.cell? ⟨g, j * 7 + 1, none⟩).isSome = true ∧ (w'.cell? ⟨g, j * 7 + 2, none⟩).isSome = true ∧ (w'.cell? ⟨g, j * 7 + 3, none⟩).isSome = true ∧ (w'.cell? ⟨g, j * 7 + 4, none⟩).isSome = true ∧ (w'.cell? ⟨g, j * 7 + 5, none⟩).isSome = true ∧ (w'.cell? ⟨g, j * 7 + 6, none⟩).isSome = true ∧ (∀ o, w'.frozen? ⟨g, o, none⟩ = false)) (simp [*, World.cell?_setCell_far, isSome_set]) (fail)
        have C5 := C4.put (x := (x + 1)) (y := y) (by omega) (by omega) (⟨r, 2, n⟩ : Cel)
        rw [Hj.out] at C5
        have P5 : PenAt (put7 w4 g (j * 7) ⟨r, 2, n⟩) B1 0 n := PenAt.same ⟨p0, p1, p2, p3, p4⟩ (put7_other _ _ _ _ _ ne2.symm)
        have K5 : Keep (fun i => i = g) w (put7 w4 g (j * 7) ⟨r, 2, n⟩) := K4.put7 _ _ _ (fun _ => rfl)
        generalize hW5 : put7 w4 g (j * 7) ⟨r, 2, n⟩ = w5 at *
        unfold put7 at hW5
        simp only at hW5
        rw [hW5]
        rename_i hS
        clear hS hW5 C4 K4 t0 t1 t2 t3 t4 t5 t6 fr z0 z2 p0 p1 p2 p3 p4
        go_wp2_with fail
        refine bodyPost_ret (v := .tuple #[]) (by simp [results, Tryd.results73, go_sem]) rfl ⟨rfl, ?_, K5.drew.drew⟩
        rw [HG.out]; exact C5.drew.drew
end Go.Proofs.YtjlfibhbfdckpaaDoor

/- The document's screen: size, goes, back. -/
namespace Go.Proofs.YtjlfibhbfdckpaaDoor
open Go.RowKit
open Wd (wd)
attribute [local go_sem ↓] Go.wp_at_zero Go.wp_at_succ
theorem refSize (x y : Int) (w : World) :
    Calls Tryd.prog 32 #[.int .i64 x, .int .i64 y] w fun e w' => e = .returned (.bool (sizeB x y)) ∧ w' = w := by
  cases h1 : Wd.inB x 1 40 <;> cases h2 : Wd.inB y 1 20
  all_goals
    go_enter Tryd.func32, Tryd.ntmps32
    go_wp2_with (go_at_call 50; refine (Wd.refBetween _ _ _ _).mono ?_; rintro e w' ⟨rfl, rfl⟩)
    go_ret
    exact ⟨by simp [sizeB, h1, h2], rfl⟩
theorem refBack (bs bc g cap N : Nat) (s : Rs) (w : World) (h : RefAt w bs bc g cap N s) :
    Calls Tryd.prog 75 #[.pointer (some ⟨bs, 0, none⟩)] w fun e w' => e = .returned (backR s).agg ∧ Below w.heap.size w w' := by
  have f7 := h.f7
  have l := h.lt
  clear h
  go_enter Tryd.func75, Tryd.ntmps75
  go_wp2
  exact bodyPost_ret (v := (backR s).agg) (by simp [results, Tryd.results75, go_sem, backR]) rfl ⟨rfl, (Below.refl _ _).alloc (Nat.le_refl _) _⟩
set_option maxHeartbeats 1000000 in
theorem refGoes (bs bc g cap N : Nat) (s : Rs) (x y : Int) (w : World) (h : RefAt w bs bc g cap N s) :
    Calls Tryd.prog 35 #[.pointer (some ⟨bs, 0, none⟩), .int .i64 x, .int .i64 y] w fun e w' => e = .returned (.tuple #[]) ∧ RefAt w' bs bc g cap N (goesR s x y) ∧ Keep (fun i => i = bs) w w' := by
  have f1 := h.f1
  have f2 := h.f2
  have f3 := h.f3
  have f4 := h.f4
  have f5 := h.f5
  have fr := h.free
  have hw := h.cels.w1
  have hw2 := h.cels.w2
  have hh := h.cels.h1
  have hh2 := h.cels.h2
  have HR : Hid (RefAt w bs bc g cap N s) := h
  clear h
  rcases (by omega : x < 0 ∨ (0 ≤ x ∧ x ≤ (s.W : Int) - 1) ∨ (0 ≤ x ∧ (s.W : Int) - 1 < x)) with a1 | ⟨a1, a2⟩ | ⟨a1, a2⟩
  all_goals rcases (by omega : y < 0 ∨ (0 ≤ y ∧ y ≤ (s.H : Int) - 1) ∨ (0 ≤ y ∧ (s.H : Int) - 1 < y)) with b1 | ⟨b1, b2⟩ | ⟨b1, b2⟩
  all_goals
    have Hx : Hid (clampI x s.W = if x < 0 then 0 else if (s.W : Int) - 1 < x then (s.W : Int) - 1 else x) := rfl
    have Hy : Hid (clampI y s.H = if y < 0 then 0 else if (s.H : Int) - 1 < y then (s.H : Int) - 1 else y) := rfl
    go_enter Tryd.func35, Tryd.ntmps35
    go_wp2
    go_end0
    have ex := Hx.out
    have ey := Hy.out
    first | rw [if_pos a1] at ex | rw [if_neg (by omega), if_neg (by omega)] at ex | rw [if_neg (by omega), if_pos a2] at ex
    first | rw [if_pos b1] at ey | rw [if_neg (by omega), if_neg (by omega)] at ey | rw [if_neg (by omega), if_pos b2] at ey
    refine ⟨rfl, ?_, keep_xyp _ _ _ _ _⟩
    unfold goesR
    rw [ex, ey]
    exact HR.out.setXYP _ _
end Go.Proofs.YtjlfibhbfdckpaaDoor

/- The document's screen: linefeed. -/
namespace Go.Proofs.YtjlfibhbfdckpaaDoor
open Go.RowKit
open Wd (wd)
attribute [local go_sem ↓] Go.wp_at_zero Go.wp_at_succ
theorem refScrollI (bc g cap W H N : Nat) (G : Nat → Nat → Cel) (top bot : Int) (n : Int) (p : Pn) (w : World) (h : Cels w bc g cap W H N G) (t0 : 0 ≤ top) (b0 : 0 ≤ bot) (hb : bot < H) :
    Calls Tryd.prog 78 #[.pointer (some ⟨bc, 0, none⟩), .int .i64 top, .int .i64 bot, .int .i64 n, p.agg] w fun e w' => ∃ g' cap', e = .returned (.tuple #[]) ∧ Cels w' bc g' cap' W H N (scrollG top bot n p G) ∧ Keep (fun i => i = bc) w w' ∧ w.heap.size ≤ g' := by
  obtain ⟨top, rfl⟩ := Int.eq_ofNat_of_zero_le t0
  obtain ⟨bot, rfl⟩ := Int.eq_ofNat_of_zero_le b0
  exact refScroll bc g cap W H N G top bot n p w h (by omega)
theorem refEraseI (bc g cap W H N : Nat) (G : Nat → Nat → Cel) (f t : Int) (y : Int) (n : Pn) (w : World) (h : Cels w bc g cap W H N G) (hwf : Wf W H G) (y0 : 0 ≤ y) (hy : y < H) :
    Calls Tryd.prog 77 #[.pointer (some ⟨bc, 0, none⟩), .int .i64 f, .int .i64 t, .int .i64 y, n.agg] w fun e w' => e = .returned (.tuple #[]) ∧ Cels w' bc g cap W H N (wrt G (rg f t y.toNat) (fun _ _ => blk n)) ∧ Keep (fun i => i = g) w w' := by
  obtain ⟨y, rfl⟩ := Int.eq_ofNat_of_zero_le y0
  exact refErase bc g cap W H N G f t y n w h hwf (by omega)
theorem keep_cells {F : Nat → Prop} {w w' : World} (h : Keep F w w') {b : Nat} (hb : b < w.heap.size) (hF : ¬ F b) : ∀ o, w'.cell? ⟨b, o, none⟩ = w.cell? ⟨b, o, none⟩ := fun o => cell_same (h.block b hb hF) o
set_option maxHeartbeats 1000000 in
theorem refLinefeed (bs bc g cap N : Nat) (s : Rs) (w : World) (h : RefAt w bs bc g cap N s) (ok : Rs.Ok { s with pend := false }) :
    Calls Tryd.prog 71 #[.pointer (some ⟨bs, 0, none⟩)] w (RPost bs bc g w (linefeedR s) (.tuple #[])) := by
  have f0 := h.f0
  have f3 := h.f3
  have f4 := h.f4
  have f11 := h.f11
  have f12 := h.f12
  have HR : Hid (RefAt w bs bc g cap N s) := h
  have Hok : Hid (0 ≤ s.top ∧ 0 ≤ s.bot ∧ s.bot < s.H) := ⟨ok.t0, Int.le_trans ok.t0 ok.tb, ok.b1⟩
  have y1 : s.y < s.H := ok.y1
  have y0 : 0 ≤ s.y := ok.y0
  have h2 : s.H ≤ 20 := ok.h2
  clear h ok
  by_cases hy : s.y = s.bot
  · have hq : (s.y == s.bot) = true := by simp [hy]
    have HL : Hid (linefeedR s = { s with G := scrollG s.top s.bot 1 (backR s) s.G, pend := false }) := by unfold linefeedR; exact if_pos hy
    clear hy
    go_enter Tryd.func71, Tryd.ntmps71
    go_wp2_with fail
    go_quiet (fail)
    go_wp2_with fail
    go_at_call 75
    refine (refBack bs bc g cap N s _ (HR.out.drewN _)).mono ?_
    rintro e w2 ⟨rfl, hb2⟩
    have B2 : Below w.heap.size w w2 := ⟨hb2.os, hb2.tape, hb2.output, hb2.size, hb2.block⟩
    have HR2 : Hid (RefAt w2 bs bc g cap N s) := HR.out.below B2
    have K2 : Keep (fun i => i = bs ∨ i = bc ∨ i = g) w w2 := Keep.below _ B2
    have sz2 := B2.size
    clear hb2 B2 f0 f3 f4 f11 f12 HR
    have g0 := HR2.out.f0
    have g11 := HR2.out.f11
    have g12 := HR2.out.f12
    have l2 := HR2.out.lt
    go_wp2_with fail
    generalize hW3 : w2.alloc _ = w3
    have B3 : Below w2.heap.size w2 w3 := by rw [← hW3]; exact (Below.refl _ _).alloc (Nat.le_refl _) _
    have P3 : PenAt w3 w2.heap.size 0 (backR s) := by rw [← hW3]; exact pen_new _ _ _
    have HR3 : Hid (RefAt w3 bs bc g cap N s) := HR2.out.below B3
    have K3 : Keep (fun i => i = bs ∨ i = bc ∨ i = g) w w3 := K2.thenBelow B3
    have sz3 := B3.size
    have np : w2.heap.size ≠ bc := by have := HR2.out.cels.lt; omega
    generalize w2.heap.size = Bp at *
    clear hW3 B3 HR2 K2 g0 g11 g12
    have g0 := HR3.out.f0
    have g11 := HR3.out.f11
    have g12 := HR3.out.f12
    have l3 := HR3.out.lt
    have lp := P3.lt
    have nsc := HR3.out.ne1
    obtain ⟨p0, p1, p2, p3, p4⟩ := P3
    go_region_held3 (fun w' => w'.cell? ⟨bs, 0, none⟩ = some (.pointer (some ⟨bc, 0, none⟩)) ∧ w'.cell? ⟨bs, 11, none⟩ = some (.int .i64 s.top) ∧ w'.cell? ⟨bs, 12, none⟩ = some (.int .i64 s.bot) ∧ w'.cell? ⟨Bp, 0, none⟩ = some (.int .i64 (backR s).f) ∧ w'.cell? ⟨Bp, 1, none⟩ = some (.int .i64 (backR s).b) ∧ w'.cell? ⟨Bp, 2, none⟩ = some (.bool (backR s).bo) ∧ w'.cell? ⟨Bp, 3, none⟩ = some (.bool (backR s).un) ∧ w'.cell? ⟨Bp, 4, none⟩ = some (.bool (backR s).re)) (simp [*]) (first | (go_at_call 78; refine (refScrollI bc g cap s.W s.H N s.G s.top s.bot 1 (backR s) _ HR3.out.cels.drew Hok.out.1 Hok.out.2.1 Hok.out.2.2).mono ?_; rintro e w4 ⟨g4, cap4, rfl, C4, K4, hg4⟩; have e1 := keep_cells K4 l3 nsc; have e2 := keep_cells K4 lp np))
    have K4 : Keep (fun i => i = bc) w3 w4 := ⟨K4.os, K4.tape, K4.output, K4.size, K4.block⟩
    have R4 : RefAt w4 bs bc g4 cap4 N { s with G := scrollG s.top s.bot 1 (backR s) s.G } := HR3.out.cells { s with G := scrollG s.top s.bot 1 (backR s) s.G } (K4.block _ l3 nsc) C4 rfl (by have : w3.heap.size ≤ g4 := hg4; omega)
    have K5 : Keep (fun i => i = bs ∨ i = bc ∨ i = g) w w4 := K3.trans K4 (fun i _ hi => .inr (.inl hi))
    have hg5 : w.heap.size ≤ g4 := by have : w3.heap.size ≤ g4 := hg4; omega
    have HR4 : Hid (RefAt w4 bs bc g4 cap4 N { s with G := scrollG s.top s.bot 1 (backR s) s.G }) := R4
    have q5 := R4.f5
    have fr := R4.free
    rename_i hS
    clear hS e1 e2 C4 K4 R4 g0 g11 g12 p0 p1 p2 p3 p4
    go_wp2_with fail
    have R9 : RefAt (w4.setCell ⟨bs, 5, none⟩ (.bool false)) bs bc g4 cap4 N (linefeedR s) := by rw [HL.out]; exact HR4.out.setPend false
    exact bodyPost_ret (v := .tuple #[]) (by simp [results, Tryd.results71, go_sem]) rfl (rpost R9 (K5.setCell ⟨bs, 5, none⟩ _ (fun _ => .inl rfl)) (.inr hg5))
  · have hq : (s.y == s.bot) = false := by simp [hy]
    have HL : Hid (linefeedR s = goesR s s.x (s.y + 1)) := by unfold linefeedR; exact if_neg hy
    clear hy
    go_enter Tryd.func71, Tryd.ntmps71
    go_wp2_with fail
    go_quiet (fail)
    go_wp2_with fail
    have HR2 : Hid (RefAt (w.drewN nq) bs bc g cap N s) := HR.out.drewN nq
    have K2 : Keep (fun i => i = bs ∨ i = bc ∨ i = g) w (w.drewN nq) := (Keep.refl _ _).drewN nq
    generalize w.drewN nq = w2 at *
    clear f3 f4 f0 f11 f12
    have f3 := HR2.out.f3
    have f4 := HR2.out.f4
    have HL2 : Hid (Keep (fun i => i = bs ∨ i = bc ∨ i = g) w w2) := K2
    clear K2 HR
    have hwr : IntKind.i64.wrap (s.y + 1) = s.y + 1 := wrap_id _ (by omega) (by omega)
    go_region_with (first | (go_at_call 35; refine (refGoes bs bc g cap N s s.x (s.y + 1) _ HR2.out.drew).mono ?_; rintro e w5 ⟨rfl, R5, K5⟩))
    all_goals
      have K6 : Keep (fun i => i = bs ∨ i = bc ∨ i = g) w w5 := HL2.out.trans (⟨K5.os, K5.tape, K5.output, K5.size, K5.block⟩ : Keep (fun i => i = bs) w2 w5) (fun i _ hi => .inl hi)
      clear K5
      go_wp2_with fail
      go_end0
      have R9 : RefAt w5 bs bc g cap N (linefeedR s) := by rw [HL.out]; exact R5
      exact rpost R9 K6 (.inl rfl)
end Go.Proofs.YtjlfibhbfdckpaaDoor
