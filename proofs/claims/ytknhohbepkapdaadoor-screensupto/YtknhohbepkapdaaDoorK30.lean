/- Texts of the proof, one behind the other: RfL, RfM, RfN. -/
import Derived.Test.YtknhohbepkapdaaDoorK05
import Derived.Test.YtknhohbepkapdaaDoorK19
import Derived.Test.YtknhohbepkapdaaDoorK29
import Derived.Test.YtknhohbepkapdaaDoorChecked
import Derived.WalkSpells
import Derived.WalkLawsBesides
/- The document's screen: put. -/
namespace Go.Proofs.YtknhohbepkapdaaDoor
open Go.RowKit
open Wd (wd)
attribute [local go_sem ↓] Go.wp_at_zero Go.wp_at_succ
set_option maxHeartbeats 2000000 in
theorem refPutC1 (bs bc g cap N : Nat) (s : Rs) (r : Int) (w : World) (h : RefAt w bs bc g cap N s) (ok : s.Ok) (r0 : -2147483648 ≤ r) (r1 : r ≤ 2147483647) (hw : wd r = 2) (hW : s.W ≠ 1) (hp : s.pend = true) :
    Calls Tryd.prog 57 #[.pointer (some ⟨bs, 0, none⟩), .int .i32 r] w (RPost bs bc g w (putR s r) (.tuple #[])) := by
  have hq : (wd r == 0) = false := by simp [hw]
  have HP : Hid (putR s r = stepR (writeR (brokenR s 2) r) 2) := by
    show putR s r = _
    unfold putR effW effR; rw [if_neg (by omega), if_neg (by omega), if_neg (by omega), hw]
  have hW' : ((s.W : Int) == 1) = false := by simp; omega
  have hwraps : Hid (wraps s 2 = true) := by show wraps s 2 = true; simp [wraps, hp]
  have Hok : Hid s.Ok := ok
  have ok0 : Hid (Rs.Ok { ({ s with x := 0 } : Rs) with pend := false }) := ok_x0' ok
  have W1 := ok.w1
  have W2 := ok.w2
  have X0 := ok.x0
  have X1 := ok.x1
  have hv0 : IntKind.i64.wrap ((s.W : Int) - 1) = (s.W : Int) - 1 := wrap_id _ (by omega) (by omega)
  clear ok
  go_enter Tryd.func57, Tryd.ntmps57
  go_wp2_with fail
  go_at_call 72
  refine (Wd.refWidth r _ r0 r1).mono ?_
  rintro e w1 ⟨rfl, hb1⟩
  have HR1 : Hid (RefAt w1 bs bc g cap N s) := h.below hb1
  have K1 : Keep (fun i => i = bs ∨ i = bc ∨ i = g) w w1 := Keep.below _ hb1
  have f1 := HR1.out.f1
  have f3 := HR1.out.f3
  have f5 := HR1.out.f5
  clear h hb1
  go_wp2_with fail
  go_quiet (fail)
  have HR2 : Hid (RefAt (w1.drewN nq) bs bc g cap N s) := HR1.out.drewN nq
  have K2 : Keep (fun i => i = bs ∨ i = bc ∨ i = g) w (w1.drewN nq) := K1.drewN nq
  generalize w1.drewN nq = w2 at *
  clear f1 f3 f5 HR1 K1
  have f3 := HR2.out.f3
  have fr := HR2.out.free
  have l2 := HR2.out.lt
  go_wp2_with fail
  go_at_call 71
  refine (refLinefeed bs bc g cap N { s with x := 0 } _ (HR2.out.setX 0) ok0.out).mono ?_
  rintro e w5 ⟨g5, cap5, N5, rfl, R5, K4, hg5⟩
  have K5 : Keep (fun i => i = bs ∨ i = bc ∨ i = g) w w5 := (K2.setCell ⟨bs, 3, none⟩ _ (fun _ => .inl rfl)).trans K4 (fun _ _ h => h)
  have Hg6 : Hid (g5 = g ∨ w.heap.size ≤ g5) := hg5.imp id (fun q => by rw [set_size] at q; have := K2.size; omega)
  have Hs1 : Hid (brokenR s 2 = linefeedR { s with x := 0 }) := by unfold brokenR; exact if_pos hwraps.out
  clear K4 hg5 K2 HR2 f3 fr
  have ok1 : (linefeedR { s with x := 0 }).Ok := ok_lf Hok.out
  generalize linefeedR { s with x := 0 } = s1 at *
  have HR5 : Hid (RefAt w5 bs bc g5 cap5 N5 s1) := R5
  have x0 := ok1.x0
  have x1 := ok1.x1
  have y0 := ok1.y0
  have w40 := ok1.w2
  have w01 := ok1.w1
  have f0 := R5.f0
  have f3 := R5.f3
  have f4 := R5.f4
  have f6 := R5.f6
  have f7 := R5.f7
  have f8 := R5.f8
  have f9 := R5.f9
  have f10 := R5.f10
  have l5 := R5.lt
  have ne5 := R5.ne2
  have Hok1 : Hid s1.Ok := ok1
  clear R5 ok1
  go_wp2_with fail
  go_region_held3 (fun w' => w'.cell? ⟨bs, 0, none⟩ = some (.pointer (some ⟨bc, 0, none⟩)) ∧ w'.cell? ⟨bs, 3, none⟩ = some (.int .i64 s1.x) ∧ w'.cell? ⟨bs, 4, none⟩ = some (.int .i64 s1.y) ∧ w'.cell? ⟨bs, 6, none⟩ = some (.int .i64 s1.pen.f) ∧ w'.cell? ⟨bs, 7, none⟩ = some (.int .i64 s1.pen.b) ∧ w'.cell? ⟨bs, 8, none⟩ = some (.bool s1.pen.bo) ∧ w'.cell? ⟨bs, 9, none⟩ = some (.bool s1.pen.un) ∧ w'.cell? ⟨bs, 10, none⟩ = some (.bool s1.pen.re)) (simp [*]) (first | (go_at_call 73; refine (refWrite bc g5 cap5 s1.W s1.H N5 s1.G s1.x s1.y r s1.pen _ HR5.out.cels.drew Hok1.out.wf (by omega) (by omega) r0 r1).mono ?_; rintro e w6 ⟨rfl, C6, K6⟩; have e1 := keep_cells K6 l5 ne5))
  have K6 : Keep (fun i => i = g5) w5 w6 := ⟨K6.os, K6.tape, K6.output, K6.size, K6.block⟩
  have R6 : RefAt w6 bs bc g5 cap5 N5 (writeR s1 r) := HR5.out.cells (writeR s1 r) (K6.block _ l5 ne5) C6 rfl HR5.out.ne2
  have K7 : Keep (fun i => i = bs ∨ i = bc ∨ i = g) w w6 := K5.trans K6 (fun i hi e => by
    rcases Hg6.out with q | q
    · exact .inr (.inr (e.trans q))
    · omega)
  have HR6 : Hid (RefAt w6 bs bc g5 cap5 N5 (writeR s1 r)) := R6
  have f1 : w6.cell? ⟨bs, 1, none⟩ = some (.int .i64 s1.W) := R6.f1
  have f3 : w6.cell? ⟨bs, 3, none⟩ = some (.int .i64 s1.x) := R6.f3
  have f5 : w6.cell? ⟨bs, 5, none⟩ = some (.bool s1.pend) := R6.f5
  have fr := R6.free
  have hv : IntKind.i64.wrap (s1.x + 2) = s1.x + 2 := wrap_id _ (by omega) (by omega)
  rename_i hS
  clear hS e1 C6 K6 R6 K5 HR5
  go_wp2_with fail
  go_quiet (fail)
  go_wp2_with fail
  all_goals go_end0
  · have R9 : RefAt (((w6.drewN nq).setCell ⟨bs, 3, none⟩ (.int .i64 ((s1.W : Int) - 1))).setCell ⟨bs, 5, none⟩ (.bool true)) bs bc g5 cap5 N5 (putR s r) := by
      rw [HP.out, Hs1.out]
      unfold stepR
      rw [if_pos (by assumption)]
      exact ((HR6.out.drewN nq).setX ((s1.W : Int) - 1)).setPend true
    exact rpost R9 (((K7.drewN nq).setCell ⟨bs, 3, none⟩ _ (fun _ => .inl rfl)).setCell ⟨bs, 5, none⟩ _ (fun _ => .inl rfl)) Hg6.out
  · have R9 : RefAt ((w6.drewN nq).setCell ⟨bs, 3, none⟩ (.int .i64 (s1.x + 2))) bs bc g5 cap5 N5 (putR s r) := by
      rw [HP.out, Hs1.out]
      unfold stepR
      rw [if_neg (by show ¬ (s1.W : Int) ≤ s1.x + 2; omega)]
      exact (HR6.out.drewN nq).setX (s1.x + 2)
    exact rpost R9 ((K7.drewN nq).setCell ⟨bs, 3, none⟩ _ (fun _ => .inl rfl)) Hg6.out
set_option maxHeartbeats 2000000 in
theorem refPutC2 (bs bc g cap N : Nat) (s : Rs) (r : Int) (w : World) (h : RefAt w bs bc g cap N s) (ok : s.Ok) (r0 : -2147483648 ≤ r) (r1 : r ≤ 2147483647) (hw : wd r = 2) (hW : s.W ≠ 1) (hp : s.pend = false) (hx : s.x ≠ (s.W : Int) - 1) :
    Calls Tryd.prog 57 #[.pointer (some ⟨bs, 0, none⟩), .int .i32 r] w (RPost bs bc g w (putR s r) (.tuple #[])) := by
  have hq : (wd r == 0) = false := by simp [hw]
  have HP : Hid (putR s r = stepR (writeR (brokenR s 2) r) 2) := by
    show putR s r = _
    unfold putR effW effR; rw [if_neg (by omega), if_neg (by omega), if_neg (by omega), hw]
  have hW' : ((s.W : Int) == 1) = false := by simp; omega
  have hwraps : Hid (wraps s 2 = false) := by show wraps s 2 = false; simp [wraps, hp, hx]
  have hx' : (s.x == (s.W : Int) - 1) = false := by simp [hx]
  clear hx
  have Hok : Hid s.Ok := ok
  have ok0 : Hid (Rs.Ok { ({ s with x := 0 } : Rs) with pend := false }) := ok_x0' ok
  have W1 := ok.w1
  have W2 := ok.w2
  have X0 := ok.x0
  have X1 := ok.x1
  have hv0 : IntKind.i64.wrap ((s.W : Int) - 1) = (s.W : Int) - 1 := wrap_id _ (by omega) (by omega)
  clear ok
  go_enter Tryd.func57, Tryd.ntmps57
  go_wp2_with fail
  go_at_call 72
  refine (Wd.refWidth r _ r0 r1).mono ?_
  rintro e w1 ⟨rfl, hb1⟩
  have HR1 : Hid (RefAt w1 bs bc g cap N s) := h.below hb1
  have K1 : Keep (fun i => i = bs ∨ i = bc ∨ i = g) w w1 := Keep.below _ hb1
  have f1 := HR1.out.f1
  have f3 := HR1.out.f3
  have f5 := HR1.out.f5
  clear h hb1
  go_wp2_with fail
  go_quiet (fail)
  have HR2 : Hid (RefAt (w1.drewN nq) bs bc g cap N s) := HR1.out.drewN nq
  have K2 : Keep (fun i => i = bs ∨ i = bc ∨ i = g) w (w1.drewN nq) := K1.drewN nq
  generalize w1.drewN nq = w2 at *
  clear f1 f3 f5 HR1 K1
  have R5 := HR2.out
  have K5 := K2
  have Hs1 : Hid (brokenR s 2 = s) := by unfold brokenR; exact if_neg (by rw [hwraps.out]; decide)
  have ok1 := Hok.out
  generalize hge : g = g5 at R5
  generalize hce : cap = cap5 at R5
  generalize hNe : N = N5 at R5
  have Hg6 : Hid (g5 = g ∨ w.heap.size ≤ g5) := .inl hge.symm
  clear hge hce hNe K2 HR2
  generalize w2 = w5 at *
  generalize hse : s = s1 at R5 ok1
  have Hs1 : Hid (brokenR s 2 = s1) := by rw [← hse]; exact Hs1.out
  clear hse
  have HR5 : Hid (RefAt w5 bs bc g5 cap5 N5 s1) := R5
  have x0 := ok1.x0
  have x1 := ok1.x1
  have y0 := ok1.y0
  have w40 := ok1.w2
  have w01 := ok1.w1
  have f0 := R5.f0
  have f3 := R5.f3
  have f4 := R5.f4
  have f6 := R5.f6
  have f7 := R5.f7
  have f8 := R5.f8
  have f9 := R5.f9
  have f10 := R5.f10
  have l5 := R5.lt
  have ne5 := R5.ne2
  have Hok1 : Hid s1.Ok := ok1
  clear R5 ok1
  go_wp2_with fail
  go_region_held3 (fun w' => w'.cell? ⟨bs, 0, none⟩ = some (.pointer (some ⟨bc, 0, none⟩)) ∧ w'.cell? ⟨bs, 3, none⟩ = some (.int .i64 s1.x) ∧ w'.cell? ⟨bs, 4, none⟩ = some (.int .i64 s1.y) ∧ w'.cell? ⟨bs, 6, none⟩ = some (.int .i64 s1.pen.f) ∧ w'.cell? ⟨bs, 7, none⟩ = some (.int .i64 s1.pen.b) ∧ w'.cell? ⟨bs, 8, none⟩ = some (.bool s1.pen.bo) ∧ w'.cell? ⟨bs, 9, none⟩ = some (.bool s1.pen.un) ∧ w'.cell? ⟨bs, 10, none⟩ = some (.bool s1.pen.re)) (simp [*]) (first | (go_at_call 73; refine (refWrite bc g5 cap5 s1.W s1.H N5 s1.G s1.x s1.y r s1.pen _ HR5.out.cels.drew Hok1.out.wf (by omega) (by omega) r0 r1).mono ?_; rintro e w6 ⟨rfl, C6, K6⟩; have e1 := keep_cells K6 l5 ne5))
  have K6 : Keep (fun i => i = g5) w5 w6 := ⟨K6.os, K6.tape, K6.output, K6.size, K6.block⟩
  have R6 : RefAt w6 bs bc g5 cap5 N5 (writeR s1 r) := HR5.out.cells (writeR s1 r) (K6.block _ l5 ne5) C6 rfl HR5.out.ne2
  have K7 : Keep (fun i => i = bs ∨ i = bc ∨ i = g) w w6 := K5.trans K6 (fun i hi e => by
    rcases Hg6.out with q | q
    · exact .inr (.inr (e.trans q))
    · omega)
  have HR6 : Hid (RefAt w6 bs bc g5 cap5 N5 (writeR s1 r)) := R6
  have f1 : w6.cell? ⟨bs, 1, none⟩ = some (.int .i64 s1.W) := R6.f1
  have f3 : w6.cell? ⟨bs, 3, none⟩ = some (.int .i64 s1.x) := R6.f3
  have f5 : w6.cell? ⟨bs, 5, none⟩ = some (.bool s1.pend) := R6.f5
  have fr := R6.free
  have hv : IntKind.i64.wrap (s1.x + 2) = s1.x + 2 := wrap_id _ (by omega) (by omega)
  rename_i hS
  clear hS e1 C6 K6 R6 K5 HR5
  go_wp2_with fail
  go_quiet (fail)
  go_wp2_with fail
  all_goals go_end0
  · have R9 : RefAt (((w6.drewN nq).setCell ⟨bs, 3, none⟩ (.int .i64 ((s1.W : Int) - 1))).setCell ⟨bs, 5, none⟩ (.bool true)) bs bc g5 cap5 N5 (putR s r) := by
      rw [HP.out, Hs1.out]
      unfold stepR
      rw [if_pos (by assumption)]
      exact ((HR6.out.drewN nq).setX ((s1.W : Int) - 1)).setPend true
    exact rpost R9 (((K7.drewN nq).setCell ⟨bs, 3, none⟩ _ (fun _ => .inl rfl)).setCell ⟨bs, 5, none⟩ _ (fun _ => .inl rfl)) Hg6.out
  · have R9 : RefAt ((w6.drewN nq).setCell ⟨bs, 3, none⟩ (.int .i64 (s1.x + 2))) bs bc g5 cap5 N5 (putR s r) := by
      rw [HP.out, Hs1.out]
      unfold stepR
      rw [if_neg (by show ¬ (s1.W : Int) ≤ s1.x + 2; omega)]
      exact (HR6.out.drewN nq).setX (s1.x + 2)
    exact rpost R9 ((K7.drewN nq).setCell ⟨bs, 3, none⟩ _ (fun _ => .inl rfl)) Hg6.out
set_option maxHeartbeats 2000000 in
theorem refPutC3 (bs bc g cap N : Nat) (s : Rs) (r : Int) (w : World) (h : RefAt w bs bc g cap N s) (ok : s.Ok) (r0 : -2147483648 ≤ r) (r1 : r ≤ 2147483647) (hw : wd r = 2) (hW : s.W ≠ 1) (hp : s.pend = false) (hx : s.x = (s.W : Int) - 1) :
    Calls Tryd.prog 57 #[.pointer (some ⟨bs, 0, none⟩), .int .i32 r] w (RPost bs bc g w (putR s r) (.tuple #[])) := by
  have hq : (wd r == 0) = false := by simp [hw]
  have HP : Hid (putR s r = stepR (writeR (brokenR s 2) r) 2) := by
    show putR s r = _
    unfold putR effW effR; rw [if_neg (by omega), if_neg (by omega), if_neg (by omega), hw]
  have hW' : ((s.W : Int) == 1) = false := by simp; omega
  have hwraps : Hid (wraps s 2 = true) := by show wraps s 2 = true; simp [wraps, hx]
  have hx' : (s.x == (s.W : Int) - 1) = true := by simp [hx]
  clear hx
  have Hok : Hid s.Ok := ok
  have ok0 : Hid (Rs.Ok { ({ s with x := 0 } : Rs) with pend := false }) := ok_x0' ok
  have W1 := ok.w1
  have W2 := ok.w2
  have X0 := ok.x0
  have X1 := ok.x1
  have hv0 : IntKind.i64.wrap ((s.W : Int) - 1) = (s.W : Int) - 1 := wrap_id _ (by omega) (by omega)
  clear ok
  go_enter Tryd.func57, Tryd.ntmps57
  go_wp2_with fail
  go_at_call 72
  refine (Wd.refWidth r _ r0 r1).mono ?_
  rintro e w1 ⟨rfl, hb1⟩
  have HR1 : Hid (RefAt w1 bs bc g cap N s) := h.below hb1
  have K1 : Keep (fun i => i = bs ∨ i = bc ∨ i = g) w w1 := Keep.below _ hb1
  have f1 := HR1.out.f1
  have f3 := HR1.out.f3
  have f5 := HR1.out.f5
  clear h hb1
  go_wp2_with fail
  go_quiet (fail)
  have HR2 : Hid (RefAt (w1.drewN nq) bs bc g cap N s) := HR1.out.drewN nq
  have K2 : Keep (fun i => i = bs ∨ i = bc ∨ i = g) w (w1.drewN nq) := K1.drewN nq
  generalize w1.drewN nq = w2 at *
  clear f1 f3 f5 HR1 K1
  have f3 := HR2.out.f3
  have fr := HR2.out.free
  have l2 := HR2.out.lt
  go_wp2_with fail
  go_at_call 71
  refine (refLinefeed bs bc g cap N { s with x := 0 } _ (HR2.out.setX 0) ok0.out).mono ?_
  rintro e w5 ⟨g5, cap5, N5, rfl, R5, K4, hg5⟩
  have K5 : Keep (fun i => i = bs ∨ i = bc ∨ i = g) w w5 := (K2.setCell ⟨bs, 3, none⟩ _ (fun _ => .inl rfl)).trans K4 (fun _ _ h => h)
  have Hg6 : Hid (g5 = g ∨ w.heap.size ≤ g5) := hg5.imp id (fun q => by rw [set_size] at q; have := K2.size; omega)
  have Hs1 : Hid (brokenR s 2 = linefeedR { s with x := 0 }) := by unfold brokenR; exact if_pos hwraps.out
  clear K4 hg5 K2 HR2 f3 fr
  have ok1 : (linefeedR { s with x := 0 }).Ok := ok_lf Hok.out
  generalize linefeedR { s with x := 0 } = s1 at *
  have HR5 : Hid (RefAt w5 bs bc g5 cap5 N5 s1) := R5
  have x0 := ok1.x0
  have x1 := ok1.x1
  have y0 := ok1.y0
  have w40 := ok1.w2
  have w01 := ok1.w1
  have f0 := R5.f0
  have f3 := R5.f3
  have f4 := R5.f4
  have f6 := R5.f6
  have f7 := R5.f7
  have f8 := R5.f8
  have f9 := R5.f9
  have f10 := R5.f10
  have l5 := R5.lt
  have ne5 := R5.ne2
  have Hok1 : Hid s1.Ok := ok1
  clear R5 ok1
  go_wp2_with fail
  go_region_held3 (fun w' => w'.cell? ⟨bs, 0, none⟩ = some (.pointer (some ⟨bc, 0, none⟩)) ∧ w'.cell? ⟨bs, 3, none⟩ = some (.int .i64 s1.x) ∧ w'.cell? ⟨bs, 4, none⟩ = some (.int .i64 s1.y) ∧ w'.cell? ⟨bs, 6, none⟩ = some (.int .i64 s1.pen.f) ∧ w'.cell? ⟨bs, 7, none⟩ = some (.int .i64 s1.pen.b) ∧ w'.cell? ⟨bs, 8, none⟩ = some (.bool s1.pen.bo) ∧ w'.cell? ⟨bs, 9, none⟩ = some (.bool s1.pen.un) ∧ w'.cell? ⟨bs, 10, none⟩ = some (.bool s1.pen.re)) (simp [*]) (first | (go_at_call 73; refine (refWrite bc g5 cap5 s1.W s1.H N5 s1.G s1.x s1.y r s1.pen _ HR5.out.cels.drew Hok1.out.wf (by omega) (by omega) r0 r1).mono ?_; rintro e w6 ⟨rfl, C6, K6⟩; have e1 := keep_cells K6 l5 ne5))
  have K6 : Keep (fun i => i = g5) w5 w6 := ⟨K6.os, K6.tape, K6.output, K6.size, K6.block⟩
  have R6 : RefAt w6 bs bc g5 cap5 N5 (writeR s1 r) := HR5.out.cells (writeR s1 r) (K6.block _ l5 ne5) C6 rfl HR5.out.ne2
  have K7 : Keep (fun i => i = bs ∨ i = bc ∨ i = g) w w6 := K5.trans K6 (fun i hi e => by
    rcases Hg6.out with q | q
    · exact .inr (.inr (e.trans q))
    · omega)
  have HR6 : Hid (RefAt w6 bs bc g5 cap5 N5 (writeR s1 r)) := R6
  have f1 : w6.cell? ⟨bs, 1, none⟩ = some (.int .i64 s1.W) := R6.f1
  have f3 : w6.cell? ⟨bs, 3, none⟩ = some (.int .i64 s1.x) := R6.f3
  have f5 : w6.cell? ⟨bs, 5, none⟩ = some (.bool s1.pend) := R6.f5
  have fr := R6.free
  have hv : IntKind.i64.wrap (s1.x + 2) = s1.x + 2 := wrap_id _ (by omega) (by omega)
  rename_i hS
  clear hS e1 C6 K6 R6 K5 HR5
  go_wp2_with fail
  go_quiet (fail)
  go_wp2_with fail
  all_goals go_end0
  · have R9 : RefAt (((w6.drewN nq).setCell ⟨bs, 3, none⟩ (.int .i64 ((s1.W : Int) - 1))).setCell ⟨bs, 5, none⟩ (.bool true)) bs bc g5 cap5 N5 (putR s r) := by
      rw [HP.out, Hs1.out]
      unfold stepR
      rw [if_pos (by assumption)]
      exact ((HR6.out.drewN nq).setX ((s1.W : Int) - 1)).setPend true
    exact rpost R9 (((K7.drewN nq).setCell ⟨bs, 3, none⟩ _ (fun _ => .inl rfl)).setCell ⟨bs, 5, none⟩ _ (fun _ => .inl rfl)) Hg6.out
  · have R9 : RefAt ((w6.drewN nq).setCell ⟨bs, 3, none⟩ (.int .i64 (s1.x + 2))) bs bc g5 cap5 N5 (putR s r) := by
      rw [HP.out, Hs1.out]
      unfold stepR
      rw [if_neg (by show ¬ (s1.W : Int) ≤ s1.x + 2; omega)]
      exact (HR6.out.drewN nq).setX (s1.x + 2)
    exact rpost R9 ((K7.drewN nq).setCell ⟨bs, 3, none⟩ _ (fun _ => .inl rfl)) Hg6.out
end Go.Proofs.YtknhohbepkapdaaDoor

/- The document's screen: put, all ways. -/
namespace Go.Proofs.YtknhohbepkapdaaDoor
open Wd (wd)
theorem refPut (bs bc g cap N : Nat) (s : Rs) (r : Int) (w : World) (h : RefAt w bs bc g cap N s) (ok : s.Ok) (r0 : -2147483648 ≤ r) (r1 : r ≤ 2147483647) :
    Calls Tryd.prog 57 #[.pointer (some ⟨bs, 0, none⟩), .int .i32 r] w (RPost bs bc g w (putR s r) (.tuple #[])) := by
  rcases Wd.wd_cases r with hw | hw | hw
  · exact refPut0 bs bc g cap N s r w h r0 r1 hw
  · cases hp : s.pend
    · exact refPutA2 bs bc g cap N s r w h ok r0 r1 hw hp
    · exact refPutA1 bs bc g cap N s r w h ok r0 r1 hw hp
  · by_cases hW : s.W = 1
    · cases hp : s.pend
      · exact refPutB2 bs bc g cap N s r w h ok r0 r1 hw hW hp
      · exact refPutB1 bs bc g cap N s r w h ok r0 r1 hw hW hp
    · cases hp : s.pend
      · by_cases hx : s.x = (s.W : Int) - 1
        · exact refPutC3 bs bc g cap N s r w h ok r0 r1 hw hW hp hx
        · exact refPutC2 bs bc g cap N s r w h ok r0 r1 hw hW hp hx
      · exact refPutC1 bs bc g cap N s r w h ok r0 r1 hw hW hp
end Go.Proofs.YtknhohbepkapdaaDoor

/- The document's letters in bytes: long, goesOn, letter. -/
namespace Go.Proofs.YtknhohbepkapdaaDoor
open Go.RowKit
theorem refLong (c : Int) (w : World) (c0 : 0 ≤ c) (c1 : c ≤ 255) :
    Calls Tryd.prog 55 #[.int .u8 c] w fun e w' => e = .returned (.int .i64 (longR c)) ∧ w' = w := by
  rcases (by omega : c < 194 ∨ (194 ≤ c ∧ c ≤ 223) ∨ (224 ≤ c ∧ c ≤ 239) ∨ (240 ≤ c ∧ c ≤ 244) ∨ 245 ≤ c) with h | ⟨h, h'⟩ | ⟨h, h'⟩ | ⟨h, h'⟩ | h
  · rw [show longR c = 0 from by unfold longR; rw [if_neg (by omega), if_neg (by omega), if_neg (by omega)]]
    go_enter Tryd.func55, Tryd.ntmps55
    go_wp2
    go_ret
    exact ⟨rfl, rfl⟩
  · rw [show longR c = 2 from by unfold longR; rw [if_pos (by omega)]]
    go_enter Tryd.func55, Tryd.ntmps55
    go_wp2
    go_ret
    exact ⟨rfl, rfl⟩
  · rw [show longR c = 3 from by unfold longR; rw [if_neg (by omega), if_pos (by omega)]]
    go_enter Tryd.func55, Tryd.ntmps55
    go_wp2
    go_ret
    exact ⟨rfl, rfl⟩
  · rw [show longR c = 4 from by unfold longR; rw [if_neg (by omega), if_neg (by omega), if_pos (by omega)]]
    go_enter Tryd.func55, Tryd.ntmps55
    go_wp2
    go_ret
    exact ⟨rfl, rfl⟩
  · rw [show longR c = 0 from by unfold longR; rw [if_neg (by omega), if_neg (by omega), if_neg (by omega)]]
    go_enter Tryd.func55, Tryd.ntmps55
    go_wp2
    go_ret
    exact ⟨rfl, rfl⟩
set_option maxHeartbeats 4000000 in
theorem refGoesOn1 (a : UInt8) (c : Int) (w : World) (c0 : 0 ≤ c) (c1 : c ≤ 255) :
    Calls Tryd.prog 54 #[.string ⟨#[a]⟩, .int .u8 c] w fun e w' => e = .returned (.bool (goesOnB [a] c)) ∧ w' = w := by
  have ha : a.toNat < 256 := a.toNat_lt
  have e0 : (({ data := #[a] } : ByteArray)[0]'(Nat.one_pos)).toNat = a.toNat := rfl
  rcases (by omega : (a.toNat : Int) = 224 ∨ (a.toNat : Int) = 237 ∨ (a.toNat : Int) = 240 ∨ (a.toNat : Int) = 244 ∨ ((a.toNat : Int) ≠ 224 ∧ (a.toNat : Int) ≠ 237 ∧ (a.toNat : Int) ≠ 240 ∧ (a.toNat : Int) ≠ 244)) with q | q | q | q | ⟨q1, q2, q3, q4⟩
  · have hg : goesOnB [a] c = (decide (160 ≤ c) && decide (c ≤ 191)) := by simp only [goesOnB, lowR, highR, q]; simp
    rw [hg]; clear hg
    rcases (by omega : c < 160 ∨ (160 ≤ c ∧ c ≤ 191) ∨ 191 < c) with h | ⟨h, h'⟩ | h
    · rw [show (decide (160 ≤ c) && decide (c ≤ 191)) = false from by simp; omega]
      go_enter Tryd.func54, Tryd.ntmps54
      go_wp2
      go_ret
      exact ⟨by first | rfl | (simp; omega), rfl⟩
    · rw [show (decide (160 ≤ c) && decide (c ≤ 191)) = true from by simp; omega]
      go_enter Tryd.func54, Tryd.ntmps54
      go_wp2
      go_ret
      exact ⟨by first | rfl | (simp; omega), rfl⟩
    · rw [show (decide (160 ≤ c) && decide (c ≤ 191)) = false from by simp; omega]
      go_enter Tryd.func54, Tryd.ntmps54
      go_wp2
      go_ret
      exact ⟨by first | rfl | (simp; omega), rfl⟩
  · have hg : goesOnB [a] c = (decide (128 ≤ c) && decide (c ≤ 159)) := by simp only [goesOnB, lowR, highR, q]; simp
    rw [hg]; clear hg
    rcases (by omega : c < 128 ∨ (128 ≤ c ∧ c ≤ 159) ∨ 159 < c) with h | ⟨h, h'⟩ | h
    · rw [show (decide (128 ≤ c) && decide (c ≤ 159)) = false from by simp; omega]
      go_enter Tryd.func54, Tryd.ntmps54
      go_wp2
      go_ret
      exact ⟨by first | rfl | (simp; omega), rfl⟩
    · rw [show (decide (128 ≤ c) && decide (c ≤ 159)) = true from by simp; omega]
      go_enter Tryd.func54, Tryd.ntmps54
      go_wp2
      go_ret
      exact ⟨by first | rfl | (simp; omega), rfl⟩
    · rw [show (decide (128 ≤ c) && decide (c ≤ 159)) = false from by simp; omega]
      go_enter Tryd.func54, Tryd.ntmps54
      go_wp2
      go_ret
      exact ⟨by first | rfl | (simp; omega), rfl⟩
  · have hg : goesOnB [a] c = (decide (144 ≤ c) && decide (c ≤ 191)) := by simp only [goesOnB, lowR, highR, q]; simp
    rw [hg]; clear hg
    rcases (by omega : c < 144 ∨ (144 ≤ c ∧ c ≤ 191) ∨ 191 < c) with h | ⟨h, h'⟩ | h
    · rw [show (decide (144 ≤ c) && decide (c ≤ 191)) = false from by simp; omega]
      go_enter Tryd.func54, Tryd.ntmps54
      go_wp2
      go_ret
      exact ⟨by first | rfl | (simp; omega), rfl⟩
    · rw [show (decide (144 ≤ c) && decide (c ≤ 191)) = true from by simp; omega]
      go_enter Tryd.func54, Tryd.ntmps54
      go_wp2
      go_ret
      exact ⟨by first | rfl | (simp; omega), rfl⟩
    · rw [show (decide (144 ≤ c) && decide (c ≤ 191)) = false from by simp; omega]
      go_enter Tryd.func54, Tryd.ntmps54
      go_wp2
      go_ret
      exact ⟨by first | rfl | (simp; omega), rfl⟩
  · have hg : goesOnB [a] c = (decide (128 ≤ c) && decide (c ≤ 143)) := by simp only [goesOnB, lowR, highR, q]; simp
    rw [hg]; clear hg
    rcases (by omega : c < 128 ∨ (128 ≤ c ∧ c ≤ 143) ∨ 143 < c) with h | ⟨h, h'⟩ | h
    · rw [show (decide (128 ≤ c) && decide (c ≤ 143)) = false from by simp; omega]
      go_enter Tryd.func54, Tryd.ntmps54
      go_wp2
      go_ret
      exact ⟨by first | rfl | (simp; omega), rfl⟩
    · rw [show (decide (128 ≤ c) && decide (c ≤ 143)) = true from by simp; omega]
      go_enter Tryd.func54, Tryd.ntmps54
      go_wp2
      go_ret
      exact ⟨by first | rfl | (simp; omega), rfl⟩
    · rw [show (decide (128 ≤ c) && decide (c ≤ 143)) = false from by simp; omega]
      go_enter Tryd.func54, Tryd.ntmps54
      go_wp2
      go_ret
      exact ⟨by first | rfl | (simp; omega), rfl⟩
  · have hg : goesOnB [a] c = (decide (128 ≤ c) && decide (c ≤ 191)) := by simp only [goesOnB, lowR, highR, q1, q2, q3, q4, if_false]
    rw [hg]; clear hg
    have b1 : ((a.toNat : Int) == 224) = false := by simpa using q1
    have b2 : ((a.toNat : Int) == 237) = false := by simpa using q2
    have b3 : ((a.toNat : Int) == 240) = false := by simpa using q3
    have b4 : ((a.toNat : Int) == 244) = false := by simpa using q4
    clear q1 q2 q3 q4
    rcases (by omega : c < 128 ∨ (128 ≤ c ∧ c ≤ 191) ∨ 191 < c) with h | ⟨h, h'⟩ | h
    · rw [show (decide (128 ≤ c) && decide (c ≤ 191)) = false from by simp; omega]
      go_enter Tryd.func54, Tryd.ntmps54
      go_wp2
      go_ret
      exact ⟨by first | rfl | (simp; omega), rfl⟩
    · rw [show (decide (128 ≤ c) && decide (c ≤ 191)) = true from by simp; omega]
      go_enter Tryd.func54, Tryd.ntmps54
      go_wp2
      go_ret
      exact ⟨by first | rfl | (simp; omega), rfl⟩
    · rw [show (decide (128 ≤ c) && decide (c ≤ 191)) = false from by simp; omega]
      go_enter Tryd.func54, Tryd.ntmps54
      go_wp2
      go_ret
      exact ⟨by first | rfl | (simp; omega), rfl⟩
set_option maxHeartbeats 1000000 in
theorem refGoesOn2 (a b : UInt8) (c : Int) (w : World) (c0 : 0 ≤ c) (c1 : c ≤ 255) :
    Calls Tryd.prog 54 #[.string ⟨#[a, b]⟩, .int .u8 c] w fun e w' => e = .returned (.bool (goesOnB [a, b] c)) ∧ w' = w := by
  have hg : goesOnB [a, b] c = (decide (128 ≤ c) && decide (c ≤ 191)) := rfl
  rw [hg]; clear hg
  rcases (by omega : c < 128 ∨ (128 ≤ c ∧ c ≤ 191) ∨ 191 < c) with h | ⟨h, h'⟩ | h
  · rw [show (decide (128 ≤ c) && decide (c ≤ 191)) = false from by simp; omega]
    go_enter Tryd.func54, Tryd.ntmps54
    go_wp2
    go_ret
    exact ⟨by first | rfl | (simp; omega), rfl⟩
  · rw [show (decide (128 ≤ c) && decide (c ≤ 191)) = true from by simp; omega]
    go_enter Tryd.func54, Tryd.ntmps54
    go_wp2
    go_ret
    exact ⟨by first | rfl | (simp; omega), rfl⟩
  · rw [show (decide (128 ≤ c) && decide (c ≤ 191)) = false from by simp; omega]
    go_enter Tryd.func54, Tryd.ntmps54
    go_wp2
    go_ret
    exact ⟨by first | rfl | (simp; omega), rfl⟩
set_option maxHeartbeats 1000000 in
theorem refGoesOn3 (a b d : UInt8) (c : Int) (w : World) (c0 : 0 ≤ c) (c1 : c ≤ 255) :
    Calls Tryd.prog 54 #[.string ⟨#[a, b, d]⟩, .int .u8 c] w fun e w' => e = .returned (.bool (goesOnB [a, b, d] c)) ∧ w' = w := by
  have hg : goesOnB [a, b, d] c = (decide (128 ≤ c) && decide (c ≤ 191)) := rfl
  rw [hg]; clear hg
  rcases (by omega : c < 128 ∨ (128 ≤ c ∧ c ≤ 191) ∨ 191 < c) with h | ⟨h, h'⟩ | h
  · rw [show (decide (128 ≤ c) && decide (c ≤ 191)) = false from by simp; omega]
    go_enter Tryd.func54, Tryd.ntmps54
    go_wp2
    go_ret
    exact ⟨by first | rfl | (simp; omega), rfl⟩
  · rw [show (decide (128 ≤ c) && decide (c ≤ 191)) = true from by simp; omega]
    go_enter Tryd.func54, Tryd.ntmps54
    go_wp2
    go_ret
    exact ⟨by first | rfl | (simp; omega), rfl⟩
  · rw [show (decide (128 ≤ c) && decide (c ≤ 191)) = false from by simp; omega]
    go_enter Tryd.func54, Tryd.ntmps54
    go_wp2
    go_ret
    exact ⟨by first | rfl | (simp; omega), rfl⟩
set_option maxHeartbeats 2000000 in
theorem refLetter2 (a b : UInt8) (w : World) (h1 : 194 ≤ a.toNat) (h2 : a.toNat ≤ 223) (l1 : 128 ≤ b.toNat) (u1 : b.toNat ≤ 191) :
    Calls Tryd.prog 56 #[.string ⟨#[a, b]⟩] w fun e w' => e = .returned (.int .i32 (letterR [a, b])) ∧ w' = w := by
  have e0 : (({ data := #[a, b] } : ByteArray)[0]'(show 0 < 2 by decide)).toNat = a.toNat := rfl
  have e1 : (({ data := #[a, b] } : ByteArray)[1]'(show 1 < 2 by decide)).toNat = b.toNat := rfl
  go_enter Tryd.func56, Tryd.ntmps56
  go_wp2_with fail
  refine wp_loop_rounds 2 ?_
  rw [rounds_succ]
  go_wp2_with fail
  rw [rounds_succ]
  go_wp2_with fail
  go_ret
  exact ⟨rfl, rfl⟩
set_option maxHeartbeats 2000000 in
theorem refLetter3 (a b c : UInt8) (w : World) (h1 : 224 ≤ a.toNat) (h2 : a.toNat ≤ 239) (l1 : 128 ≤ b.toNat) (u1 : b.toNat ≤ 191) (l2 : 128 ≤ c.toNat) (u2 : c.toNat ≤ 191) :
    Calls Tryd.prog 56 #[.string ⟨#[a, b, c]⟩] w fun e w' => e = .returned (.int .i32 (letterR [a, b, c])) ∧ w' = w := by
  have e0 : (({ data := #[a, b, c] } : ByteArray)[0]'(show 0 < 3 by decide)).toNat = a.toNat := rfl
  have e1 : (({ data := #[a, b, c] } : ByteArray)[1]'(show 1 < 3 by decide)).toNat = b.toNat := rfl
  have e2 : (({ data := #[a, b, c] } : ByteArray)[2]'(show 2 < 3 by decide)).toNat = c.toNat := rfl
  go_enter Tryd.func56, Tryd.ntmps56
  go_wp2_with fail
  refine wp_loop_rounds 3 ?_
  rw [rounds_succ]
  go_wp2_with fail
  rw [rounds_succ]
  go_wp2_with fail
  rw [rounds_succ]
  go_wp2_with fail
  go_ret
  exact ⟨rfl, rfl⟩
set_option maxHeartbeats 2000000 in
theorem refLetter4 (a b c d : UInt8) (w : World) (h1 : 240 ≤ a.toNat) (h2 : a.toNat ≤ 244) (l1 : 128 ≤ b.toNat) (u1 : b.toNat ≤ 191) (l2 : 128 ≤ c.toNat) (u2 : c.toNat ≤ 191) (l3 : 128 ≤ d.toNat) (u3 : d.toNat ≤ 191) :
    Calls Tryd.prog 56 #[.string ⟨#[a, b, c, d]⟩] w fun e w' => e = .returned (.int .i32 (letterR [a, b, c, d])) ∧ w' = w := by
  have e0 : (({ data := #[a, b, c, d] } : ByteArray)[0]'(show 0 < 4 by decide)).toNat = a.toNat := rfl
  have e1 : (({ data := #[a, b, c, d] } : ByteArray)[1]'(show 1 < 4 by decide)).toNat = b.toNat := rfl
  have e2 : (({ data := #[a, b, c, d] } : ByteArray)[2]'(show 2 < 4 by decide)).toNat = c.toNat := rfl
  have e3 : (({ data := #[a, b, c, d] } : ByteArray)[3]'(show 3 < 4 by decide)).toNat = d.toNat := rfl
  go_enter Tryd.func56, Tryd.ntmps56
  go_wp2_with fail
  refine wp_loop_rounds 4 ?_
  rw [rounds_succ]
  go_wp2_with fail
  rw [rounds_succ]
  go_wp2_with fail
  rw [rounds_succ]
  go_wp2_with fail
  rw [rounds_succ]
  go_wp2_with fail
  go_ret
  exact ⟨rfl, rfl⟩
end Go.Proofs.YtknhohbepkapdaaDoor
