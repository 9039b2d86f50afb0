/- Texts of the proof, one behind the other: RfAF, RfJ, RfK. -/
import Derived.Test.YtknhohbepkapdaaDoorK05
import Derived.Test.YtknhohbepkapdaaDoorK19
import Derived.Test.YtknhohbepkapdaaDoorK25
import Derived.Test.YtknhohbepkapdaaDoorK26
import Derived.Test.YtknhohbepkapdaaDoorK27
import Derived.Test.YtknhohbepkapdaaDoorK28
/- The document's screen: sequence, all ways. -/
namespace Go.Proofs.YtknhohbepkapdaaDoor
open Go.RowKit
attribute [local go_sem ↓] Go.wp_at_zero Go.wp_at_succ
set_option maxRecDepth 100000 in
set_option maxHeartbeats 1000000 in
theorem seqBad (bs bc g cap N : Nat) (s : Rs) (b : ByteArray) (last : Int) (w : World) (h : RefAt w bs bc g cap N s) (hb : b.size ≤ 100000000000) (hl : nums b = none ∨ ∃ l, nums b = some l ∧ ¬ l.length ≤ 8) :
    Calls Tryd.prog 58 #[.pointer (some ⟨bs, 0, none⟩), .string b, .int .u8 last] w (RPost bs bc g w (oddR s) (.tuple #[])) := by
  have Hl : Hid (nums b = none ∨ ∃ l, nums b = some l ∧ ¬ l.length ≤ 8) := hl
  clear hl
  go_enter Tryd.func58, Tryd.ntmps58
  go_wp2_with fail
  go_at_call 74
  refine (refNumbers b _ hb).mono ?_
  rintro e w1 ⟨B1, hN⟩
  obtain ⟨v, rfl⟩ : ∃ v, e = .returned (.tuple #[v, .bool false]) := by
    rcases Hl.out with h1 | ⟨l, h1, h2⟩
    · rw [h1] at hN; exact ⟨_, hN⟩
    · rw [h1] at hN
      obtain ⟨v, e1, _⟩ := hN
      have h3 : decide (l.length ≤ 8) = false := by simpa using h2
      rw [h3] at e1
      exact ⟨v, e1⟩
  have HR1 : Hid (RefAt w1 bs bc g cap N s) := h.below B1
  have K1 : Keep (fun i => i = bs ∨ i = bc ∨ i = g) w w1 := Keep.below _ B1
  have f15 := HR1.out.f15
  have fr := HR1.out.free
  clear hN B1 h
  go_wp2_with fail
  have R9 : RefAt (w1.setCell ⟨bs, 15, none⟩ (.int .i64 (wrap64 (s.odd + 1)))) bs bc g cap N (oddR s) := HR1.out.setOdd _
  exact bodyPost_ret (v := .tuple #[]) (by simp [results, Tryd.results58, go_sem]) rfl (rpost R9 (K1.setCell ⟨bs, 15, none⟩ _ (fun _ => .inl rfl)) (.inl rfl))
theorem refSeq (bs bc g cap N : Nat) (s : Rs) (b : ByteArray) (last : Int) (w : World) (h : RefAt w bs bc g cap N s) (ok : s.Ok) (hb : b.size ≤ 100000000000) :
    Calls Tryd.prog 58 #[.pointer (some ⟨bs, 0, none⟩), .string b, .int .u8 last] w (RPost bs bc g w (seqR s b last) (.tuple #[])) := by
  cases hn : nums b with
  | none =>
    have e : seqR s b last = oddR s := by unfold seqR; rw [hn]
    rw [e]; exact seqBad bs bc g cap N s b last w h hb (.inl hn)
  | some l =>
    by_cases h8 : l.length ≤ 8
    · have e : seqR s b last = doneR s l last := by unfold seqR; rw [hn]; exact if_pos h8
      rw [e]
      by_cases n65 : last = 65
      · subst n65; exact seqA bs bc g cap N s b l w h ok hb hn h8
      by_cases n66 : last = 66
      · subst n66; exact seqB bs bc g cap N s b l w h ok hb hn h8
      by_cases n67 : last = 67
      · subst n67; exact seqC bs bc g cap N s b l w h ok hb hn h8
      by_cases n68 : last = 68
      · subst n68; exact seqD bs bc g cap N s b l w h ok hb hn h8
      by_cases n72 : last = 72
      · subst n72; exact seqH bs bc g cap N s b l w h ok hb hn h8
      by_cases n75 : last = 75
      · subst n75; exact seqK bs bc g cap N s b l w h ok hb hn h8
      by_cases n74 : last = 74
      · subst n74; exact seqJ bs bc g cap N s b l w h ok hb hn h8
      by_cases n88 : last = 88
      · subst n88; exact seqX bs bc g cap N s b l w h ok hb hn h8
      by_cases n83 : last = 83
      · subst n83; exact seqS bs bc g cap N s b l w h ok hb hn h8
      by_cases n84 : last = 84
      · subst n84; exact seqT bs bc g cap N s b l w h ok hb hn h8
      by_cases n114 : last = 114
      · subst n114
        by_cases q1 : l.getD 1 0 = 0
        · exact seqR1 bs bc g cap N s b l w h ok hb hn h8 q1
        · by_cases q2 : (s.H : Int) < l.getD 1 0
          · exact seqR2 bs bc g cap N s b l w h ok hb hn h8 q1 q2
          · exact seqR3 bs bc g cap N s b l w h ok hb hn h8 q1 (by omega)
      by_cases n109 : last = 109
      · subst n109; exact seqM bs bc g cap N s b l w h ok hb hn h8
      exact seqO bs bc g cap N s b l w h ok hb hn h8 last n65 n66 n67 n68 n72 n75 n74 n88 n83 n84 n114 n109
    · have e : seqR s b last = oddR s := by unfold seqR; rw [hn]; exact if_neg h8
      rw [e]; exact seqBad bs bc g cap N s b last w h hb (.inr ⟨l, hn, h8⟩)
end Go.Proofs.YtknhohbepkapdaaDoor

/- The document's screen: put. -/
namespace Go.Proofs.YtknhohbepkapdaaDoor
open Go.RowKit
open Wd (wd)
attribute [local go_sem ↓] Go.wp_at_zero Go.wp_at_succ
set_option maxHeartbeats 2000000 in
theorem refPutA1 (bs bc g cap N : Nat) (s : Rs) (r : Int) (w : World) (h : RefAt w bs bc g cap N s) (ok : s.Ok) (r0 : -2147483648 ≤ r) (r1 : r ≤ 2147483647) (hw : wd r = 1) (hp : s.pend = true) :
    Calls Tryd.prog 57 #[.pointer (some ⟨bs, 0, none⟩), .int .i32 r] w (RPost bs bc g w (putR s r) (.tuple #[])) := by
  have hq : (wd r == 0) = false := by simp [hw]
  have HP : Hid (putR s r = stepR (writeR (brokenR s 1) r) 1) := by
    show putR s r = _
    unfold putR effW effR; rw [if_neg (by omega), if_neg (by omega), if_neg (by omega), hw]
  have hwraps : Hid (wraps s 1 = true) := by show wraps s 1 = true; simp [wraps, hp]
  have Hok : Hid s.Ok := ok
  have ok0 : Hid (Rs.Ok { ({ s with x := 0 } : Rs) with pend := false }) := ok_x0' ok
  have W1 := ok.w1
  have W2 := ok.w2
  have X0 := ok.x0
  have X1 := ok.x1
  have hv0 : IntKind.i64.wrap ((s.W : Int) - 1) = (s.W : Int) - 1 := wrap_id _ (by omega) (by omega)
  clear ok
  go_enter Tryd.func57, Tryd.ntmps57
  go_wp2_with fail
  go_at_call 72
  refine (Wd.refWidth r _ r0 r1).mono ?_
  rintro e w1 ⟨rfl, hb1⟩
  have HR1 : Hid (RefAt w1 bs bc g cap N s) := h.below hb1
  have K1 : Keep (fun i => i = bs ∨ i = bc ∨ i = g) w w1 := Keep.below _ hb1
  have f1 := HR1.out.f1
  have f3 := HR1.out.f3
  have f5 := HR1.out.f5
  clear h hb1
  go_wp2_with fail
  go_quiet (fail)
  have HR2 : Hid (RefAt (w1.drewN nq) bs bc g cap N s) := HR1.out.drewN nq
  have K2 : Keep (fun i => i = bs ∨ i = bc ∨ i = g) w (w1.drewN nq) := K1.drewN nq
  generalize w1.drewN nq = w2 at *
  clear f1 f3 f5 HR1 K1
  have f3 := HR2.out.f3
  have fr := HR2.out.free
  have l2 := HR2.out.lt
  go_wp2_with fail
  go_at_call 71
  refine (refLinefeed bs bc g cap N { s with x := 0 } _ (HR2.out.setX 0) ok0.out).mono ?_
  rintro e w5 ⟨g5, cap5, N5, rfl, R5, K4, hg5⟩
  have K5 : Keep (fun i => i = bs ∨ i = bc ∨ i = g) w w5 := (K2.setCell ⟨bs, 3, none⟩ _ (fun _ => .inl rfl)).trans K4 (fun _ _ h => h)
  have Hg6 : Hid (g5 = g ∨ w.heap.size ≤ g5) := hg5.imp id (fun q => by rw [set_size] at q; have := K2.size; omega)
  have Hs1 : Hid (brokenR s 1 = linefeedR { s with x := 0 }) := by unfold brokenR; exact if_pos hwraps.out
  clear K4 hg5 K2 HR2 f3 fr
  have ok1 : (linefeedR { s with x := 0 }).Ok := ok_lf Hok.out
  generalize linefeedR { s with x := 0 } = s1 at *
  have HR5 : Hid (RefAt w5 bs bc g5 cap5 N5 s1) := R5
  have x0 := ok1.x0
  have x1 := ok1.x1
  have y0 := ok1.y0
  have w40 := ok1.w2
  have w01 := ok1.w1
  have f0 := R5.f0
  have f3 := R5.f3
  have f4 := R5.f4
  have f6 := R5.f6
  have f7 := R5.f7
  have f8 := R5.f8
  have f9 := R5.f9
  have f10 := R5.f10
  have l5 := R5.lt
  have ne5 := R5.ne2
  have Hok1 : Hid s1.Ok := ok1
  clear R5 ok1
  go_wp2_with fail
  go_region_held3 (fun w' => w'.cell? ⟨bs, 0, none⟩ = some (.pointer (some ⟨bc, 0, none⟩)) ∧ w'.cell? ⟨bs, 3, none⟩ = some (.int .i64 s1.x) ∧ w'.cell? ⟨bs, 4, none⟩ = some (.int .i64 s1.y) ∧ w'.cell? ⟨bs, 6, none⟩ = some (.int .i64 s1.pen.f) ∧ w'.cell? ⟨bs, 7, none⟩ = some (.int .i64 s1.pen.b) ∧ w'.cell? ⟨bs, 8, none⟩ = some (.bool s1.pen.bo) ∧ w'.cell? ⟨bs, 9, none⟩ = some (.bool s1.pen.un) ∧ w'.cell? ⟨bs, 10, none⟩ = some (.bool s1.pen.re)) (simp [*]) (first | (go_at_call 73; refine (refWrite bc g5 cap5 s1.W s1.H N5 s1.G s1.x s1.y r s1.pen _ HR5.out.cels.drew Hok1.out.wf (by omega) (by omega) r0 r1).mono ?_; rintro e w6 ⟨rfl, C6, K6⟩; have e1 := keep_cells K6 l5 ne5))
  have K6 : Keep (fun i => i = g5) w5 w6 := ⟨K6.os, K6.tape, K6.output, K6.size, K6.block⟩
  have R6 : RefAt w6 bs bc g5 cap5 N5 (writeR s1 r) := HR5.out.cells (writeR s1 r) (K6.block _ l5 ne5) C6 rfl HR5.out.ne2
  have K7 : Keep (fun i => i = bs ∨ i = bc ∨ i = g) w w6 := K5.trans K6 (fun i hi e => by
    rcases Hg6.out with q | q
    · exact .inr (.inr (e.trans q))
    · omega)
  have HR6 : Hid (RefAt w6 bs bc g5 cap5 N5 (writeR s1 r)) := R6
  have f1 : w6.cell? ⟨bs, 1, none⟩ = some (.int .i64 s1.W) := R6.f1
  have f3 : w6.cell? ⟨bs, 3, none⟩ = some (.int .i64 s1.x) := R6.f3
  have f5 : w6.cell? ⟨bs, 5, none⟩ = some (.bool s1.pend) := R6.f5
  have fr := R6.free
  have hv : IntKind.i64.wrap (s1.x + 1) = s1.x + 1 := wrap_id _ (by omega) (by omega)
  rename_i hS
  clear hS e1 C6 K6 R6 K5 HR5
  go_wp2_with fail
  go_quiet (fail)
  go_wp2_with fail
  all_goals go_end0
  · have R9 : RefAt (((w6.drewN nq).setCell ⟨bs, 3, none⟩ (.int .i64 ((s1.W : Int) - 1))).setCell ⟨bs, 5, none⟩ (.bool true)) bs bc g5 cap5 N5 (putR s r) := by
      rw [HP.out, Hs1.out]
      unfold stepR
      rw [if_pos (by assumption)]
      exact ((HR6.out.drewN nq).setX ((s1.W : Int) - 1)).setPend true
    exact rpost R9 (((K7.drewN nq).setCell ⟨bs, 3, none⟩ _ (fun _ => .inl rfl)).setCell ⟨bs, 5, none⟩ _ (fun _ => .inl rfl)) Hg6.out
  · have R9 : RefAt ((w6.drewN nq).setCell ⟨bs, 3, none⟩ (.int .i64 (s1.x + 1))) bs bc g5 cap5 N5 (putR s r) := by
      rw [HP.out, Hs1.out]
      unfold stepR
      rw [if_neg (by show ¬ (s1.W : Int) ≤ s1.x + 1; omega)]
      exact (HR6.out.drewN nq).setX (s1.x + 1)
    exact rpost R9 ((K7.drewN nq).setCell ⟨bs, 3, none⟩ _ (fun _ => .inl rfl)) Hg6.out
set_option maxHeartbeats 2000000 in
theorem refPutA2 (bs bc g cap N : Nat) (s : Rs) (r : Int) (w : World) (h : RefAt w bs bc g cap N s) (ok : s.Ok) (r0 : -2147483648 ≤ r) (r1 : r ≤ 2147483647) (hw : wd r = 1) (hp : s.pend = false) :
    Calls Tryd.prog 57 #[.pointer (some ⟨bs, 0, none⟩), .int .i32 r] w (RPost bs bc g w (putR s r) (.tuple #[])) := by
  have hq : (wd r == 0) = false := by simp [hw]
  have HP : Hid (putR s r = stepR (writeR (brokenR s 1) r) 1) := by
    show putR s r = _
    unfold putR effW effR; rw [if_neg (by omega), if_neg (by omega), if_neg (by omega), hw]
  have hwraps : Hid (wraps s 1 = false) := by show wraps s 1 = false; simp [wraps, hp]
  have Hok : Hid s.Ok := ok
  have ok0 : Hid (Rs.Ok { ({ s with x := 0 } : Rs) with pend := false }) := ok_x0' ok
  have W1 := ok.w1
  have W2 := ok.w2
  have X0 := ok.x0
  have X1 := ok.x1
  have hv0 : IntKind.i64.wrap ((s.W : Int) - 1) = (s.W : Int) - 1 := wrap_id _ (by omega) (by omega)
  clear ok
  go_enter Tryd.func57, Tryd.ntmps57
  go_wp2_with fail
  go_at_call 72
  refine (Wd.refWidth r _ r0 r1).mono ?_
  rintro e w1 ⟨rfl, hb1⟩
  have HR1 : Hid (RefAt w1 bs bc g cap N s) := h.below hb1
  have K1 : Keep (fun i => i = bs ∨ i = bc ∨ i = g) w w1 := Keep.below _ hb1
  have f1 := HR1.out.f1
  have f3 := HR1.out.f3
  have f5 := HR1.out.f5
  clear h hb1
  go_wp2_with fail
  go_quiet (fail)
  have HR2 : Hid (RefAt (w1.drewN nq) bs bc g cap N s) := HR1.out.drewN nq
  have K2 : Keep (fun i => i = bs ∨ i = bc ∨ i = g) w (w1.drewN nq) := K1.drewN nq
  generalize w1.drewN nq = w2 at *
  clear f1 f3 f5 HR1 K1
  have R5 := HR2.out
  have K5 := K2
  have Hs1 : Hid (brokenR s 1 = s) := by unfold brokenR; exact if_neg (by rw [hwraps.out]; decide)
  have ok1 := Hok.out
  generalize hge : g = g5 at R5
  generalize hce : cap = cap5 at R5
  generalize hNe : N = N5 at R5
  have Hg6 : Hid (g5 = g ∨ w.heap.size ≤ g5) := .inl hge.symm
  clear hge hce hNe K2 HR2
  generalize w2 = w5 at *
  generalize hse : s = s1 at R5 ok1
  have Hs1 : Hid (brokenR s 1 = s1) := by rw [← hse]; exact Hs1.out
  clear hse
  have HR5 : Hid (RefAt w5 bs bc g5 cap5 N5 s1) := R5
  have x0 := ok1.x0
  have x1 := ok1.x1
  have y0 := ok1.y0
  have w40 := ok1.w2
  have w01 := ok1.w1
  have f0 := R5.f0
  have f3 := R5.f3
  have f4 := R5.f4
  have f6 := R5.f6
  have f7 := R5.f7
  have f8 := R5.f8
  have f9 := R5.f9
  have f10 := R5.f10
  have l5 := R5.lt
  have ne5 := R5.ne2
  have Hok1 : Hid s1.Ok := ok1
  clear R5 ok1
  go_wp2_with fail
  go_region_held3 (fun w' => w'.cell? ⟨bs, 0, none⟩ = some (.pointer (some ⟨bc, 0, none⟩)) ∧ w'.cell? ⟨bs, 3, none⟩ = some (.int .i64 s1.x) ∧ w'.cell? ⟨bs, 4, none⟩ = some (.int .i64 s1.y) ∧ w'.cell? ⟨bs, 6, none⟩ = some (.int .i64 s1.pen.f) ∧ w'.cell? ⟨bs, 7, none⟩ = some (.int .i64 s1.pen.b) ∧ w'.cell? ⟨bs, 8, none⟩ = some (.bool s1.pen.bo) ∧ w'.cell? ⟨bs, 9, none⟩ = some (.bool s1.pen.un) ∧ w'.cell? ⟨bs, 10, none⟩ = some (.bool s1.pen.re)) (simp [*]) (first | (go_at_call 73; refine (refWrite bc g5 cap5 s1.W s1.H N5 s1.G s1.x s1.y r s1.pen _ HR5.out.cels.drew Hok1.out.wf (by omega) (by omega) r0 r1).mono ?_; rintro e w6 ⟨rfl, C6, K6⟩; have e1 := keep_cells K6 l5 ne5))
  have K6 : Keep (fun i => i = g5) w5 w6 := ⟨K6.os, K6.tape, K6.output, K6.size, K6.block⟩
  have R6 : RefAt w6 bs bc g5 cap5 N5 (writeR s1 r) := HR5.out.cells (writeR s1 r) (K6.block _ l5 ne5) C6 rfl HR5.out.ne2
  have K7 : Keep (fun i => i = bs ∨ i = bc ∨ i = g) w w6 := K5.trans K6 (fun i hi e => by
    rcases Hg6.out with q | q
    · exact .inr (.inr (e.trans q))
    · omega)
  have HR6 : Hid (RefAt w6 bs bc g5 cap5 N5 (writeR s1 r)) := R6
  have f1 : w6.cell? ⟨bs, 1, none⟩ = some (.int .i64 s1.W) := R6.f1
  have f3 : w6.cell? ⟨bs, 3, none⟩ = some (.int .i64 s1.x) := R6.f3
  have f5 : w6.cell? ⟨bs, 5, none⟩ = some (.bool s1.pend) := R6.f5
  have fr := R6.free
  have hv : IntKind.i64.wrap (s1.x + 1) = s1.x + 1 := wrap_id _ (by omega) (by omega)
  rename_i hS
  clear hS e1 C6 K6 R6 K5 HR5
  go_wp2_with fail
  go_quiet (fail)
  go_wp2_with fail
  all_goals go_end0
  · have R9 : RefAt (((w6.drewN nq).setCell ⟨bs, 3, none⟩ (.int .i64 ((s1.W : Int) - 1))).setCell ⟨bs, 5, none⟩ (.bool true)) bs bc g5 cap5 N5 (putR s r) := by
      rw [HP.out, Hs1.out]
      unfold stepR
      rw [if_pos (by assumption)]
      exact ((HR6.out.drewN nq).setX ((s1.W : Int) - 1)).setPend true
    exact rpost R9 (((K7.drewN nq).setCell ⟨bs, 3, none⟩ _ (fun _ => .inl rfl)).setCell ⟨bs, 5, none⟩ _ (fun _ => .inl rfl)) Hg6.out
  · have R9 : RefAt ((w6.drewN nq).setCell ⟨bs, 3, none⟩ (.int .i64 (s1.x + 1))) bs bc g5 cap5 N5 (putR s r) := by
      rw [HP.out, Hs1.out]
      unfold stepR
      rw [if_neg (by show ¬ (s1.W : Int) ≤ s1.x + 1; omega)]
      exact (HR6.out.drewN nq).setX (s1.x + 1)
    exact rpost R9 ((K7.drewN nq).setCell ⟨bs, 3, none⟩ _ (fun _ => .inl rfl)) Hg6.out
set_option maxHeartbeats 1000000 in
theorem refPut0 (bs bc g cap N : Nat) (s : Rs) (r : Int) (w : World) (h : RefAt w bs bc g cap N s) (r0 : -2147483648 ≤ r) (r1 : r ≤ 2147483647) (hz : wd r = 0) :
    Calls Tryd.prog 57 #[.pointer (some ⟨bs, 0, none⟩), .int .i32 r] w (RPost bs bc g w (putR s r) (.tuple #[])) := by
  have HP : Hid (putR s r = { s with odd := wrap64 (s.odd + 1) }) := by
    show putR s r = _
    unfold putR; exact if_pos hz
  have hq : (wd r == 0) = true := by simp [hz]
  clear hz
  go_enter Tryd.func57, Tryd.ntmps57
  go_wp2_with fail
  go_at_call 72
  refine (Wd.refWidth r _ r0 r1).mono ?_
  rintro e w1 ⟨rfl, hb1⟩
  have HR1 : Hid (RefAt w1 bs bc g cap N s) := h.below hb1
  have K1 : Keep (fun i => i = bs ∨ i = bc ∨ i = g) w w1 := Keep.below _ hb1
  have f15 := HR1.out.f15
  have fr := HR1.out.free
  clear h hb1
  go_wp2_with fail
  have R9 : RefAt (w1.setCell ⟨bs, 15, none⟩ (.int .i64 (wrap64 (s.odd + 1)))) bs bc g cap N (putR s r) := by
    rw [HP.out]; exact HR1.out.setOdd _
  exact bodyPost_ret (v := .tuple #[]) (by simp [results, Tryd.results57, go_sem]) rfl (rpost R9 (K1.setCell ⟨bs, 15, none⟩ _ (fun _ => .inl rfl)) (.inl rfl))
end Go.Proofs.YtknhohbepkapdaaDoor

/- The document's screen: put. -/
namespace Go.Proofs.YtknhohbepkapdaaDoor
open Go.RowKit
open Wd (wd)
attribute [local go_sem ↓] Go.wp_at_zero Go.wp_at_succ
set_option maxHeartbeats 2000000 in
theorem refPutB1 (bs bc g cap N : Nat) (s : Rs) (r : Int) (w : World) (h : RefAt w bs bc g cap N s) (ok : s.Ok) (r0 : -2147483648 ≤ r) (r1 : r ≤ 2147483647) (hw : wd r = 2) (hW : s.W = 1) (hp : s.pend = true) :
    Calls Tryd.prog 57 #[.pointer (some ⟨bs, 0, none⟩), .int .i32 r] w (RPost bs bc g w (putR s r) (.tuple #[])) := by
  have hq : (wd r == 0) = false := by simp [hw]
  have HP : Hid (putR s r = stepR (writeR (brokenR s 1) 32) 1) := by
    show putR s r = _
    unfold putR effW effR; rw [if_neg (by omega), if_pos ⟨hw, hW⟩, if_pos ⟨hw, hW⟩]
  have hW' : ((s.W : Int) == 1) = true := by simp [hW]
  clear hW
  have hwraps : Hid (wraps s 1 = true) := by show wraps s 1 = true; simp [wraps, hp]
  have Hok : Hid s.Ok := ok
  have ok0 : Hid (Rs.Ok { ({ s with x := 0 } : Rs) with pend := false }) := ok_x0' ok
  have W1 := ok.w1
  have W2 := ok.w2
  have X0 := ok.x0
  have X1 := ok.x1
  have hv0 : IntKind.i64.wrap ((s.W : Int) - 1) = (s.W : Int) - 1 := wrap_id _ (by omega) (by omega)
  clear ok
  go_enter Tryd.func57, Tryd.ntmps57
  go_wp2_with fail
  go_at_call 72
  refine (Wd.refWidth r _ r0 r1).mono ?_
  rintro e w1 ⟨rfl, hb1⟩
  have HR1 : Hid (RefAt w1 bs bc g cap N s) := h.below hb1
  have K1 : Keep (fun i => i = bs ∨ i = bc ∨ i = g) w w1 := Keep.below _ hb1
  have f1 := HR1.out.f1
  have f3 := HR1.out.f3
  have f5 := HR1.out.f5
  clear h hb1
  go_wp2_with fail
  go_quiet (fail)
  have HR2 : Hid (RefAt (w1.drewN nq) bs bc g cap N s) := HR1.out.drewN nq
  have K2 : Keep (fun i => i = bs ∨ i = bc ∨ i = g) w (w1.drewN nq) := K1.drewN nq
  generalize w1.drewN nq = w2 at *
  clear f1 f3 f5 HR1 K1
  have f3 := HR2.out.f3
  have fr := HR2.out.free
  have l2 := HR2.out.lt
  go_wp2_with fail
  go_at_call 71
  refine (refLinefeed bs bc g cap N { s with x := 0 } _ (HR2.out.setX 0) ok0.out).mono ?_
  rintro e w5 ⟨g5, cap5, N5, rfl, R5, K4, hg5⟩
  have K5 : Keep (fun i => i = bs ∨ i = bc ∨ i = g) w w5 := (K2.setCell ⟨bs, 3, none⟩ _ (fun _ => .inl rfl)).trans K4 (fun _ _ h => h)
  have Hg6 : Hid (g5 = g ∨ w.heap.size ≤ g5) := hg5.imp id (fun q => by rw [set_size] at q; have := K2.size; omega)
  have Hs1 : Hid (brokenR s 1 = linefeedR { s with x := 0 }) := by unfold brokenR; exact if_pos hwraps.out
  clear K4 hg5 K2 HR2 f3 fr
  have ok1 : (linefeedR { s with x := 0 }).Ok := ok_lf Hok.out
  generalize linefeedR { s with x := 0 } = s1 at *
  have HR5 : Hid (RefAt w5 bs bc g5 cap5 N5 s1) := R5
  have x0 := ok1.x0
  have x1 := ok1.x1
  have y0 := ok1.y0
  have w40 := ok1.w2
  have w01 := ok1.w1
  have f0 := R5.f0
  have f3 := R5.f3
  have f4 := R5.f4
  have f6 := R5.f6
  have f7 := R5.f7
  have f8 := R5.f8
  have f9 := R5.f9
  have f10 := R5.f10
  have l5 := R5.lt
  have ne5 := R5.ne2
  have Hok1 : Hid s1.Ok := ok1
  clear R5 ok1
  go_wp2_with fail
  go_region_held3 (fun w' => w'.cell? ⟨bs, 0, none⟩ = some (.pointer (some ⟨bc, 0, none⟩)) ∧ w'.cell? ⟨bs, 3, none⟩ = some (.int .i64 s1.x) ∧ w'.cell? ⟨bs, 4, none⟩ = some (.int .i64 s1.y) ∧ w'.cell? ⟨bs, 6, none⟩ = some (.int .i64 s1.pen.f) ∧ w'.cell? ⟨bs, 7, none⟩ = some (.int .i64 s1.pen.b) ∧ w'.cell? ⟨bs, 8, none⟩ = some (.bool s1.pen.bo) ∧ w'.cell? ⟨bs, 9, none⟩ = some (.bool s1.pen.un) ∧ w'.cell? ⟨bs, 10, none⟩ = some (.bool s1.pen.re)) (simp [*]) (first | (go_at_call 73; refine (refWrite bc g5 cap5 s1.W s1.H N5 s1.G s1.x s1.y 32 s1.pen _ HR5.out.cels.drew Hok1.out.wf (by omega) (by omega) (by omega) (by omega)).mono ?_; rintro e w6 ⟨rfl, C6, K6⟩; have e1 := keep_cells K6 l5 ne5))
  have K6 : Keep (fun i => i = g5) w5 w6 := ⟨K6.os, K6.tape, K6.output, K6.size, K6.block⟩
  have R6 : RefAt w6 bs bc g5 cap5 N5 (writeR s1 32) := HR5.out.cells (writeR s1 32) (K6.block _ l5 ne5) C6 rfl HR5.out.ne2
  have K7 : Keep (fun i => i = bs ∨ i = bc ∨ i = g) w w6 := K5.trans K6 (fun i hi e => by
    rcases Hg6.out with q | q
    · exact .inr (.inr (e.trans q))
    · omega)
  have HR6 : Hid (RefAt w6 bs bc g5 cap5 N5 (writeR s1 32)) := R6
  have f1 : w6.cell? ⟨bs, 1, none⟩ = some (.int .i64 s1.W) := R6.f1
  have f3 : w6.cell? ⟨bs, 3, none⟩ = some (.int .i64 s1.x) := R6.f3
  have f5 : w6.cell? ⟨bs, 5, none⟩ = some (.bool s1.pend) := R6.f5
  have fr := R6.free
  have hv : IntKind.i64.wrap (s1.x + 1) = s1.x + 1 := wrap_id _ (by omega) (by omega)
  rename_i hS
  clear hS e1 C6 K6 R6 K5 HR5
  go_wp2_with fail
  go_quiet (fail)
  go_wp2_with fail
  all_goals go_end0
  · have R9 : RefAt (((w6.drewN nq).setCell ⟨bs, 3, none⟩ (.int .i64 ((s1.W : Int) - 1))).setCell ⟨bs, 5, none⟩ (.bool true)) bs bc g5 cap5 N5 (putR s r) := by
      rw [HP.out, Hs1.out]
      unfold stepR
      rw [if_pos (by assumption)]
      exact ((HR6.out.drewN nq).setX ((s1.W : Int) - 1)).setPend true
    exact rpost R9 (((K7.drewN nq).setCell ⟨bs, 3, none⟩ _ (fun _ => .inl rfl)).setCell ⟨bs, 5, none⟩ _ (fun _ => .inl rfl)) Hg6.out
  · have R9 : RefAt ((w6.drewN nq).setCell ⟨bs, 3, none⟩ (.int .i64 (s1.x + 1))) bs bc g5 cap5 N5 (putR s r) := by
      rw [HP.out, Hs1.out]
      unfold stepR
      rw [if_neg (by show ¬ (s1.W : Int) ≤ s1.x + 1; omega)]
      exact (HR6.out.drewN nq).setX (s1.x + 1)
    exact rpost R9 ((K7.drewN nq).setCell ⟨bs, 3, none⟩ _ (fun _ => .inl rfl)) Hg6.out
set_option maxHeartbeats 2000000 in
theorem refPutB2 (bs bc g cap N : Nat) (s : Rs) (r : Int) (w : World) (h : RefAt w bs bc g cap N s) (ok : s.Ok) (r0 : -2147483648 ≤ r) (r1 : r ≤ 2147483647) (hw : wd r = 2) (hW : s.W = 1) (hp : s.pend = false) :
    Calls Tryd.prog 57 #[.pointer (some ⟨bs, 0, none⟩), .int .i32 r] w (RPost bs bc g w (putR s r) (.tuple #[])) := by
  have hq : (wd r == 0) = false := by simp [hw]
  have HP : Hid (putR s r = stepR (writeR (brokenR s 1) 32) 1) := by
    show putR s r = _
    unfold putR effW effR; rw [if_neg (by omega), if_pos ⟨hw, hW⟩, if_pos ⟨hw, hW⟩]
  have hW' : ((s.W : Int) == 1) = true := by simp [hW]
  clear hW
  have hwraps : Hid (wraps s 1 = false) := by show wraps s 1 = false; simp [wraps, hp]
  have Hok : Hid s.Ok := ok
  have ok0 : Hid (Rs.Ok { ({ s with x := 0 } : Rs) with pend := false }) := ok_x0' ok
  have W1 := ok.w1
  have W2 := ok.w2
  have X0 := ok.x0
  have X1 := ok.x1
  have hv0 : IntKind.i64.wrap ((s.W : Int) - 1) = (s.W : Int) - 1 := wrap_id _ (by omega) (by omega)
  clear ok
  go_enter Tryd.func57, Tryd.ntmps57
  go_wp2_with fail
  go_at_call 72
  refine (Wd.refWidth r _ r0 r1).mono ?_
  rintro e w1 ⟨rfl, hb1⟩
  have HR1 : Hid (RefAt w1 bs bc g cap N s) := h.below hb1
  have K1 : Keep (fun i => i = bs ∨ i = bc ∨ i = g) w w1 := Keep.below _ hb1
  have f1 := HR1.out.f1
  have f3 := HR1.out.f3
  have f5 := HR1.out.f5
  clear h hb1
  go_wp2_with fail
  go_quiet (fail)
  have HR2 : Hid (RefAt (w1.drewN nq) bs bc g cap N s) := HR1.out.drewN nq
  have K2 : Keep (fun i => i = bs ∨ i = bc ∨ i = g) w (w1.drewN nq) := K1.drewN nq
  generalize w1.drewN nq = w2 at *
  clear f1 f3 f5 HR1 K1
  have R5 := HR2.out
  have K5 := K2
  have Hs1 : Hid (brokenR s 1 = s) := by unfold brokenR; exact if_neg (by rw [hwraps.out]; decide)
  have ok1 := Hok.out
  generalize hge : g = g5 at R5
  generalize hce : cap = cap5 at R5
  generalize hNe : N = N5 at R5
  have Hg6 : Hid (g5 = g ∨ w.heap.size ≤ g5) := .inl hge.symm
  clear hge hce hNe K2 HR2
  generalize w2 = w5 at *
  generalize hse : s = s1 at R5 ok1
  have Hs1 : Hid (brokenR s 1 = s1) := by rw [← hse]; exact Hs1.out
  clear hse
  have HR5 : Hid (RefAt w5 bs bc g5 cap5 N5 s1) := R5
  have x0 := ok1.x0
  have x1 := ok1.x1
  have y0 := ok1.y0
  have w40 := ok1.w2
  have w01 := ok1.w1
  have f0 := R5.f0
  have f3 := R5.f3
  have f4 := R5.f4
  have f6 := R5.f6
  have f7 := R5.f7
  have f8 := R5.f8
  have f9 := R5.f9
  have f10 := R5.f10
  have l5 := R5.lt
  have ne5 := R5.ne2
  have Hok1 : Hid s1.Ok := ok1
  clear R5 ok1
  go_wp2_with fail
  go_region_held3 (fun w' => w'.cell? ⟨bs, 0, none⟩ = some (.pointer (some ⟨bc, 0, none⟩)) ∧ w'.cell? ⟨bs, 3, none⟩ = some (.int .i64 s1.x) ∧ w'.cell? ⟨bs, 4, none⟩ = some (.int .i64 s1.y) ∧ w'.cell? ⟨bs, 6, none⟩ = some (.int .i64 s1.pen.f) ∧ w'.cell? ⟨bs, 7, none⟩ = some (.int .i64 s1.pen.b) ∧ w'.cell? ⟨bs, 8, none⟩ = some (.bool s1.pen.bo) ∧ w'.cell? ⟨bs, 9, none⟩ = some (.bool s1.pen.un) ∧ w'.cell? ⟨bs, 10, none⟩ = some (.bool s1.pen.re)) (simp [*]) (first | (go_at_call 73; refine (refWrite bc g5 cap5 s1.W s1.H N5 s1.G s1.x s1.y 32 s1.pen _ HR5.out.cels.drew Hok1.out.wf (by omega) (by omega) (by omega) (by omega)).mono ?_; rintro e w6 ⟨rfl, C6, K6⟩; have e1 := keep_cells K6 l5 ne5))
  have K6 : Keep (fun i => i = g5) w5 w6 := ⟨K6.os, K6.tape, K6.output, K6.size, K6.block⟩
  have R6 : RefAt w6 bs bc g5 cap5 N5 (writeR s1 32) := HR5.out.cells (writeR s1 32) (K6.block _ l5 ne5) C6 rfl HR5.out.ne2
  have K7 : Keep (fun i => i = bs ∨ i = bc ∨ i = g) w w6 := K5.trans K6 (fun i hi e => by
    rcases Hg6.out with q | q
    · exact .inr (.inr (e.trans q))
    · omega)
  have HR6 : Hid (RefAt w6 bs bc g5 cap5 N5 (writeR s1 32)) := R6
  have f1 : w6.cell? ⟨bs, 1, none⟩ = some (.int .i64 s1.W) := R6.f1
  have f3 : w6.cell? ⟨bs, 3, none⟩ = some (.int .i64 s1.x) := R6.f3
  have f5 : w6.cell? ⟨bs, 5, none⟩ = some (.bool s1.pend) := R6.f5
  have fr := R6.free
  have hv : IntKind.i64.wrap (s1.x + 1) = s1.x + 1 := wrap_id _ (by omega) (by omega)
  rename_i hS
  clear hS e1 C6 K6 R6 K5 HR5
  go_wp2_with fail
  go_quiet (fail)
  go_wp2_with fail
  all_goals go_end0
  · have R9 : RefAt (((w6.drewN nq).setCell ⟨bs, 3, none⟩ (.int .i64 ((s1.W : Int) - 1))).setCell ⟨bs, 5, none⟩ (.bool true)) bs bc g5 cap5 N5 (putR s r) := by
      rw [HP.out, Hs1.out]
      unfold stepR
      rw [if_pos (by assumption)]
      exact ((HR6.out.drewN nq).setX ((s1.W : Int) - 1)).setPend true
    exact rpost R9 (((K7.drewN nq).setCell ⟨bs, 3, none⟩ _ (fun _ => .inl rfl)).setCell ⟨bs, 5, none⟩ _ (fun _ => .inl rfl)) Hg6.out
  · have R9 : RefAt ((w6.drewN nq).setCell ⟨bs, 3, none⟩ (.int .i64 (s1.x + 1))) bs bc g5 cap5 N5 (putR s r) := by
      rw [HP.out, Hs1.out]
      unfold stepR
      rw [if_neg (by show ¬ (s1.W : Int) ≤ s1.x + 1; omega)]
      exact (HR6.out.drewN nq).setX (s1.x + 1)
    exact rpost R9 ((K7.drewN nq).setCell ⟨bs, 3, none⟩ _ (fun _ => .inl rfl)) Hg6.out
end Go.Proofs.YtknhohbepkapdaaDoor
