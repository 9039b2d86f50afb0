/- Texts of the proof, one behind the other: FwP, FwQ, PuO. -/
import Derived.Test.YtjlfibhbfdckpaaGreatDoorK28
import Derived.Deep.RegionHeldLaw
import Derived.Deep.DeepCutAuto
import Derived.Maps.OwnSet
import Derived.DeepKeys4
/- Flush: steps. -/
namespace Go.Proofs.YtjlfibhbfdckpaaGreatDoor
open Go.RowKit
open Wd (wd)
attribute [local go_sem ↓] Go.wp_at_zero Go.wp_at_succ
abbrev glArr (g : Gl) : Array Value := #[.int .i64 g.x, .int .i64 g.y, .int .i64 g.pen.f, .int .i64 g.pen.b, .bool g.pen.bo, .bool g.pen.un, .bool g.pen.re, .bool g.letter]
abbrev wyArr (v : Wy) : Array Value := #[.string ⟨v.b.toArray⟩, .int .i64 v.k, .int .i64 v.e.x, .int .i64 v.e.y, .bool v.e.pend, .int .i64 v.e.pen.f, .int .i64 v.e.pen.b, .bool v.e.pen.bo, .bool v.e.pen.un, .bool v.e.pen.re]
/-- The ways so far. -/
structure SwAt (wA wc : World) (v : Value) (L : List Wy) : Prop where
  row : wc.ownsRow wA.heap.size 237 10 v L.length (wflat L)
  bel : Below wA.heap.size wA wc
theorem sw_push {wA wc W w7 : World} {v : Value} {L : List Wy} {u : Wy} {g7 cap7 : Nat} (h : SwAt wA wc v L) (hW : Below wc.heap.size wc W) (hg : W.grownBy w7 v.ownBlock) (hr : w7.ownsRow wA.heap.size 237 10 (.slice (some ⟨g7, 0, none⟩) (L.length + 1) cap7) (L.length + 1) (wflat L ++ u.vals)) : SwAt wA w7 (.slice (some ⟨g7, 0, none⟩) (L.length + 1) cap7) (L ++ [u]) := by
  refine ⟨?_, ?_⟩
  · have e : wflat L ++ u.vals = wflat (L ++ [u]) := by rw [wflat_app, wflat_cons]; simp [wflat]
    rw [e] at hr
    rw [List.length_append]; exact hr
  · have hb := h.bel.trans (hW.mono h.bel.size)
    exact hb.grown hg hb.size (fun i hi => (h.row.lt i hi).1)
theorem orow_base {w : World} {B B' : Nat} {e : TypeId} {size : Nat} {v : Value} {n : Nat} {xs : List Value} (h : w.ownsRow B e size v n xs) (hB : B' ≤ B) : w.ownsRow B' e size v n xs := by
  refine ⟨h.1, ?_⟩
  rcases h.2 with h0 | ⟨g, cap, cur, h1, h2, h3⟩
  · exact .inl h0
  · exact .inr ⟨g, cap, cur, h1, Nat.le_trans hB h2, h3⟩
/-- The three steps that always may come. -/
def steps0 (f : Sp) (g : Gl) : List Wy := [⟨[13], 0, f.move 0 f.y⟩, ⟨[8], 0, f.move (great (f.x - 1) 0) f.y⟩, ⟨[], 0, f.ink g.pen⟩]
theorem three_at {wA w : World} (h : Below wA.heap.size wA w) (u v x : Wy) : SwAt wA (w.alloc (.cells #[.string ⟨u.b.toArray⟩, .int .i64 u.k, .int .i64 u.e.x, .int .i64 u.e.y, .bool u.e.pend, .int .i64 u.e.pen.f, .int .i64 u.e.pen.b, .bool u.e.pen.bo, .bool u.e.pen.un, .bool u.e.pen.re, .string ⟨v.b.toArray⟩, .int .i64 v.k, .int .i64 v.e.x, .int .i64 v.e.y, .bool v.e.pend, .int .i64 v.e.pen.f, .int .i64 v.e.pen.b, .bool v.e.pen.bo, .bool v.e.pen.un, .bool v.e.pen.re, .string ⟨x.b.toArray⟩, .int .i64 x.k, .int .i64 x.e.x, .int .i64 x.e.y, .bool x.e.pend, .int .i64 x.e.pen.f, .int .i64 x.e.pen.b, .bool x.e.pen.bo, .bool x.e.pen.un, .bool x.e.pen.re] 237)) (.slice (some ⟨w.heap.size, 0, none⟩) 3 3) [u, v, x] :=
  ⟨⟨by rw [wflat_len], .inr ⟨w.heap.size, 3, _, rfl, h.size, heap_new _ _, Nat.le_refl _, by decide, by simp, by simp [wflat]⟩⟩, h.alloc h.size _⟩
set_option maxHeartbeats 4000000 in
set_option maxRecDepth 100000 in
theorem qSteps (bs bg g N : Nat) (s : Rs) (t : Pt) (f : Sp) (gl : Gl) (w : World) (h : PrAt w bs bg g N s t) (ok : s.Ok) (hf : f.In s) (hg : gl.In s) :
    Calls Tryz.prog 225 #[.pointer (some ⟨bs, 0, none⟩), f.agg, gl.agg] w (NewWays w (stepsW s f gl)) := by
  obtain ⟨ti, i1, i2, i3, i4⟩ := info_way
  have x0 := hf.x0
  have y0 := hf.y0
  have x1 : f.x < 40 := by have := hf.x1; have := ok.w2; omega
  have y1 : f.y < 20 := by have := hf.y1; have := ok.h2; omega
  obtain ⟨M, hM⟩ : ∃ M, w.heap.size = M := ⟨_, rfl⟩
  have HM : Hid (w.heap.size = M) := hM
  have HP : Hid (PrAt w bs bg g N s t) := h
  have Hok : Hid (s.Ok ∧ f.In s ∧ gl.In s) := ⟨ok, hf, hg⟩
  have gx0 := hg.x0
  have gx1 : gl.x < 40 := by have := hg.x1; have := ok.w2; omega
  have gy0 := hg.y0
  have gy1 : gl.y < 20 := by have := hg.y1; have := ok.h2; omega
  clear h ok hf hg
  go_enter Tryz.func225, Tryz.ntmps225
  go_wp2_with fail
  have hA : ∃ wA, (w.alloc (.cells (spArr f) 235)).alloc (.cells (glArr gl) 211) = wA ∧ wA.heap.size = M + 2 ∧ wA.heap[M]? = some (.cells (spArr f) 235) ∧ wA.heap[M + 1]? = some (.cells (glArr gl) 211) ∧ Below w.heap.size w wA := by
    subst hM
    refine ⟨_, rfl, by simp, ?_, heap_top _ _ (by simp), ((Below.refl _ _).alloc (Nat.le_refl _) _).alloc (by simp) _⟩
    rw [heap_next _ _ (by simp), heap_top _ _ rfl]
  obtain ⟨wA, hwA, zA, bM, bG, belA⟩ := hA
  rw [hwA]
  have HbA : Hid (Below w.heap.size w wA) := belA
  have HbM : Hid (wA.heap[M]? = some (.cells (spArr f) 235)) := bM
  have HbG : Hid (wA.heap[M + 1]? = some (.cells (glArr gl) 211)) := bG
  have m0 : wA.cell? ⟨M, 0, none⟩ = some (.int .i64 f.x) := cell_of_block bM 0
  have m1 : wA.cell? ⟨M, 1, none⟩ = some (.int .i64 f.y) := cell_of_block bM 1
  have m2 : wA.cell? ⟨M, 2, none⟩ = some (.bool f.pend) := cell_of_block bM 2
  have m3 : wA.cell? ⟨M, 3, none⟩ = some (.int .i64 f.pen.f) := cell_of_block bM 3
  have m4 : wA.cell? ⟨M, 4, none⟩ = some (.int .i64 f.pen.b) := cell_of_block bM 4
  have m5 : wA.cell? ⟨M, 5, none⟩ = some (.bool f.pen.bo) := cell_of_block bM 5
  have m6 : wA.cell? ⟨M, 6, none⟩ = some (.bool f.pen.un) := cell_of_block bM 6
  have m7 : wA.cell? ⟨M, 7, none⟩ = some (.bool f.pen.re) := cell_of_block bM 7
  have g0 : wA.cell? ⟨M + 1, 0, none⟩ = some (.int .i64 gl.x) := cell_of_block bG 0
  have g1 : wA.cell? ⟨M + 1, 1, none⟩ = some (.int .i64 gl.y) := cell_of_block bG 1
  have g2 : wA.cell? ⟨M + 1, 2, none⟩ = some (.int .i64 gl.pen.f) := cell_of_block bG 2
  have g3 : wA.cell? ⟨M + 1, 3, none⟩ = some (.int .i64 gl.pen.b) := cell_of_block bG 3
  have g4 : wA.cell? ⟨M + 1, 4, none⟩ = some (.bool gl.pen.bo) := cell_of_block bG 4
  have g5 : wA.cell? ⟨M + 1, 5, none⟩ = some (.bool gl.pen.un) := cell_of_block bG 5
  have g6 : wA.cell? ⟨M + 1, 6, none⟩ = some (.bool gl.pen.re) := cell_of_block bG 6
  clear bM bG belA hwA
  have hw1 : IntKind.i64.wrap (f.x - 1) = f.x - 1 := wrap_id _ (by omega) (by omega)
  have HB : Hid (Below wA.heap.size wA wA.drew) := (Below.refl _ _).drew
  go_region_held3 (fun w' => w'.cell? ⟨M, 0, none⟩ = some (.int .i64 f.x) ∧ w'.cell? ⟨M, 1, none⟩ = some (.int .i64 f.y) ∧ w'.cell? ⟨M, 2, none⟩ = some (.bool f.pend) ∧ w'.cell? ⟨M, 3, none⟩ = some (.int .i64 f.pen.f) ∧ w'.cell? ⟨M, 4, none⟩ = some (.int .i64 f.pen.b) ∧ w'.cell? ⟨M, 5, none⟩ = some (.bool f.pen.bo) ∧ w'.cell? ⟨M, 6, none⟩ = some (.bool f.pen.un) ∧ w'.cell? ⟨M, 7, none⟩ = some (.bool f.pen.re) ∧ w'.cell? ⟨M + 1, 2, none⟩ = some (.int .i64 gl.pen.f) ∧ w'.cell? ⟨M + 1, 3, none⟩ = some (.int .i64 gl.pen.b) ∧ w'.cell? ⟨M + 1, 4, none⟩ = some (.bool gl.pen.bo) ∧ w'.cell? ⟨M + 1, 5, none⟩ = some (.bool gl.pen.un) ∧ w'.cell? ⟨M + 1, 6, none⟩ = some (.bool gl.pen.re)) (simp [*, cell_old]) (first
    | (go_at_call 239; refine (qMoved f _ _ _).mono ?_; rintro e w5 ⟨rfl, hb5⟩; have hb6 := HB.out.trans (hb5.mono HB.out.size); have e1 := hb6.cells (b := M) (by omega); have e2 := hb6.cells (b := M + 1) (by omega); have z5 : M + 1 < w5.heap.size := (by have := hb6.size; omega); have z6 : M < w5.heap.size := (by omega); clear HB hb5; have HB : Hid _ := hb6; clear hb6)
    | (go_at_call 240; refine (qInked f gl.pen _).mono ?_; rintro e w5 ⟨rfl, hb5⟩; have hb6 := HB.out.trans (hb5.mono HB.out.size); have e1 := hb6.cells (b := M) (by omega); have e2 := hb6.cells (b := M + 1) (by omega); have z5 : M + 1 < w5.heap.size := (by have := hb6.size; omega); have z6 : M < w5.heap.size := (by omega); clear HB hb5; have HB : Hid _ := hb6; clear hb6)
    | (go_at_call 139; refine (pGreatest _ _ _).mono ?_; rintro e w' ⟨rfl, hw'⟩; subst hw'))
  have HS : Hid (SwAt wA (w5.alloc (.cells #[.string ⟨#[13]⟩, .int .i64 0, .int .i64 (f.move 0 f.y).x, .int .i64 (f.move 0 f.y).y, .bool (f.move 0 f.y).pend, .int .i64 (f.move 0 f.y).pen.f, .int .i64 (f.move 0 f.y).pen.b, .bool (f.move 0 f.y).pen.bo, .bool (f.move 0 f.y).pen.un, .bool (f.move 0 f.y).pen.re, .string ⟨#[8]⟩, .int .i64 0, .int .i64 (f.move (greatestI (f.x - 1) 0) f.y).x, .int .i64 (f.move (greatestI (f.x - 1) 0) f.y).y, .bool (f.move (greatestI (f.x - 1) 0) f.y).pend, .int .i64 (f.move (greatestI (f.x - 1) 0) f.y).pen.f, .int .i64 (f.move (greatestI (f.x - 1) 0) f.y).pen.b, .bool (f.move (greatestI (f.x - 1) 0) f.y).pen.bo, .bool (f.move (greatestI (f.x - 1) 0) f.y).pen.un, .bool (f.move (greatestI (f.x - 1) 0) f.y).pen.re, .string ⟨#[]⟩, .int .i64 0, .int .i64 (f.ink gl.pen).x, .int .i64 (f.ink gl.pen).y, .bool (f.ink gl.pen).pend, .int .i64 (f.ink gl.pen).pen.f, .int .i64 (f.ink gl.pen).pen.b, .bool (f.ink gl.pen).pen.bo, .bool (f.ink gl.pen).pen.un, .bool (f.ink gl.pen).pen.re] 237)) (.slice (some ⟨w5.heap.size, 0, none⟩) 3 3) (steps0 f gl)) := three_at HB.out ⟨[13], 0, f.move 0 f.y⟩ ⟨[8], 0, f.move (greatestI (f.x - 1) 0) f.y⟩ ⟨[], 0, f.ink gl.pen⟩
  clear hw1 e1 e2 z5 z6 HB
  generalize w5.alloc _ = wB at HS ⊢
  generalize Value.slice (some ⟨w5.heap.size, 0, none⟩) 3 3 = v0 at HS ⊢
  have HP1 : Hid (PrAt wB bs bg g N s t) := (HP.out.below HbA.out).below HS.out.bel
  have c1 := HS.out.bel.cells (b := M) (by omega)
  have c2 := HS.out.bel.cells (b := M + 1) (by omega)
  go_upto_if 34 with (go_at_call 121; refine (sHas bs bg g N s t _ _ _ HP1.out).mono ?_; rintro e w' ⟨rfl, hw'⟩; replace hw' := hw'.symm; subst hw')
  go_cut [7] (fun v wc => SwAt wA wc v (steps0 f gl ++ (if inG s.W s.H f.x (f.y + 1) = true then [(⟨[10], 0, f.move f.x (f.y + 1)⟩ : Wy)] else [])))
  case first =>
    have hlen : (steps0 f gl).length ≤ 10 := by show 3 ≤ 10; omega
    have hzB : wA.heap.size ≤ wB.heap.size := HS.out.bel.size
    cases hin : inG s.W s.H f.x (f.y + 1) with
    | true =>
      have HR : Hid ((if inG s.W s.H f.x (f.y + 1) = true then [(⟨[10], 0, f.move f.x (f.y + 1)⟩ : Wy)] else []) = [(⟨[10], 0, f.move f.x (f.y + 1)⟩ : Wy)]) := by show _ = _; rw [if_pos hin]
      go_wp2_with fail
      go_at_call 239
      refine (qMoved f _ _ _).mono ?_
      rintro e w6 ⟨rfl, hb6⟩
      have HBc : Hid (Below wB.heap.size wB w6) := hb6
      have hz6 := hb6.size
      clear hb6
      go_wp2_with (at_builtin; refine wpList_append_lies _ (by rfl) (.tmp 35) (.tmp 44) 239 (by rfl) wA.heap.size 237 ti _ 10 72 Tryz.underlying239 i1 i2 i3 i4 rfl (by decide) v0 (steps0 f gl).length (wflat (steps0 f gl)) (by rfl) (orow_same HS.out.row (fun i hi => (heap_next _ _ (Nat.lt_of_lt_of_le (HS.out.row.lt i hi).2 HBc.out.size)).trans (HBc.out.block i (HS.out.row.lt i hi).2))) ⟨w6.heap.size, 0, none⟩ 1 1 (Wy.vals (⟨[10], 0, f.move f.x (f.y + 1)⟩ : Wy)) (by rfl) rfl (World.news_of_block (heap_new w6 _)) (wvals_one (⟨[10], 0, f.move f.x (f.y + 1)⟩ : Wy)) (by decide) (by unfold maxLen; omega) (by omega) (by simp; omega) _ rfl ?_; intro g7 cap7 w7 hr7 hg7 ho7 hl7)
      have hsw := sw_push HS.out (HBc.out.alloc HBc.out.size _) hg7 hr7
      have HSW : Hid _ := hsw
      clear hsw hg7 hr7
      go_meet
      case rel => rw [HR.out]; exact HSW.out
    | false =>
      have HR : Hid ((if inG s.W s.H f.x (f.y + 1) = true then [(⟨[10], 0, f.move f.x (f.y + 1)⟩ : Wy)] else []) = []) := by show _ = _; rw [if_neg (by rw [hin]; decide)]
      go_wp2_with fail
      go_meet
      case rel => rw [HR.out, List.append_nil]; exact HS.out
  case rest =>
    clear c1 c2
    obtain ⟨L2, hL2⟩ : ∃ L, steps0 f gl ++ (if inG s.W s.H f.x (f.y + 1) = true then [(⟨[10], 0, f.move f.x (f.y + 1)⟩ : Wy)] else []) = L := ⟨_, rfl⟩
    have HL2 : Hid (steps0 f gl ++ (if inG s.W s.H f.x (f.y + 1) = true then [(⟨[10], 0, f.move f.x (f.y + 1)⟩ : Wy)] else []) = L2) := hL2
    rw [hL2] at hcut
    have HS2 : Hid (SwAt wA wc u7 L2) := hcut
    clear hcut hL2
    have hlen : L2.length ≤ 6 := by rw [← HL2.out]; simp only [List.length_append]; have : (steps0 f gl).length = 3 := rfl; split <;> simp <;> omega
    have hzB : wA.heap.size ≤ wc.heap.size := HS2.out.bel.size
    have c1 := HS2.out.bel.cells (b := M) (by omega)
    have c2 := HS2.out.bel.cells (b := M + 1) (by omega)
    go_upto_if 50 with fail
    go_cut [7] (fun v wc => SwAt wA wc v (L2 ++ (if f.y = gl.y then [] else [(⟨alongL (gl.y - f.y) 66 65, 0, f.move f.x gl.y⟩ : Wy)])))
    case first =>
      by_cases hc : f.y = gl.y
      · have HR : Hid ((if f.y = gl.y then [] else [(⟨alongL (gl.y - f.y) 66 65, 0, f.move f.x gl.y⟩ : Wy)]) = []) := by show _ = _; rw [if_pos hc]
        go_wp2_with fail
        go_meet
        case rel => rw [HR.out, List.append_nil]; exact HS2.out
      · have HR : Hid ((if f.y = gl.y then [] else [(⟨alongL (gl.y - f.y) 66 65, 0, f.move f.x gl.y⟩ : Wy)]) = [(⟨alongL (gl.y - f.y) 66 65, 0, f.move f.x gl.y⟩ : Wy)]) := by show _ = _; rw [if_neg hc]
        have HB : Hid (Below wc.heap.size wc wc.drew) := (Below.refl _ _).drew
        have hw2 : IntKind.i64.wrap (gl.y - f.y) = gl.y - f.y := wrap_id _ (by omega) (by omega)
        go_wp2_with fail
        go_region_held_law (fun w' => w'.cell? ⟨M, 0, none⟩ = some (.int .i64 f.x) ∧ w'.cell? ⟨M, 1, none⟩ = some (.int .i64 f.y) ∧ w'.cell? ⟨M, 2, none⟩ = some (.bool f.pend) ∧ w'.cell? ⟨M, 3, none⟩ = some (.int .i64 f.pen.f) ∧ w'.cell? ⟨M, 4, none⟩ = some (.int .i64 f.pen.b) ∧ w'.cell? ⟨M, 5, none⟩ = some (.bool f.pen.bo) ∧ w'.cell? ⟨M, 6, none⟩ = some (.bool f.pen.un) ∧ w'.cell? ⟨M, 7, none⟩ = some (.bool f.pen.re) ∧ w'.cell? ⟨M + 1, 0, none⟩ = some (.int .i64 gl.x) ∧ w'.cell? ⟨M + 1, 1, none⟩ = some (.int .i64 gl.y)) (simp [*, cell_old]) (first
          | (go_simp; go_at_call 201; refine (qAlong _ _ _ _ (by omega) (by omega)).mono ?_; rintro e w5 ⟨rfl, hb5⟩; have hb6 := HB.out.trans (hb5.mono HB.out.size); have e1 := hb6.cells (b := M) (by omega); have e2 := hb6.cells (b := M + 1) (by omega); clear HB hb5; have HB : Hid _ := hb6; clear hb6)
          | (go_simp; go_at_call 239; refine (qMoved f _ _ _).mono ?_; rintro e w6 ⟨rfl, hb5⟩; have hb6 := HB.out.trans (hb5.mono HB.out.size); have e1 := hb6.cells (b := M) (by omega); have e2 := hb6.cells (b := M + 1) (by omega); have hz6 := hb6.size; have z5 : M + 1 < w6.heap.size := (by omega); have z6 : M < w6.heap.size := (by omega); clear HB hb5; have HB : Hid _ := hb6; clear hb6)
          | (refine step_append_lies _ (by rfl) (.tmp 51) (.tmp 65) 239 (by rfl) wA.heap.size 237 ti _ 10 72 Tryz.underlying239 i1 i2 i3 i4 rfl (by decide) u7 L2.length (wflat L2) (by simp [Act.eval]) (orow_same HS2.out.row (fun i hi => (heap_next _ _ (Nat.lt_of_lt_of_le (HS2.out.row.lt i hi).2 HB.out.size)).trans (HB.out.block i (HS2.out.row.lt i hi).2))) ⟨w6.heap.size, 0, none⟩ 1 1 (Wy.vals (⟨alongL (gl.y - f.y) 66 65, 0, f.move f.x gl.y⟩ : Wy)) (by simp [Act.eval]) rfl (World.news_of_block (heap_new w6 _)) (wvals_one (⟨alongL (gl.y - f.y) 66 65, 0, f.move f.x gl.y⟩ : Wy)) (by decide) (by unfold maxLen; omega) (by omega) (by simp; omega) _ rfl ?_; intro g7 cap7 w7 hr7 hg7 ho7 hl7; have hsw := sw_push HS2.out (HB.out.alloc HB.out.size _) hg7 hr7; have e1 := hsw.bel.cells (b := M) (by omega); have e2 := hsw.bel.cells (b := M + 1) (by omega); have HSW : Hid _ := hsw; clear hsw hg7 hr7; (try go_simp)))
        go_wp2_with fail
        go_meet
        case rel => rw [HR.out]; exact HSW.out
    case rest =>
      obtain ⟨L3, hL3⟩ : ∃ L, L2 ++ (if f.y = gl.y then [] else [(⟨alongL (gl.y - f.y) 66 65, 0, f.move f.x gl.y⟩ : Wy)]) = L := ⟨_, rfl⟩
      have HL3 : Hid (L2 ++ (if f.y = gl.y then [] else [(⟨alongL (gl.y - f.y) 66 65, 0, f.move f.x gl.y⟩ : Wy)]) = L3) := hL3
      rw [hL3] at hcut
      have HS3 : Hid (SwAt wA wc u7 L3) := hcut
      clear hcut hL3
      have hlen : L3.length ≤ 10 := by rw [← HL3.out]; simp only [List.length_append]; split <;> simp <;> omega
      have hzB : wA.heap.size ≤ wc.heap.size := HS3.out.bel.size
      have c1 := HS3.out.bel.cells (b := M) (by omega)
      have c2 := HS3.out.bel.cells (b := M + 1) (by omega)
      go_upto_if 71 with fail
      go_cut [7] (fun v wc => SwAt wA wc v (L3 ++ (if f.x = gl.x then [] else [(⟨alongL (gl.x - f.x) 67 68, 0, f.move gl.x f.y⟩ : Wy)])))
      case first =>
        by_cases hc : f.x = gl.x
        · have HR : Hid ((if f.x = gl.x then [] else [(⟨alongL (gl.x - f.x) 67 68, 0, f.move gl.x f.y⟩ : Wy)]) = []) := by show _ = _; rw [if_pos hc]
          go_wp2_with fail
          go_meet
          case rel => rw [HR.out, List.append_nil]; exact HS3.out
        · have HR : Hid ((if f.x = gl.x then [] else [(⟨alongL (gl.x - f.x) 67 68, 0, f.move gl.x f.y⟩ : Wy)]) = [(⟨alongL (gl.x - f.x) 67 68, 0, f.move gl.x f.y⟩ : Wy)]) := by show _ = _; rw [if_neg hc]
          have HB : Hid (Below wc.heap.size wc wc.drew) := (Below.refl _ _).drew
          have hw2 : IntKind.i64.wrap (gl.x - f.x) = gl.x - f.x := wrap_id _ (by omega) (by omega)
          go_wp2_with fail
          go_region_held_law (fun w' => w'.cell? ⟨M, 0, none⟩ = some (.int .i64 f.x) ∧ w'.cell? ⟨M, 1, none⟩ = some (.int .i64 f.y) ∧ w'.cell? ⟨M, 2, none⟩ = some (.bool f.pend) ∧ w'.cell? ⟨M, 3, none⟩ = some (.int .i64 f.pen.f) ∧ w'.cell? ⟨M, 4, none⟩ = some (.int .i64 f.pen.b) ∧ w'.cell? ⟨M, 5, none⟩ = some (.bool f.pen.bo) ∧ w'.cell? ⟨M, 6, none⟩ = some (.bool f.pen.un) ∧ w'.cell? ⟨M, 7, none⟩ = some (.bool f.pen.re) ∧ w'.cell? ⟨M + 1, 0, none⟩ = some (.int .i64 gl.x) ∧ w'.cell? ⟨M + 1, 1, none⟩ = some (.int .i64 gl.y)) (simp [*, cell_old]) (first
            | (go_simp; go_at_call 201; refine (qAlong _ _ _ _ (by omega) (by omega)).mono ?_; rintro e w5 ⟨rfl, hb5⟩; have hb6 := HB.out.trans (hb5.mono HB.out.size); have e1 := hb6.cells (b := M) (by omega); have e2 := hb6.cells (b := M + 1) (by omega); clear HB hb5; have HB : Hid _ := hb6; clear hb6)
            | (go_simp; go_at_call 239; refine (qMoved f _ _ _).mono ?_; rintro e w6 ⟨rfl, hb5⟩; have hb6 := HB.out.trans (hb5.mono HB.out.size); have e1 := hb6.cells (b := M) (by omega); have e2 := hb6.cells (b := M + 1) (by omega); have hz6 := hb6.size; have z5 : M + 1 < w6.heap.size := (by omega); have z6 : M < w6.heap.size := (by omega); clear HB hb5; have HB : Hid _ := hb6; clear hb6)
            | (refine step_append_lies _ (by rfl) (.tmp 72) (.tmp 86) 239 (by rfl) wA.heap.size 237 ti _ 10 72 Tryz.underlying239 i1 i2 i3 i4 rfl (by decide) u7 L3.length (wflat L3) (by simp [Act.eval]) (orow_same HS3.out.row (fun i hi => (heap_next _ _ (Nat.lt_of_lt_of_le (HS3.out.row.lt i hi).2 HB.out.size)).trans (HB.out.block i (HS3.out.row.lt i hi).2))) ⟨w6.heap.size, 0, none⟩ 1 1 (Wy.vals (⟨alongL (gl.x - f.x) 67 68, 0, f.move gl.x f.y⟩ : Wy)) (by simp [Act.eval]) rfl (World.news_of_block (heap_new w6 _)) (wvals_one (⟨alongL (gl.x - f.x) 67 68, 0, f.move gl.x f.y⟩ : Wy)) (by decide) (by unfold maxLen; omega) (by omega) (by simp; omega) _ rfl ?_; intro g7 cap7 w7 hr7 hg7 ho7 hl7; have hsw := sw_push HS3.out (HB.out.alloc HB.out.size _) hg7 hr7; have e1 := hsw.bel.cells (b := M) (by omega); have e2 := hsw.bel.cells (b := M + 1) (by omega); have HSW : Hid _ := hsw; clear hsw hg7 hr7; (try go_simp)))
          go_wp2_with fail
          go_meet
          case rel => rw [HR.out]; exact HSW.out
      case rest =>
        obtain ⟨L4, hL4⟩ : ∃ L, L3 ++ (if f.x = gl.x then [] else [(⟨alongL (gl.x - f.x) 67 68, 0, f.move gl.x f.y⟩ : Wy)]) = L := ⟨_, rfl⟩
        have HL4 : Hid (L3 ++ (if f.x = gl.x then [] else [(⟨alongL (gl.x - f.x) 67 68, 0, f.move gl.x f.y⟩ : Wy)]) = L4) := hL4
        rw [hL4] at hcut
        have HS4 : Hid (SwAt wA wc u7 L4) := hcut
        have hlen4 : 1 ≤ L4.length ∧ L4.length ≤ 20 := by
          have l3 : 1 ≤ L3.length := by
            rw [← HL3.out, ← HL2.out]
            simp only [List.length_append]
            have : (steps0 f gl).length = 3 := rfl
            omega
          have la : ((if f.x = gl.x then [] else [(⟨alongL (gl.x - f.x) 67 68, 0, f.move gl.x f.y⟩ : Wy)])).length ≤ 1 := by split <;> simp
          rw [← HL4.out, List.length_append]
          omega
        have hcap4 := hcut.row
        obtain ⟨g8, cap8, hu7⟩ := row_slice hcap4 hlen4.1
        subst hu7
        have hcap5 := orow_cap hcap4
        clear hcut hL4 hcap4
        have hzB : wA.heap.size ≤ wc.heap.size := HS4.out.bel.size
        have c1 := HS4.out.bel.cells (b := M) (by omega)
        have HP4 : Hid (PrAt wc bs bg g N s t) := (HP.out.below HbA.out).below HS4.out.bel
        have HEnd : Hid (stepsW s f gl = L4 ++ againW s f) := by
          show stepsW s f gl = _
          rw [← HL4.out, ← HL3.out, ← HL2.out]
          rfl
        go_wp2_with fail
        go_at_call 241
        refine (qAgain bs bg g N s t f wc HP4.out Hok.out.1 Hok.out.2.1).mono ?_
        rintro e w8 ⟨va, rfl, hra, hba⟩
        have Hba : Hid (Below wc.heap.size wc w8) := hba
        have hz8 := hba.size
        have HS8 : Hid (SwAt wA w8 (.slice (some ⟨g8, 0, none⟩) L4.length cap8) L4) := ⟨orow_same HS4.out.row (fun i hi => hba.block i (HS4.out.row.lt i hi).2), HS4.out.bel.trans (hba.mono hzB)⟩
        clear hba
        have ha1 : (againW s f).length = 0 ∨ ∃ u, againW s f = [u] := by
          unfold againW; split
          · split
            · exact .inl rfl
            · exact .inr ⟨_, rfl⟩
          · exact .inl rfl
        rcases ha1 with ha1 | ⟨u, ha1⟩
        · have ha2 := List.eq_nil_of_length_eq_zero ha1
          rw [ha2] at hra
          have HA2 : Hid (againW s f = []) := ha2
          clear ha2 ha1
          have hfin : NewWays w (stepsW s f gl) (.returned (.slice (some ⟨g8, 0, none⟩) L4.length cap8)) w8 := by
            refine ⟨_, rfl, ?_, HbA.out.trans (HS8.out.bel.mono (by have := HM.out; omega))⟩
            rw [HEnd.out, HA2.out, List.append_nil]
            exact orow_base HS8.out.row (by have := HM.out; omega)
          have HF : Hid _ := hfin
          clear hfin
          obtain ⟨_, hv | ⟨ga, ca, cur, hv, _⟩⟩ := hra
          · obtain ⟨rfl, _⟩ := hv
            go_wp2_with fail
            go_ret
            exact HF.out
          · subst hv
            go_wp2_with fail
            go_ret
            exact HF.out
        · rw [ha1] at hra
          have HA2 : Hid (againW s f = [u]) := ha1
          obtain ⟨ga, ca, hva⟩ := row_slice hra (Nat.le_refl _)
          subst hva
          have rgA := wrow_range (L := [u]) (n := 1) hra (k := 0) (by omega)
          have HrA : Hid (w8.rangeAt ga (0 * 10) (Wy.vals u)) := rgA
          clear ha1 hra rgA
          go_wp2_with (at_builtin; refine wpList_append_lies _ (by rfl) (.tmp 88) (.tmp 91) 239 (by rfl) wA.heap.size 237 ti _ 10 72 Tryz.underlying239 i1 i2 i3 i4 rfl (by decide) (.slice (some ⟨g8, 0, none⟩) L4.length cap8) L4.length (wflat L4) (by rfl) HS8.out.row ⟨ga, 0, none⟩ 1 ca (Wy.vals u) (by rfl) rfl (fun j v hv => by have := HrA.out j v hv; rw [Addr.add_mid]; simpa using this) (wvals_one u) (by decide) (by unfold maxLen; omega) (by omega) (by omega) _ rfl ?_; intro g7 cap7 w7 hr7 hg7 ho7 hl7)
          have hsw := sw_push HS8.out (Below.refl _ _) hg7 hr7
          have HSW : Hid (SwAt wA w7 (.slice (some ⟨g7, 0, none⟩) (L4.length + 1) cap7) (L4 ++ [u])) := hsw
          clear hsw hg7 hr7
          go_ret
          refine ⟨_, rfl, ?_, HbA.out.trans (HSW.out.bel.mono (by have := HM.out; omega))⟩
          rw [HEnd.out, HA2.out]
          exact orow_base HSW.out.row (by have := HM.out; omega)
end Go.Proofs.YtjlfibhbfdckpaaGreatDoor

/- Flush: a map whose keys are spots. -/
namespace Go.Proofs.YtjlfibhbfdckpaaGreatDoor
open Go.RowKit Go.Maps
theorem spot_laid : laidOutB Tryz.prog = true := by kernel_rfl
theorem spot_row : (235 : TypeId) < Tryz.prog.types.size := of_decide_eq_true (by kernel_rfl)
theorem spot_wide : (match Tryz.prog.underlying 235 with | some (.array _ _) | some (.struct _) => true | _ => false) = true := by rw [Tryz.underlying235]
theorem spot_kt3 : Tryz.prog.keyTypeAt 3 235 = true := by kernel_rfl
set_option maxRecDepth 100000 in
theorem spot_law : Keyed Tryz.prog 235 := Keyed.of_law (deep_law_laid spot_laid (m := 3) (by omega) spot_row spot_kt3 spot_wide)
def spLits (p : Sp) : List Lit := [.int .i64 p.x, .int .i64 p.y, .bool p.pend, .int .i64 p.pen.f, .int .i64 p.pen.b, .bool p.pen.bo, .bool p.pen.un, .bool p.pen.re]
def spKey (p : Sp) : Lit := .string (keyBytes (spLits p))
structure Sp.Fits (p : Sp) : Prop where
  x : (Lit.int .i64 p.x).wf = true
  y : (Lit.int .i64 p.y).wf = true
  f : (Lit.int .i64 p.pen.f).wf = true
  b : (Lit.int .i64 p.pen.b).wf = true
theorem spot_kt : Tryz.prog.keyType 235 = true := by kernel_rfl
theorem spot_size : Tryz.prog.types.size = 304 := by kernel_rfl
theorem spot_cells : Tryz.prog.cellsOf 235 = 8 := by kernel_rfl
theorem pen_cells : Tryz.prog.cellsOf 33 = 5 := by kernel_rfl
theorem int_cells : Tryz.prog.cellsOf 3 = 1 := by kernel_rfl
theorem bool_cells : Tryz.prog.cellsOf 4 = 1 := by kernel_rfl
theorem lits_int (d : Nat) {n : Int} (h : (Lit.int .i64 n).wf = true) : Tryz.prog.keyLits (d + 1) 3 [.int .i64 n] = some [.int .i64 n] := by
  unfold Program.keyLits
  rw [Tryz.underlying3]
  simp [h]
theorem lits_bool (d : Nat) (b : Bool) : Tryz.prog.keyLits (d + 1) 4 [.bool b] = some [.bool b] := by
  unfold Program.keyLits
  rw [Tryz.underlying4]
theorem lits_pen (d : Nat) {f b : Int} (bo un re : Bool) (hf : (Lit.int .i64 f).wf = true) (hb : (Lit.int .i64 b).wf = true) : Tryz.prog.keyLits (d + 2) 33 [.int .i64 f, .int .i64 b, .bool bo, .bool un, .bool re] = some [.int .i64 f, .int .i64 b, .bool bo, .bool un, .bool re] := by
  unfold Program.keyLits
  rw [Tryz.underlying33]
  simp only [pen_cells]
  rw [if_pos (by simp)]
  simp only [List.mapM_cons, List.mapM_nil, int_cells, bool_cells, List.drop_zero, List.drop_succ_cons, List.take_succ_cons, List.take_zero, lits_int d hf, lits_int d hb, lits_bool]
  rfl
theorem lits_spot (d : Nat) {p : Sp} (h : p.Fits) : Tryz.prog.keyLits (d + 3) 235 [.int .i64 p.x, .int .i64 p.y, .bool p.pend, .int .i64 p.pen.f, .int .i64 p.pen.b, .bool p.pen.bo, .bool p.pen.un, .bool p.pen.re] = some (spLits p) := by
  unfold Program.keyLits
  rw [Tryz.underlying235]
  simp only [spot_cells]
  rw [if_pos (by simp)]
  simp only [List.mapM_cons, List.mapM_nil, int_cells, bool_cells, pen_cells, List.drop_zero, List.drop_succ_cons, List.take_succ_cons, List.take_zero, lits_int (d + 1) h.x, lits_int (d + 1) h.y, lits_bool, lits_pen d _ _ _ h.f h.b]
  rfl
theorem keyOf_spot {p : Sp} (h : p.Fits) : keyOf Tryz.prog 235 p.agg = some (spKey p) := by
  unfold keyOf
  simp only [Tryz.underlying235]
  rw [if_pos (by simp [spot_kt, Value.formed, Tryz.underlying235, spot_cells]), spot_size]
  have hl : Tryz.prog.keyLits (304 + 1) 235 p.agg.cells.toList = some (spLits p) := lits_spot 302 h
  rw [hl]
  rfl
theorem spKey_inj {p q : Sp} (hp : p.Fits) (hq : q.Fits) (e : spKey p = spKey q) : p = q := by
  have h1 := keyOf_spot hq
  rw [← e] at h1
  have h := spot_law.inj (keyOf_spot hp) h1
  obtain ⟨x, y, pd, f, b, bo, un, re⟩ := p
  obtain ⟨x', y', pd', f', b', bo', un', re'⟩ := q
  simp at h
  simp [h]
theorem fits_of {p : Sp} (h1 : -1000000 ≤ p.x ∧ p.x ≤ 1000000) (h2 : -1000000 ≤ p.y ∧ p.y ≤ 1000000) (h3 : -1000000 ≤ p.pen.f ∧ p.pen.f ≤ 1000000) (h4 : -1000000 ≤ p.pen.b ∧ p.pen.b ≤ 1000000) : p.Fits :=
  ⟨WalkArith.wf_i64 (by omega), WalkArith.wf_i64 (by omega), WalkArith.wf_i64 (by omega), WalkArith.wf_i64 (by omega)⟩
theorem sameKey_str {a b : List UInt8} (h : (Lit.string a).sameKey (.string b) = true) : Lit.string a = .string b := by
  simpa [Lit.sameKey] using h
theorem sameKey_refl (a : List UInt8) : (Lit.string a).sameKey (.string a) = true := by
  simp [Lit.sameKey]
/-- The set of spots. -/
def spSet (kn : List Sp) : DataW Unit := setOf (.agg []) (kn.map spKey)
theorem spSet_snoc (kn : List Sp) (p : Sp) : spSet (kn ++ [p]) = (spSet kn).put (spKey p) (.agg []) := by
  unfold spSet; rw [List.map_append]; exact setOf_snoc _ _ _
theorem spSet_has {kn : List Sp} {p : Sp} (hk : ∀ q ∈ kn, q.Fits) (hp : p.Fits) : Maps.has (spSet kn) (spKey p) = knownB kn p := by
  unfold spSet
  rw [has_setOf _ _ _ (fun x hx => by obtain ⟨q, hq, rfl⟩ := List.mem_map.1 hx; trivial)]
  unfold knownB
  rw [List.any_map, Bool.eq_iff_iff, List.any_eq_true, List.any_eq_true]
  constructor
  · rintro ⟨q, hq, e⟩
    refine ⟨q, hq, Sp.eqB_iff.2 (spKey_inj (hk q hq) hp ?_)⟩
    exact sameKey_str e
  · rintro ⟨q, hq, e⟩
    refine ⟨q, hq, ?_⟩
    rw [Sp.eqB_iff.1 e]
    exact sameKey_refl _
end Go.Proofs.YtjlfibhbfdckpaaGreatDoor

/- The program's screen: State. -/
namespace Go.Proofs.YtjlfibhbfdckpaaGreatDoor
open Go.RowKit
attribute [local go_sem ↓] Go.wp_at_zero Go.wp_at_succ
set_option maxHeartbeats 2000000 in
theorem sState (bs bg g N : Nat) (s : Rs) (t : Pt) (w : World) (h : PrAt w bs bg g N s t) :
    Calls Tryz.prog 63 #[.pointer (some ⟨bs, 0, none⟩)] w fun e w' => e = .returned (stAgg s.W s.H s.x s.y s.pend s.pen s.top s.bot (decide (t.mode = 0) && decide (t.bn = 0))) ∧ Below w.heap.size w w' := by
  have HP : Hid (PrAt w bs bg g N s t) := h
  have l := h.lt
  have c0 := h.f0
  have c1 := h.f1
  have c2 := h.f2
  have c3 := h.f3
  have c4 := h.f4
  have c5 := h.f5
  have c6 := h.f6
  have c7 := h.f7
  have c8 := h.f8
  have c9 := h.f9
  have c10 := h.f10
  have c11 := h.f11
  clear h
  have nn := World.new_ne w _ c0
  go_enter Tryz.func63, Tryz.ntmps63
  go_wp2_with fail
  have hbl : Below w.heap.size w (w.alloc (.cells #[.int .i64 0, .int .i64 0, .int .i64 0, .int .i64 0, .bool false, .int .i64 0, .int .i64 0, .bool false, .bool false, .bool false, .int .i64 0, .int .i64 0, .bool false] 59)) := (Below.refl _ _).alloc (Nat.le_refl _) _
  have HD : Hid (PrAt (w.alloc (.cells #[.int .i64 0, .int .i64 0, .int .i64 0, .int .i64 0, .bool false, .int .i64 0, .int .i64 0, .bool false, .bool false, .bool false, .int .i64 0, .int .i64 0, .bool false] 59)).drew bs bg g N s t) := (HP.out.below hbl).drew
  clear hbl
  by_cases hm0 : t.mode = 0
  · rw [hm0] at c11
    go_region_held3 (fun w' => w'.cell? ⟨bs, 0, none⟩ = some (.pointer (some ⟨bg, 0, none⟩)) ∧ w'.cell? ⟨bs, 1, none⟩ = some (.int .i64 s.x) ∧ w'.cell? ⟨bs, 2, none⟩ = some (.int .i64 s.y) ∧ w'.cell? ⟨bs, 3, none⟩ = some (.bool s.pend) ∧ w'.cell? ⟨bs, 4, none⟩ = some (.int .i64 s.pen.f) ∧ w'.cell? ⟨bs, 5, none⟩ = some (.int .i64 s.pen.b) ∧ w'.cell? ⟨bs, 6, none⟩ = some (.bool s.pen.bo) ∧ w'.cell? ⟨bs, 7, none⟩ = some (.bool s.pen.un) ∧ w'.cell? ⟨bs, 8, none⟩ = some (.bool s.pen.re) ∧ w'.cell? ⟨bs, 9, none⟩ = some (.int .i64 s.top) ∧ w'.cell? ⟨bs, 10, none⟩ = some (.int .i64 s.bot) ∧ w'.cell? ⟨bs, 11, none⟩ = some (.int .i64 0)) (go_keep) (first | (go_at_call 126; refine (pWidth bg g s.W s.H N s.G _ HD.out.gr).mono ?_; rintro e w' ⟨rfl, hw'⟩; replace hw' := hw'.symm; subst hw') | (go_at_call 127; refine (pHeight bg g s.W s.H N s.G _ HD.out.gr).mono ?_; rintro e w' ⟨rfl, hw'⟩; replace hw' := hw'.symm; subst hw') | (go_at_call 128; refine (lEmpty bs bg g N s t _ HD.out).mono ?_; rintro e w' ⟨rfl, hw'⟩; replace hw' := hw'.symm; subst hw'))
    go_wp2_with fail
    exact bodyPost_ret (v := stAgg s.W s.H s.x s.y s.pend s.pen s.top s.bot (decide (t.mode = 0) && decide (t.bn = 0))) (by simp [results, Tryz.results63, go_sem, hm0]) rfl ⟨rfl, ((Below.refl _ _).alloc (Nat.le_refl _) _).drew⟩
  · have hm1 : (t.mode == 0) = false := by simp [hm0]
    first | (go_region_held (fun w' => w'.cell? ⟨bs, 0, none⟩ = some (.pointer (some ⟨bg, 0, none⟩)) ∧ w'.cell? ⟨bs, 1, none⟩ = some (.int .i64 s.x) ∧ w'.cell? ⟨bs, 2, none⟩ = some (.int .i64 s.y) ∧ w'.cell? ⟨bs, 3, none⟩ = some (.bool s.pend) ∧ w'.cell? ⟨bs, 4, none⟩ = some (.int .i64 s.pen.f) ∧ w'.cell? ⟨bs, 5, none⟩ = some (.int .i64 s.pen.b) ∧ w'.cell? ⟨bs, 6, none⟩ = some (.bool s.pen.bo) ∧ w'.cell? ⟨bs, 7, none⟩ = some (.bool s.pen.un) ∧ w'.cell? ⟨bs, 8, none⟩ = some (.bool s.pen.re) ∧ w'.cell? ⟨bs, 9, none⟩ = some (.int .i64 s.top) ∧ w'.cell? ⟨bs, 10, none⟩ = some (.int .i64 s.bot) ∧ w'.cell? ⟨bs, 11, none⟩ = some (.int .i64 t.mode)) (go_keep) (first | (go_at_call 126; refine (pWidth bg g s.W s.H N s.G _ HD.out.gr).mono ?_; rintro e w' ⟨rfl, hw'⟩; replace hw' := hw'.symm; subst hw') | (go_at_call 127; refine (pHeight bg g s.W s.H N s.G _ HD.out.gr).mono ?_; rintro e w' ⟨rfl, hw'⟩; replace hw' := hw'.symm; subst hw') | (go_at_call 128; refine (lEmpty bs bg g N s t _ HD.out).mono ?_; rintro e w' ⟨rfl, hw'⟩; replace hw' := hw'.symm; subst hw'))) | fail
    go_wp2_with fail
    exact bodyPost_ret (v := stAgg s.W s.H s.x s.y s.pend s.pen s.top s.bot (decide (t.mode = 0) && decide (t.bn = 0))) (by simp [results, Tryz.results63, go_sem, hm0]) rfl ⟨rfl, ((Below.refl _ _).alloc (Nat.le_refl _) _).drew⟩
end Go.Proofs.YtjlfibhbfdckpaaGreatDoor
