/- Texts of the proof, one behind the other: RfI, RfO, PcA. -/
import Derived.Test.YtjlfibhbfdckpaaGreatDoorK07
import Derived.Test.YtjlfibhbfdckpaaGreatDoorK23
import Derived.Test.YtjlfibhbfdckpaaGreatDoorK24
import Derived.Test.YtjlfibhbfdckpaaGreatDoorK29
import Derived.Deep.RegionWith
/- The document's screen: linefeed. -/
namespace Go.Proofs.YtjlfibhbfdckpaaGreatDoor
open Go.RowKit
open Wd (wd)
attribute [local go_sem ↓] Go.wp_at_zero Go.wp_at_succ
theorem refScrollI (bc g cap W H N : Nat) (G : Nat → Nat → Cel) (top bot : Int) (n : Int) (p : Pn) (w : World) (h : Cels w bc g cap W H N G) (t0 : 0 ≤ top) (b0 : 0 ≤ bot) (hb : bot < H) :
    Calls Tryz.prog 89 #[.pointer (some ⟨bc, 0, none⟩), .int .i64 top, .int .i64 bot, .int .i64 n, p.agg] w fun e w' => ∃ g' cap', e = .returned (.tuple #[]) ∧ Cels w' bc g' cap' W H N (scrollG top bot n p G) ∧ Keep (fun i => i = bc) w w' ∧ w.heap.size ≤ g' := by
  obtain ⟨top, rfl⟩ := Int.eq_ofNat_of_zero_le t0
  obtain ⟨bot, rfl⟩ := Int.eq_ofNat_of_zero_le b0
  exact refScroll bc g cap W H N G top bot n p w h (by omega)
theorem refEraseI (bc g cap W H N : Nat) (G : Nat → Nat → Cel) (f t : Int) (y : Int) (n : Pn) (w : World) (h : Cels w bc g cap W H N G) (hwf : Wf W H G) (y0 : 0 ≤ y) (hy : y < H) :
    Calls Tryz.prog 87 #[.pointer (some ⟨bc, 0, none⟩), .int .i64 f, .int .i64 t, .int .i64 y, n.agg] w fun e w' => e = .returned (.tuple #[]) ∧ Cels w' bc g cap W H N (wrt G (rg f t y.toNat) (fun _ _ => blk n)) ∧ Keep (fun i => i = g) w w' := by
  obtain ⟨y, rfl⟩ := Int.eq_ofNat_of_zero_le y0
  exact refErase bc g cap W H N G f t y n w h hwf (by omega)
theorem keep_cells {F : Nat → Prop} {w w' : World} (h : Keep F w w') {b : Nat} (hb : b < w.heap.size) (hF : ¬ F b) : ∀ o, w'.cell? ⟨b, o, none⟩ = w.cell? ⟨b, o, none⟩ := fun o => cell_same (h.block b hb hF) o
set_option maxHeartbeats 1000000 in
theorem refLinefeed (bs bc g cap N : Nat) (s : Rs) (w : World) (h : RefAt w bs bc g cap N s) (ok : Rs.Ok { s with pend := false }) :
    Calls Tryz.prog 190 #[.pointer (some ⟨bs, 0, none⟩)] w (RPost bs bc g w (linefeedR s) (.tuple #[])) := by
  have f0 := h.f0
  have f3 := h.f3
  have f4 := h.f4
  have f11 := h.f11
  have f12 := h.f12
  have HR : Hid (RefAt w bs bc g cap N s) := h
  have Hok : Hid (0 ≤ s.top ∧ 0 ≤ s.bot ∧ s.bot < s.H) := ⟨ok.t0, Int.le_trans ok.t0 ok.tb, ok.b1⟩
  have y1 : s.y < s.H := ok.y1
  have y0 : 0 ≤ s.y := ok.y0
  have h2 : s.H ≤ 20 := ok.h2
  clear h ok
  by_cases hy : s.y = s.bot
  · have hq : (s.y == s.bot) = true := by simp [hy]
    have HL : Hid (linefeedR s = { s with G := scrollG s.top s.bot 1 (backR s) s.G, pend := false }) := by unfold linefeedR; exact if_pos hy
    clear hy
    go_enter Tryz.func190, Tryz.ntmps190
    go_wp2_with fail
    go_quiet (fail)
    go_wp2_with fail
    go_at_call 192
    refine (refBack bs bc g cap N s _ (HR.out.drewN _)).mono ?_
    rintro e w2 ⟨rfl, hb2⟩
    have B2 : Below w.heap.size w w2 := ⟨hb2.os, hb2.tape, hb2.output, hb2.size, hb2.block⟩
    have HR2 : Hid (RefAt w2 bs bc g cap N s) := HR.out.below B2
    have K2 : Keep (fun i => i = bs ∨ i = bc ∨ i = g) w w2 := Keep.below _ B2
    have sz2 := B2.size
    clear hb2 B2 f0 f3 f4 f11 f12 HR
    have g0 := HR2.out.f0
    have g11 := HR2.out.f11
    have g12 := HR2.out.f12
    have l2 := HR2.out.lt
    go_wp2_with fail
    generalize hW3 : w2.alloc _ = w3
    have B3 : Below w2.heap.size w2 w3 := by rw [← hW3]; exact (Below.refl _ _).alloc (Nat.le_refl _) _
    have P3 : PenAt w3 w2.heap.size 0 (backR s) := by rw [← hW3]; exact pen_new _ _ _
    have HR3 : Hid (RefAt w3 bs bc g cap N s) := HR2.out.below B3
    have K3 : Keep (fun i => i = bs ∨ i = bc ∨ i = g) w w3 := K2.thenBelow B3
    have sz3 := B3.size
    have np : w2.heap.size ≠ bc := by have := HR2.out.cels.lt; omega
    generalize w2.heap.size = Bp at *
    clear hW3 B3 HR2 K2 g0 g11 g12
    have g0 := HR3.out.f0
    have g11 := HR3.out.f11
    have g12 := HR3.out.f12
    have l3 := HR3.out.lt
    have lp := P3.lt
    have nsc := HR3.out.ne1
    obtain ⟨p0, p1, p2, p3, p4⟩ := P3
    go_region_held3 (fun w' => w'.cell? ⟨bs, 0, none⟩ = some (.pointer (some ⟨bc, 0, none⟩)) ∧ w'.cell? ⟨bs, 11, none⟩ = some (.int .i64 s.top) ∧ w'.cell? ⟨bs, 12, none⟩ = some (.int .i64 s.bot) ∧ w'.cell? ⟨Bp, 0, none⟩ = some (.int .i64 (backR s).f) ∧ w'.cell? ⟨Bp, 1, none⟩ = some (.int .i64 (backR s).b) ∧ w'.cell? ⟨Bp, 2, none⟩ = some (.bool (backR s).bo) ∧ w'.cell? ⟨Bp, 3, none⟩ = some (.bool (backR s).un) ∧ w'.cell? ⟨Bp, 4, none⟩ = some (.bool (backR s).re)) (simp [*]) (first | (go_at_call 89; refine (refScrollI bc g cap s.W s.H N s.G s.top s.bot 1 (backR s) _ HR3.out.cels.drew Hok.out.1 Hok.out.2.1 Hok.out.2.2).mono ?_; rintro e w4 ⟨g4, cap4, rfl, C4, K4, hg4⟩; have e1 := keep_cells K4 l3 nsc; have e2 := keep_cells K4 lp np))
    have K4 : Keep (fun i => i = bc) w3 w4 := ⟨K4.os, K4.tape, K4.output, K4.size, K4.block⟩
    have R4 : RefAt w4 bs bc g4 cap4 N { s with G := scrollG s.top s.bot 1 (backR s) s.G } := HR3.out.cells { s with G := scrollG s.top s.bot 1 (backR s) s.G } (K4.block _ l3 nsc) C4 rfl (by have : w3.heap.size ≤ g4 := hg4; omega)
    have K5 : Keep (fun i => i = bs ∨ i = bc ∨ i = g) w w4 := K3.trans K4 (fun i _ hi => .inr (.inl hi))
    have hg5 : w.heap.size ≤ g4 := by have : w3.heap.size ≤ g4 := hg4; omega
    have HR4 : Hid (RefAt w4 bs bc g4 cap4 N { s with G := scrollG s.top s.bot 1 (backR s) s.G }) := R4
    have q5 := R4.f5
    have fr := R4.free
    rename_i hS
    clear hS e1 e2 C4 K4 R4 g0 g11 g12 p0 p1 p2 p3 p4
    go_wp2_with fail
    have R9 : RefAt (w4.setCell ⟨bs, 5, none⟩ (.bool false)) bs bc g4 cap4 N (linefeedR s) := by rw [HL.out]; exact HR4.out.setPend false
    exact bodyPost_ret (v := .tuple #[]) (by simp [results, Tryz.results190, go_sem]) rfl (rpost R9 (K5.setCell ⟨bs, 5, none⟩ _ (fun _ => .inl rfl)) (.inr hg5))
  · have hq : (s.y == s.bot) = false := by simp [hy]
    have HL : Hid (linefeedR s = goesR s s.x (s.y + 1)) := by unfold linefeedR; exact if_neg hy
    clear hy
    go_enter Tryz.func190, Tryz.ntmps190
    go_wp2_with fail
    go_quiet (fail)
    go_wp2_with fail
    have HR2 : Hid (RefAt (w.drewN nq) bs bc g cap N s) := HR.out.drewN nq
    have K2 : Keep (fun i => i = bs ∨ i = bc ∨ i = g) w (w.drewN nq) := (Keep.refl _ _).drewN nq
    generalize w.drewN nq = w2 at *
    clear f3 f4 f0 f11 f12
    have f3 := HR2.out.f3
    have f4 := HR2.out.f4
    have HL2 : Hid (Keep (fun i => i = bs ∨ i = bc ∨ i = g) w w2) := K2
    clear K2 HR
    have hwr : IntKind.i64.wrap (s.y + 1) = s.y + 1 := wrap_id _ (by omega) (by omega)
    go_region_with (first | (go_at_call 91; refine (refGoes bs bc g cap N s s.x (s.y + 1) _ HR2.out.drew).mono ?_; rintro e w5 ⟨rfl, R5, K5⟩))
    all_goals
      have K6 : Keep (fun i => i = bs ∨ i = bc ∨ i = g) w w5 := HL2.out.trans (⟨K5.os, K5.tape, K5.output, K5.size, K5.block⟩ : Keep (fun i => i = bs) w2 w5) (fun i _ hi => .inl hi)
      clear K5
      go_wp2_with fail
      go_end0
      have R9 : RefAt w5 bs bc g cap N (linefeedR s) := by rw [HL.out]; exact R5
      exact rpost R9 K6 (.inl rfl)
end Go.Proofs.YtjlfibhbfdckpaaGreatDoor

/- The document's screen: NewScreen, State, Cell, Resize. -/
namespace Go.Proofs.YtjlfibhbfdckpaaGreatDoor
open Go.RowKit
open Wd (wd)
attribute [local go_sem ↓] Go.wp_at_zero Go.wp_at_succ
set_option maxHeartbeats 1000000 in
theorem refNewNo (x y : Int) (w : World) (hs : sizeB x y = false) :
    Calls Tryz.prog 30 #[.int .i64 x, .int .i64 y] w fun e w' => e = .returned (.pointer none) ∧ w' = w := by
  go_enter Tryz.func30, Tryz.ntmps30
  go_wp2_with (go_at_call 73; refine (refSize _ _ _).mono ?_; rintro e w' ⟨rfl, rfl⟩)
  go_ret
  exact ⟨rfl, rfl⟩
set_option maxHeartbeats 1000000 in
theorem refNewYes (W H : Nat) (w : World) (w1 : 1 ≤ W) (w2 : W ≤ 40) (h1 : 1 ≤ H) (h2 : H ≤ 20) :
    Calls Tryz.prog 30 #[.int .i64 W, .int .i64 H] w fun e w' => ∃ bs bc g cap, e = .returned (.pointer (some ⟨bs, 0, none⟩)) ∧ w.heap.size ≤ bs ∧ w.heap.size ≤ bc ∧ w.heap.size ≤ g ∧ RefAt w' bs bc g cap (H * W) (newR W H) ∧ Below w.heap.size w w' := by
  have hs : sizeB W H = true := sizeB_iff.2 (by omega)
  go_enter Tryz.func30, Tryz.ntmps30
  go_wp2_with fail
  go_at_call 73
  refine (refSize _ _ _).mono ?_
  rintro e w' ⟨rfl, rfl⟩
  go_wp2_with fail
  go_at_call 74
  refine (refMade W H _ w1 w2 h1 h2).mono ?_
  rintro e wm ⟨bc, g, cap, rfl, hbc, hg, C, B⟩
  have HC : Hid (Cels wm bc g cap W H (H * W) (fun _ _ => blk Pn.plain)) := C
  have lb := C.lt
  have lg := C.glt
  clear C
  go_wp2_with fail
  go_ret
  have hb0 : Below wm.heap.size wm (wm.alloc (.cells (scrArr bc (newR W H)) 104)) := (Below.refl _ _).alloc (Nat.le_refl _) _
  refine ⟨wm.heap.size, bc, g, cap, rfl, B.size, hbc, hg, ⟨heap_new _ _, HC.out.below hb0, by omega, by omega⟩, B.trans (hb0.mono B.size)⟩
set_option maxHeartbeats 2000000 in
theorem refState (bs bc g cap N : Nat) (s : Rs) (w : World) (h : RefAt w bs bc g cap N s) :
    Calls Tryz.prog 69 #[.pointer (some ⟨bs, 0, none⟩)] w fun e w' => e = .returned (stAgg s.W s.H s.x s.y s.pend s.pen s.top s.bot (groundB s)) ∧ Below w.heap.size w w' := by
  have f1 := h.f1
  have f2 := h.f2
  have f3 := h.f3
  have f4 := h.f4
  have f5 := h.f5
  have f6 := h.f6
  have f7 := h.f7
  have f8 := h.f8
  have f9 := h.f9
  have f10 := h.f10
  have f11 := h.f11
  have f12 := h.f12
  have f13 := h.f13
  have f14 := h.f14
  have l := h.lt
  clear h
  go_enter Tryz.func69, Tryz.ntmps69
  go_wp2_with fail
  exact bodyPost_ret (v := stAgg s.W s.H s.x s.y s.pend s.pen s.top s.bot (groundB s)) (by simp [results, Tryz.results69, go_sem, groundB]) rfl ⟨rfl, ((Below.refl _ _).alloc (Nat.le_refl _) _).alloc (by simp) _⟩
theorem refStateNil (w : World) :
    Calls Tryz.prog 69 #[.pointer none] w fun e w' => e = .returned (stAgg 0 0 0 0 false Pn.plain 0 0 false) ∧ Below w.heap.size w w' := by
  go_enter Tryz.func69, Tryz.ntmps69
  go_wp2_with fail
  exact bodyPost_ret (v := stAgg 0 0 0 0 false Pn.plain 0 0 false) (by simp [results, Tryz.results69, go_sem, Pn.plain]) rfl ⟨rfl, (Below.refl _ _).alloc (Nat.le_refl _) _⟩
theorem refCellNil (x y : Int) (w : World) :
    Calls Tryz.prog 70 #[.pointer none, .int .i64 x, .int .i64 y] w fun e w' => e = .returned (.tuple #[noCel.agg, .int .i64 1]) ∧ Below w.heap.size w w' := by
  go_enter Tryz.func70, Tryz.ntmps70
  go_wp2_with fail
  exact bodyPost_ret (v := .tuple #[noCel.agg, .int .i64 1]) (by simp [results, Tryz.results70, go_sem, noCel, Pn.plain]) rfl ⟨rfl, (Below.refl _ _).alloc (Nat.le_refl _) _⟩
set_option maxHeartbeats 1000000 in
theorem refCellNo (bs bc g cap N : Nat) (s : Rs) (x y : Int) (w : World) (h : RefAt w bs bc g cap N s) (hin : inG s.W s.H x y = false) :
    Calls Tryz.prog 70 #[.pointer (some ⟨bs, 0, none⟩), .int .i64 x, .int .i64 y] w fun e w' => e = .returned (.tuple #[noCel.agg, .int .i64 4]) ∧ Below w.heap.size w w' := by
  have f0 := h.f0
  have l := h.lt
  have c0 := h.cels.c0
  have c1 := h.cels.c1
  have lc := h.cels.lt
  clear h
  go_enter Tryz.func70, Tryz.ntmps70
  go_wp2_with fail
  go_at_call 92
  refine (refIn bc s.W s.H x y _ ?_ ?_).mono ?_
  · simp [go_sem, c0, lc]
  · simp [go_sem, c1, lc]
  rintro e w' ⟨rfl, rfl⟩
  go_wp2_with fail
  exact bodyPost_ret (v := .tuple #[noCel.agg, .int .i64 4]) (by simp [results, Tryz.results70, go_sem, noCel, Pn.plain]) rfl ⟨rfl, (Below.refl _ _).alloc (Nat.le_refl _) _⟩
set_option maxHeartbeats 1000000 in
theorem refCellYes (bs bc g cap N : Nat) (s : Rs) (x y : Int) (w : World) (h : RefAt w bs bc g cap N s) (hin : inG s.W s.H x y = true) :
    Calls Tryz.prog 70 #[.pointer (some ⟨bs, 0, none⟩), .int .i64 x, .int .i64 y] w fun e w' => e = .returned (.tuple #[(s.G x.toNat y.toNat).agg, .int .i64 0]) ∧ Below w.heap.size w w' := by
  obtain ⟨x0, x1, y0, y1⟩ := inG_iff.1 hin
  have f0 := h.f0
  have l := h.lt
  have c0 := h.cels.c0
  have c1 := h.cels.c1
  have lc := h.cels.lt
  have HC : Hid (Cels w bc g cap s.W s.H N s.G) := h.cels
  clear h
  go_enter Tryz.func70, Tryz.ntmps70
  go_wp2_with fail
  go_at_call 92
  refine (refIn bc s.W s.H x y _ ?_ ?_).mono ?_
  · simp [go_sem, c0, lc]
  · simp [go_sem, c1, lc]
  rintro e w' ⟨rfl, rfl⟩
  go_wp2_with fail
  go_at_call 94
  refine (refAt bc g cap s.W s.H N s.G x y _ (HC.out.below ((Below.refl _ _).alloc (Nat.le_refl _) _)) x0 x1 y0 y1).mono ?_
  rintro e w2 ⟨rfl, hb2⟩
  have hz : w.heap.size < w2.heap.size := by have := hb2.size; simp at this; omega
  have hc := hb2.cells (b := w.heap.size) (by simp)
  have hf := hb2.marks (b := w.heap.size) (by simp)
  have hB : Below w.heap.size w w2 := ((Below.refl _ _).alloc (Nat.le_refl _) _).trans (hb2.mono (by simp))
  clear hb2
  go_wp2_with fail
  exact bodyPost_ret (v := .tuple #[(s.G x.toNat y.toNat).agg, .int .i64 0]) (by simp [results, Tryz.results70, go_sem, hc]) rfl ⟨rfl, ((Keep.below (fun i => i = w.heap.size) hB).put7 w.heap.size 0 (s.G x.toNat y.toNat) (fun _ => rfl)).toBelow (Nat.le_refl _) (fun i hi => by omega)⟩
theorem refResizeNil (x y : Int) (w : World) :
    Calls Tryz.prog 38 #[.pointer none, .int .i64 x, .int .i64 y] w fun e w' => e = .returned (.int .i64 1) ∧ w' = w := by
  go_enter Tryz.func38, Tryz.ntmps38
  go_wp2_with fail
  go_ret
  exact ⟨rfl, rfl⟩
theorem refResizeNo (bs bc g cap N : Nat) (s : Rs) (x y : Int) (w : World) (h : RefAt w bs bc g cap N s) (hs : sizeB x y = false) :
    Calls Tryz.prog 38 #[.pointer (some ⟨bs, 0, none⟩), .int .i64 x, .int .i64 y] w (RPost bs bc g w s (.int .i64 3)) := by
  go_enter Tryz.func38, Tryz.ntmps38
  go_wp2_with (go_at_call 73; refine (refSize _ _ _).mono ?_; rintro e w' ⟨rfl, rfl⟩)
  go_ret
  exact rpost h (Keep.refl _ _) (.inl rfl)
set_option maxHeartbeats 2000000 in
theorem refResizeYes (bs bc g cap N : Nat) (s : Rs) (W H : Nat) (w : World) (h : RefAt w bs bc g cap N s) (ok : s.Ok) (w1 : 1 ≤ W) (w2 : W ≤ 40) (h1 : 1 ≤ H) (h2 : H ≤ 20) :
    Calls Tryz.prog 38 #[.pointer (some ⟨bs, 0, none⟩), .int .i64 W, .int .i64 H] w (RPost bs bc g w (resizeR s W H) (.int .i64 0)) := by
  have hs : sizeB W H = true := sizeB_iff.2 (by omega)
  have f0 := h.f0
  have HR : Hid (RefAt w bs bc g cap N s) := h
  have Hok : Hid s.Ok := ok
  have nsc := h.ne1
  have lbs := h.lt
  clear h ok
  go_enter Tryz.func38, Tryz.ntmps38
  go_wp2_with fail
  go_at_call 73
  refine (refSize _ _ _).mono ?_
  rintro e w' ⟨rfl, hw'⟩
  replace hw' := hw'.symm
  subst hw'
  go_wp2_with fail
  go_at_call 90
  refine (refSized bc g cap s.W s.H N W H s.G _ HR.out.cels Hok.out.wf w1 w2 h1 h2).mono ?_
  rintro e w3 ⟨g3, cap3, rfl, C3, K3, hg3⟩
  have hbs : w3.heap[bs]? = some (.cells (scrArr bc s) 104) := (K3.block _ lbs nsc).trans HR.out.blk
  have K3' : Keep (fun i => i = bs ∨ i = bc ∨ i = g) w w3 := K3.mono (fun i hi => .inr (.inl hi))
  have q1 : w3.cell? ⟨bs, 1, none⟩ = some (.int .i64 s.W) := cell_of_block hbs 1
  have q2 : w3.cell? ⟨bs, 2, none⟩ = some (.int .i64 s.H) := cell_of_block hbs 2
  have q3 : w3.cell? ⟨bs, 3, none⟩ = some (.int .i64 s.x) := cell_of_block hbs 3
  have q4 : w3.cell? ⟨bs, 4, none⟩ = some (.int .i64 s.y) := cell_of_block hbs 4
  have q11 : w3.cell? ⟨bs, 11, none⟩ = some (.int .i64 s.top) := cell_of_block hbs 11
  have q12 : w3.cell? ⟨bs, 12, none⟩ = some (.int .i64 s.bot) := cell_of_block hbs 12
  have fr := frozen_of_block hbs
  have HC : Hid (Cels w3 bc g3 cap3 W H (H * W) (sizedG s.W s.H W s.G)) := C3
  have Hbs : Hid (w3.heap[bs]? = some (.cells (scrArr bc s) 104)) := hbs
  clear C3 hbs K3 HR f0
  go_wp2_with fail
  have R4 : RefAt ((((w3.setCell ⟨bs, 1, none⟩ (.int .i64 W)).setCell ⟨bs, 2, none⟩ (.int .i64 H)).setCell ⟨bs, 11, none⟩ (.int .i64 0)).setCell ⟨bs, 12, none⟩ (.int .i64 ((H : Int) - 1))) bs bc g3 cap3 (H * W) { s with W := W, H := H, top := 0, bot := (H : Int) - 1, G := sizedG s.W s.H W s.G } := by
    have hgne : g3 ≠ bs := by omega
    refine ⟨heap_set_same (heap_set_same (heap_set_same (heap_set_same Hbs.out 1 _) 2 _) 11 _) 12 _, HC.out.same ?_ ?_, nsc, fun e => hgne e.symm⟩
    · rw [Below.heap_setCell _ _ _ _ (fun e => nsc e.symm), Below.heap_setCell _ _ _ _ (fun e => nsc e.symm), Below.heap_setCell _ _ _ _ (fun e => nsc e.symm), Below.heap_setCell _ _ _ _ (fun e => nsc e.symm)]
    · rw [Below.heap_setCell _ _ _ _ hgne, Below.heap_setCell _ _ _ _ hgne, Below.heap_setCell _ _ _ _ hgne, Below.heap_setCell _ _ _ _ hgne]
  have K4 : Keep (fun i => i = bs ∨ i = bc ∨ i = g) w ((((w3.setCell ⟨bs, 1, none⟩ (.int .i64 W)).setCell ⟨bs, 2, none⟩ (.int .i64 H)).setCell ⟨bs, 11, none⟩ (.int .i64 0)).setCell ⟨bs, 12, none⟩ (.int .i64 ((H : Int) - 1))) :=
    (((K3'.setCell ⟨bs, 1, none⟩ _ (fun _ => .inl rfl)).setCell ⟨bs, 2, none⟩ _ (fun _ => .inl rfl)).setCell ⟨bs, 11, none⟩ _ (fun _ => .inl rfl)).setCell ⟨bs, 12, none⟩ _ (fun _ => .inl rfl)
  generalize ((((w3.setCell ⟨bs, 1, none⟩ (.int .i64 W)).setCell ⟨bs, 2, none⟩ (.int .i64 H)).setCell ⟨bs, 11, none⟩ (.int .i64 0)).setCell ⟨bs, 12, none⟩ (.int .i64 ((H : Int) - 1))) = w4 at *
  have f3 : w4.cell? ⟨bs, 3, none⟩ = some (.int .i64 s.x) := R4.f3
  have f4 : w4.cell? ⟨bs, 4, none⟩ = some (.int .i64 s.y) := R4.f4
  have HR4 : Hid (RefAt w4 bs bc g3 cap3 (H * W) { s with W := W, H := H, top := 0, bot := (H : Int) - 1, G := sizedG s.W s.H W s.G }) := R4
  clear R4 K3' q1 q2 q3 q4 q11 q12 fr HC Hbs
  go_region_with (first | (go_at_call 91; refine (refGoes bs bc g3 cap3 (H * W) { s with W := W, H := H, top := 0, bot := (H : Int) - 1, G := sizedG s.W s.H W s.G } s.x s.y _ HR4.out.drew).mono ?_; rintro e w5 ⟨rfl, R5, K5⟩))
  all_goals
    have K6 : Keep (fun i => i = bs ∨ i = bc ∨ i = g) w w5 := K4.trans (⟨K5.os, K5.tape, K5.output, K5.size, K5.block⟩ : Keep (fun i => i = bs) w4 w5) (fun i _ hi => .inl hi)
    clear K5
    go_wp2_with fail
    go_ret
    exact rpost (s := resizeR s W H) R5 K6 (.inr hg3)
end Go.Proofs.YtjlfibhbfdckpaaGreatDoor

/- The statement of pictures: the program's desk and the document's, side by side. -/
namespace Go.Proofs.YtjlfibhbfdckpaaGreatDoor
open Go.RowKit
/-- A desk of the program and one of the document's that hold the same, and the document's screen. -/
structure Dv where
  M : Mm
  N : Nat
  s : Rs
  t : Pt
  R : Rm
  L : List Wn
  last : Int
  bs : Nat
  bc : Nat
  g : Nat
  cap : Nat
  n : Nat
  q : Rs
def Dv.own (D : Dv) (i : Nat) : Prop := D.M.own D.L i ∨ D.R.own D.L i ∨ i = D.bs ∨ i = D.bc ∨ i = D.g
structure DvAt (w : World) (D : Dv) : Prop where
  x : DkAt w D.M D.L D.last D.N D.s D.t
  y : RkAt w D.R D.L D.last
  z : RefAt w D.bs D.bc D.g D.cap D.n D.q
  ok : DOk D.L D.last
  so : D.s.Ok
  qo : D.q.Ok
  l0 : 0 ≤ D.last
  xy : ∀ i, D.M.own D.L i → ¬ D.R.own D.L i
  xz : ∀ i, D.M.own D.L i → ¬ (i = D.bs ∨ i = D.bc ∨ i = D.g)
  yz : ∀ i, D.R.own D.L i → ¬ (i = D.bs ∨ i = D.bc ∨ i = D.g)
theorem DkAt.keep' {F : Nat → Prop} {w w' : World} {M : Mm} {L : List Wn} {last : Int} {N : Nat} {s : Rs} {t : Pt} (h : DkAt w M L last N s t) (k : Keep F w w') (hF : ∀ i, M.own L i → ¬ F i) : DkAt w' M L last N s t := h.same (fun i hi => k.block i (h.lt hi) (hF i hi))
section
variable {w w' : World} {D : Dv}
theorem DvAt.lt (h : DvAt w D) {i : Nat} (hi : D.own i) : i < w.heap.size := by
  rcases hi with hi | hi | rfl | rfl | rfl
  · exact h.x.lt hi
  · exact h.y.lt hi
  · exact h.z.lt
  · exact h.z.cels.lt
  · exact h.z.cels.glt
theorem DvAt.keep {F : Nat → Prop} (h : DvAt w D) (k : Keep F w w') (hF : ∀ i, D.own i → ¬ F i) : DvAt w' D :=
  ⟨h.x.keep' k (fun i hi => hF i (.inl hi)), h.y.keep k (fun i hi => hF i (.inr (.inl hi))), h.z.same (k.block _ h.z.lt (hF _ (.inr (.inr (.inl rfl))))) (k.block _ h.z.cels.lt (hF _ (.inr (.inr (.inr (.inl rfl)))))) (k.block _ h.z.cels.glt (hF _ (.inr (.inr (.inr (.inr rfl)))))), h.ok, h.so, h.qo, h.l0, h.xy, h.xz, h.yz⟩
theorem DvAt.below (h : DvAt w D) (b : Below w.heap.size w w') : DvAt w' D := h.keep (Keep.below (fun _ => False) b) (fun _ _ f => f)
abbrev Dv.xp (D : Dv) : Option Addr := some ⟨D.M.t 0, 0, none⟩
abbrev Dv.yp (D : Dv) : Option Addr := some ⟨D.R.d, 0, none⟩
abbrev Dv.sp (D : Dv) : Option Addr := some ⟨D.bs, 0, none⟩
/-- What a step leaves of a desk of the law. -/
structure DvPost (w : World) (D D' : Dv) (w' : World) : Prop where
  dv : DvAt w' D'
  xp : D'.xp = D.xp
  yp : D'.yp = D.yp
  sp : D'.sp = D.sp
  keep : Keep D.own w w'
  own : ∀ i, D'.own i → D.own i ∨ w.heap.size ≤ i
end
/-- One step that both desks take alike. -/
structure Tot (fx fy : Nat) (a : Option Addr → Array Value) (L : List Wn) (last : Int) (L' : List Wn) (last' : Int) (r : Value) : Prop where
  ok : DOk L' last'
  le : last ≤ last' ∧ last' ≤ last + 1
  x : ∀ (w : World) (M : Mm) (N : Nat) (s : Rs) (t : Pt), s.Ok → DkAt w M L last N s t → Calls Tryz.prog fx (a (some ⟨M.t 0, 0, none⟩)) w fun e w' => ∃ s' t', s'.Ok ∧ DPostG M L L' last' s' t' w r e w'
  y : ∀ (w : World) (R : Rm), RkAt w R L last → Calls Tryz.prog fy (a (some ⟨R.d, 0, none⟩)) w (RkPost R L L' last' w r)
/-- Two calls behind one another that answer alike. -/
def Both (fx fy : Nat) (a : Option Addr → Array Value) (x y : Option Addr) (w : World) (r : Value) (F : Nat → Prop) (Q : World → Prop) : Prop :=
  Calls Tryz.prog fx (a x) w fun e w1 => e = .returned r ∧ Keep F w w1 ∧ Calls Tryz.prog fy (a y) w1 fun e w2 => e = .returned r ∧ Keep F w w2 ∧ Q w2
theorem Tot.pair {fx fy : Nat} {a : Option Addr → Array Value} {L' : List Wn} {last' : Int} {r : Value} {w : World} {D : Dv} (h : DvAt w D) (T : Tot fx fy a D.L D.last L' last' r) :
    Both fx fy a D.xp D.yp w r D.own fun w2 => ∃ D', D'.L = L' ∧ D'.last = last' ∧ DvPost w D D' w2 := by
  refine (T.x w D.M D.N D.s D.t h.so h.x).mono ?_
  rintro e w1 ⟨s', t', so, M', N', rfl, D1, t1, k1, o1⟩
  refine ⟨rfl, k1.mono (fun i hi => .inl hi), ?_⟩
  have y1 : RkAt w1 D.R D.L D.last := h.y.keep k1 (fun i hi hx => h.xy i hx hi)
  refine (T.y w1 D.R y1).mono ?_
  rintro e w2 ⟨R', rfl, D2, d2, k2, o2⟩
  have s1 := k1.size
  have hM : ∀ i, M'.own L' i → i < w1.heap.size := fun i hi => D1.lt hi
  have hR : ∀ i, D.R.own D.L i → i < w.heap.size := fun i hi => h.y.lt hi
  have hz : ∀ i, (i = D.bs ∨ i = D.bc ∨ i = D.g) → i < w.heap.size := fun i hi => h.lt (.inr (.inr hi))
  have xyM : ∀ i, M'.own L' i → ¬ D.R.own D.L i := fun i hi hr => by
    rcases o1 i hi with e | e
    · exact h.xy i e hr
    · have := hR i hr; omega
  have kk : Keep D.own w w2 := (k1.mono (fun i hi => .inl hi)).trans k2 (fun i _ hi => .inr (.inl hi))
  refine ⟨rfl, kk, ⟨M', N', s', t', R', L', last', D.bs, D.bc, D.g, D.cap, D.n, D.q⟩, rfl, rfl, ⟨?_, ?_, ?_, T.ok, so, h.qo, ?_, ?_, ?_, ?_⟩, ?_, ?_, rfl, kk, ?_⟩
  · exact D1.keep' k2 (fun i hi => xyM i hi)
  · exact D2
  · have z1 : RefAt w1 D.bs D.bc D.g D.cap D.n D.q := h.z.same (k1.block _ h.z.lt (fun e => h.xz _ e (.inl rfl))) (k1.block _ h.z.cels.lt (fun e => h.xz _ e (.inr (.inl rfl)))) (k1.block _ h.z.cels.glt (fun e => h.xz _ e (.inr (.inr rfl))))
    exact z1.same (k2.block _ z1.lt (fun e => h.yz _ e (.inl rfl))) (k2.block _ z1.cels.lt (fun e => h.yz _ e (.inr (.inl rfl)))) (k2.block _ z1.cels.glt (fun e => h.yz _ e (.inr (.inr rfl))))
  · have := h.l0; have := T.le.1; show 0 ≤ last'; omega
  · intro i hi hr
    rcases o2 i hr with e | e
    · exact xyM i hi e
    · have := hM i hi; omega
  · intro i hi hs
    rcases o1 i hi with e | e
    · exact h.xz i e hs
    · have := hz i hs; omega
  · intro i hi hs
    rcases o2 i hi with e | e
    · exact h.yz i e hs
    · have := hz i hs; omega
  · show some _ = some _; rw [t1]
  · show some _ = some _; rw [d2]
  · rintro i (hi | hi | hi)
    · rcases o1 i hi with e | e
      · exact .inl (.inl e)
      · exact .inr e
    · rcases o2 i hi with e | e
      · exact .inl (.inr (.inl e))
      · exact .inr (by omega)
    · exact .inl (.inr (.inr hi))
end Go.Proofs.YtjlfibhbfdckpaaGreatDoor
