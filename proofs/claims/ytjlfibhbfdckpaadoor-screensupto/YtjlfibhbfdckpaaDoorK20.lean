/- Texts of the proof, one behind the other: RfO, ShA. -/
import Derived.Test.YtjlfibhbfdckpaaDoorK05
import Derived.Test.YtjlfibhbfdckpaaDoorK15
import Derived.Test.YtjlfibhbfdckpaaDoorK19
/- The document's screen: NewScreen, State, Cell, Resize. -/
namespace Go.Proofs.YtjlfibhbfdckpaaDoor
open Go.RowKit
open Wd (wd)
attribute [local go_sem ↓] Go.wp_at_zero Go.wp_at_succ
set_option maxHeartbeats 1000000 in
theorem refNewNo (x y : Int) (w : World) (hs : sizeB x y = false) :
    Calls Tryd.prog 19 #[.int .i64 x, .int .i64 y] w fun e w' => e = .returned (.pointer none) ∧ w' = w := by
  go_enter Tryd.func19, Tryd.ntmps19
  go_wp2_with (go_at_call 32; refine (refSize _ _ _).mono ?_; rintro e w' ⟨rfl, rfl⟩)
  go_ret
  exact ⟨rfl, rfl⟩
set_option maxHeartbeats 1000000 in
theorem refNewYes (W H : Nat) (w : World) (w1 : 1 ≤ W) (w2 : W ≤ 40) (h1 : 1 ≤ H) (h2 : H ≤ 20) :
    Calls Tryd.prog 19 #[.int .i64 W, .int .i64 H] w fun e w' => ∃ bs bc g cap, e = .returned (.pointer (some ⟨bs, 0, none⟩)) ∧ w.heap.size ≤ bs ∧ w.heap.size ≤ bc ∧ w.heap.size ≤ g ∧ RefAt w' bs bc g cap (H * W) (newR W H) ∧ Below w.heap.size w w' := by
  have hs : sizeB W H = true := sizeB_iff.2 (by omega)
  go_enter Tryd.func19, Tryd.ntmps19
  go_wp2_with fail
  go_at_call 32
  refine (refSize _ _ _).mono ?_
  rintro e w' ⟨rfl, rfl⟩
  go_wp2_with fail
  go_at_call 33
  refine (refMade W H _ w1 w2 h1 h2).mono ?_
  rintro e wm ⟨bc, g, cap, rfl, hbc, hg, C, B⟩
  have HC : Hid (Cels wm bc g cap W H (H * W) (fun _ _ => blk Pn.plain)) := C
  have lb := C.lt
  have lg := C.glt
  clear C
  go_wp2_with fail
  go_ret
  have hb0 : Below wm.heap.size wm (wm.alloc (.cells (scrArr bc (newR W H)) 69)) := (Below.refl _ _).alloc (Nat.le_refl _) _
  refine ⟨wm.heap.size, bc, g, cap, rfl, B.size, hbc, hg, ⟨heap_new _ _, HC.out.below hb0, by omega, by omega⟩, B.trans (hb0.mono B.size)⟩
set_option maxHeartbeats 2000000 in
theorem refState (bs bc g cap N : Nat) (s : Rs) (w : World) (h : RefAt w bs bc g cap N s) :
    Calls Tryd.prog 22 #[.pointer (some ⟨bs, 0, none⟩)] w fun e w' => e = .returned (stAgg s.W s.H s.x s.y s.pend s.pen s.top s.bot (groundB s)) ∧ Below w.heap.size w w' := by
  have f1 := h.f1
  have f2 := h.f2
  have f3 := h.f3
  have f4 := h.f4
  have f5 := h.f5
  have f6 := h.f6
  have f7 := h.f7
  have f8 := h.f8
  have f9 := h.f9
  have f10 := h.f10
  have f11 := h.f11
  have f12 := h.f12
  have f13 := h.f13
  have f14 := h.f14
  have l := h.lt
  clear h
  go_enter Tryd.func22, Tryd.ntmps22
  go_wp2_with fail
  exact bodyPost_ret (v := stAgg s.W s.H s.x s.y s.pend s.pen s.top s.bot (groundB s)) (by simp [results, Tryd.results22, go_sem, groundB]) rfl ⟨rfl, ((Below.refl _ _).alloc (Nat.le_refl _) _).alloc (by simp) _⟩
theorem refStateNil (w : World) :
    Calls Tryd.prog 22 #[.pointer none] w fun e w' => e = .returned (stAgg 0 0 0 0 false Pn.plain 0 0 false) ∧ Below w.heap.size w w' := by
  go_enter Tryd.func22, Tryd.ntmps22
  go_wp2_with fail
  exact bodyPost_ret (v := stAgg 0 0 0 0 false Pn.plain 0 0 false) (by simp [results, Tryd.results22, go_sem, Pn.plain]) rfl ⟨rfl, (Below.refl _ _).alloc (Nat.le_refl _) _⟩
theorem refCellNil (x y : Int) (w : World) :
    Calls Tryd.prog 24 #[.pointer none, .int .i64 x, .int .i64 y] w fun e w' => e = .returned (.tuple #[noCel.agg, .int .i64 1]) ∧ Below w.heap.size w w' := by
  go_enter Tryd.func24, Tryd.ntmps24
  go_wp2_with fail
  exact bodyPost_ret (v := .tuple #[noCel.agg, .int .i64 1]) (by simp [results, Tryd.results24, go_sem, noCel, Pn.plain]) rfl ⟨rfl, (Below.refl _ _).alloc (Nat.le_refl _) _⟩
set_option maxHeartbeats 1000000 in
theorem refCellNo (bs bc g cap N : Nat) (s : Rs) (x y : Int) (w : World) (h : RefAt w bs bc g cap N s) (hin : inG s.W s.H x y = false) :
    Calls Tryd.prog 24 #[.pointer (some ⟨bs, 0, none⟩), .int .i64 x, .int .i64 y] w fun e w' => e = .returned (.tuple #[noCel.agg, .int .i64 4]) ∧ Below w.heap.size w w' := by
  have f0 := h.f0
  have l := h.lt
  have c0 := h.cels.c0
  have c1 := h.cels.c1
  have lc := h.cels.lt
  clear h
  go_enter Tryd.func24, Tryd.ntmps24
  go_wp2_with fail
  go_at_call 39
  refine (refIn bc s.W s.H x y _ ?_ ?_).mono ?_
  · simp [go_sem, c0, lc]
  · simp [go_sem, c1, lc]
  rintro e w' ⟨rfl, rfl⟩
  go_wp2_with fail
  exact bodyPost_ret (v := .tuple #[noCel.agg, .int .i64 4]) (by simp [results, Tryd.results24, go_sem, noCel, Pn.plain]) rfl ⟨rfl, (Below.refl _ _).alloc (Nat.le_refl _) _⟩
set_option maxHeartbeats 1000000 in
theorem refCellYes (bs bc g cap N : Nat) (s : Rs) (x y : Int) (w : World) (h : RefAt w bs bc g cap N s) (hin : inG s.W s.H x y = true) :
    Calls Tryd.prog 24 #[.pointer (some ⟨bs, 0, none⟩), .int .i64 x, .int .i64 y] w fun e w' => e = .returned (.tuple #[(s.G x.toNat y.toNat).agg, .int .i64 0]) ∧ Below w.heap.size w w' := by
  obtain ⟨x0, x1, y0, y1⟩ := inG_iff.1 hin
  have f0 := h.f0
  have l := h.lt
  have c0 := h.cels.c0
  have c1 := h.cels.c1
  have lc := h.cels.lt
  have HC : Hid (Cels w bc g cap s.W s.H N s.G) := h.cels
  clear h
  go_enter Tryd.func24, Tryd.ntmps24
  go_wp2_with fail
  go_at_call 39
  refine (refIn bc s.W s.H x y _ ?_ ?_).mono ?_
  · simp [go_sem, c0, lc]
  · simp [go_sem, c1, lc]
  rintro e w' ⟨rfl, rfl⟩
  go_wp2_with fail
  go_at_call 40
  refine (refAt bc g cap s.W s.H N s.G x y _ (HC.out.below ((Below.refl _ _).alloc (Nat.le_refl _) _)) x0 x1 y0 y1).mono ?_
  rintro e w2 ⟨rfl, hb2⟩
  have hz : w.heap.size < w2.heap.size := by have := hb2.size; simp at this; omega
  have hc := hb2.cells (b := w.heap.size) (by simp)
  have hf := hb2.marks (b := w.heap.size) (by simp)
  have hB : Below w.heap.size w w2 := ((Below.refl _ _).alloc (Nat.le_refl _) _).trans (hb2.mono (by simp))
  clear hb2
  go_wp2_with fail
  exact bodyPost_ret (v := .tuple #[(s.G x.toNat y.toNat).agg, .int .i64 0]) (by simp [results, Tryd.results24, go_sem, hc]) rfl ⟨rfl, ((Keep.below (fun i => i = w.heap.size) hB).put7 w.heap.size 0 (s.G x.toNat y.toNat) (fun _ => rfl)).toBelow (Nat.le_refl _) (fun i hi => by omega)⟩
theorem refResizeNil (x y : Int) (w : World) :
    Calls Tryd.prog 20 #[.pointer none, .int .i64 x, .int .i64 y] w fun e w' => e = .returned (.int .i64 1) ∧ w' = w := by
  go_enter Tryd.func20, Tryd.ntmps20
  go_wp2_with fail
  go_ret
  exact ⟨rfl, rfl⟩
theorem refResizeNo (bs bc g cap N : Nat) (s : Rs) (x y : Int) (w : World) (h : RefAt w bs bc g cap N s) (hs : sizeB x y = false) :
    Calls Tryd.prog 20 #[.pointer (some ⟨bs, 0, none⟩), .int .i64 x, .int .i64 y] w (RPost bs bc g w s (.int .i64 3)) := by
  go_enter Tryd.func20, Tryd.ntmps20
  go_wp2_with (go_at_call 32; refine (refSize _ _ _).mono ?_; rintro e w' ⟨rfl, rfl⟩)
  go_ret
  exact rpost h (Keep.refl _ _) (.inl rfl)
set_option maxHeartbeats 2000000 in
theorem refResizeYes (bs bc g cap N : Nat) (s : Rs) (W H : Nat) (w : World) (h : RefAt w bs bc g cap N s) (ok : s.Ok) (w1 : 1 ≤ W) (w2 : W ≤ 40) (h1 : 1 ≤ H) (h2 : H ≤ 20) :
    Calls Tryd.prog 20 #[.pointer (some ⟨bs, 0, none⟩), .int .i64 W, .int .i64 H] w (RPost bs bc g w (resizeR s W H) (.int .i64 0)) := by
  have hs : sizeB W H = true := sizeB_iff.2 (by omega)
  have f0 := h.f0
  have HR : Hid (RefAt w bs bc g cap N s) := h
  have Hok : Hid s.Ok := ok
  have nsc := h.ne1
  have lbs := h.lt
  clear h ok
  go_enter Tryd.func20, Tryd.ntmps20
  go_wp2_with fail
  go_at_call 32
  refine (refSize _ _ _).mono ?_
  rintro e w' ⟨rfl, hw'⟩
  replace hw' := hw'.symm
  subst hw'
  go_wp2_with fail
  go_at_call 34
  refine (refSized bc g cap s.W s.H N W H s.G _ HR.out.cels Hok.out.wf w1 w2 h1 h2).mono ?_
  rintro e w3 ⟨g3, cap3, rfl, C3, K3, hg3⟩
  have hbs : w3.heap[bs]? = some (.cells (scrArr bc s) 69) := (K3.block _ lbs nsc).trans HR.out.blk
  have K3' : Keep (fun i => i = bs ∨ i = bc ∨ i = g) w w3 := K3.mono (fun i hi => .inr (.inl hi))
  have q1 : w3.cell? ⟨bs, 1, none⟩ = some (.int .i64 s.W) := cell_of_block hbs 1
  have q2 : w3.cell? ⟨bs, 2, none⟩ = some (.int .i64 s.H) := cell_of_block hbs 2
  have q3 : w3.cell? ⟨bs, 3, none⟩ = some (.int .i64 s.x) := cell_of_block hbs 3
  have q4 : w3.cell? ⟨bs, 4, none⟩ = some (.int .i64 s.y) := cell_of_block hbs 4
  have q11 : w3.cell? ⟨bs, 11, none⟩ = some (.int .i64 s.top) := cell_of_block hbs 11
  have q12 : w3.cell? ⟨bs, 12, none⟩ = some (.int .i64 s.bot) := cell_of_block hbs 12
  have fr := frozen_of_block hbs
  have HC : Hid (Cels w3 bc g3 cap3 W H (H * W) (sizedG s.W s.H W s.G)) := C3
  have Hbs : Hid (w3.heap[bs]? = some (.cells (scrArr bc s) 69)) := hbs
  clear C3 hbs K3 HR f0
  go_wp2_with fail
  have R4 : RefAt ((((w3.setCell ⟨bs, 1, none⟩ (.int .i64 W)).setCell ⟨bs, 2, none⟩ (.int .i64 H)).setCell ⟨bs, 11, none⟩ (.int .i64 0)).setCell ⟨bs, 12, none⟩ (.int .i64 ((H : Int) - 1))) bs bc g3 cap3 (H * W) { s with W := W, H := H, top := 0, bot := (H : Int) - 1, G := sizedG s.W s.H W s.G } := by
    have hgne : g3 ≠ bs := by omega
    refine ⟨heap_set_same (heap_set_same (heap_set_same (heap_set_same Hbs.out 1 _) 2 _) 11 _) 12 _, HC.out.same ?_ ?_, nsc, fun e => hgne e.symm⟩
    · rw [Below.heap_setCell _ _ _ _ (fun e => nsc e.symm), Below.heap_setCell _ _ _ _ (fun e => nsc e.symm), Below.heap_setCell _ _ _ _ (fun e => nsc e.symm), Below.heap_setCell _ _ _ _ (fun e => nsc e.symm)]
    · rw [Below.heap_setCell _ _ _ _ hgne, Below.heap_setCell _ _ _ _ hgne, Below.heap_setCell _ _ _ _ hgne, Below.heap_setCell _ _ _ _ hgne]
  have K4 : Keep (fun i => i = bs ∨ i = bc ∨ i = g) w ((((w3.setCell ⟨bs, 1, none⟩ (.int .i64 W)).setCell ⟨bs, 2, none⟩ (.int .i64 H)).setCell ⟨bs, 11, none⟩ (.int .i64 0)).setCell ⟨bs, 12, none⟩ (.int .i64 ((H : Int) - 1))) :=
    (((K3'.setCell ⟨bs, 1, none⟩ _ (fun _ => .inl rfl)).setCell ⟨bs, 2, none⟩ _ (fun _ => .inl rfl)).setCell ⟨bs, 11, none⟩ _ (fun _ => .inl rfl)).setCell ⟨bs, 12, none⟩ _ (fun _ => .inl rfl)
  generalize ((((w3.setCell ⟨bs, 1, none⟩ (.int .i64 W)).setCell ⟨bs, 2, none⟩ (.int .i64 H)).setCell ⟨bs, 11, none⟩ (.int .i64 0)).setCell ⟨bs, 12, none⟩ (.int .i64 ((H : Int) - 1))) = w4 at *
  have f3 : w4.cell? ⟨bs, 3, none⟩ = some (.int .i64 s.x) := R4.f3
  have f4 : w4.cell? ⟨bs, 4, none⟩ = some (.int .i64 s.y) := R4.f4
  have HR4 : Hid (RefAt w4 bs bc g3 cap3 (H * W) { s with W := W, H := H, top := 0, bot := (H : Int) - 1, G := sizedG s.W s.H W s.G }) := R4
  clear R4 K3' q1 q2 q3 q4 q11 q12 fr HC Hbs
  go_region_with (first | (go_at_call 35; refine (refGoes bs bc g3 cap3 (H * W) { s with W := W, H := H, top := 0, bot := (H : Int) - 1, G := sizedG s.W s.H W s.G } s.x s.y _ HR4.out.drew).mono ?_; rintro e w5 ⟨rfl, R5, K5⟩))
  all_goals
    have K6 : Keep (fun i => i = bs ∨ i = bc ∨ i = g) w w5 := K4.trans (⟨K5.os, K5.tape, K5.output, K5.size, K5.block⟩ : Keep (fun i => i = bs) w4 w5) (fun i _ hi => .inl hi)
    clear K5
    go_wp2_with fail
    go_ret
    exact rpost (s := resizeR s W H) R5 K6 (.inr hg3)
end Go.Proofs.YtjlfibhbfdckpaaDoor

/- The statement with the document's answer: pairs of screens, both sides alike. -/
namespace Go.Proofs.YtjlfibhbfdckpaaDoor
open Go.RowKit
open Wd (wd)
attribute [local go_sem ↓] Go.wp_at_zero Go.wp_at_succ
/-- The blocks of a pair: the program's screen, the document's. -/
structure Bk where
  pc : Nat
  bs : Nat
  bg : Nat
  g : Nat
  N : Nat
  rs : Nat
  rc : Nat
  rg : Nat
  cap : Nat
  M : Nat
/-- What a nil screen answers. -/
def nilRs : Rs := ⟨0, 0, 0, 0, false, Pn.plain, 0, 0, ⟨#[0]⟩, 0, fun _ _ => noCel⟩
theorem nil_ground : groundB nilRs = false := by unfold groundB; rw [ByteArray.toList_eq]; rfl
theorem nil_in (x y : Int) : inG nilRs.W nilRs.H x y = false := by
  cases h : inG nilRs.W nilRs.H x y with
  | false => rfl
  | true =>
    obtain ⟨a, b, _, _⟩ := inG_iff.1 h
    have : nilRs.W = 0 := rfl
    omega
def rsOf : Option (Bk × Rs) → Rs
  | none => nilRs
  | some q => q.2
def errOf (B : Option (Bk × Rs)) (x y : Int) : Int := match B with
  | none => 1
  | some q => errAt q.2 x y
/-- A pair in memory: two nil pointers, or two screens in one state. -/
def PairIs (w : World) (B : Option (Bk × Rs)) (x y : Option Addr) : Prop := match B with
  | none => x = none ∧ y = none
  | some (k, s) => x = some ⟨k.pc, 0, none⟩ ∧ y = some ⟨k.rs, 0, none⟩ ∧ CsAt w k.pc k.bs k.bg k.g k.N s ∧ RefAt w k.rs k.rc k.rg k.cap k.M s ∧ BOk s.B
theorem PairIs.below {w w' : World} {B : Option (Bk × Rs)} {x y : Option Addr} (h : PairIs w B x y) (b : Below w.heap.size w w') : PairIs w' B x y := by
  cases B with
  | none => exact h
  | some q =>
    obtain ⟨h1, h2, h3, h4, h5⟩ := h
    exact ⟨h1, h2, h3.below b, h4.below b, h5⟩
theorem PairIs.drew {w : World} {B : Option (Bk × Rs)} {x y : Option Addr} (h : PairIs w B x y) : PairIs w.drew B x y := h.below (below_drewN w 1)
theorem refCell (bs bc g cap N : Nat) (s : Rs) (x y : Int) (w : World) (h : RefAt w bs bc g cap N s) :
    Calls Tryd.prog 24 #[.pointer (some ⟨bs, 0, none⟩), .int .i64 x, .int .i64 y] w fun e w' => e = .returned (.tuple #[(cellAt s x y).agg, .int .i64 (errAt s x y)]) ∧ Below w.heap.size w w' := by
  unfold cellAt errAt
  cases hin : inG s.W s.H x y with
  | true => rw [if_pos rfl, if_pos rfl]; exact refCellYes bs bc g cap N s x y w h hin
  | false => rw [if_neg (by decide), if_neg (by decide)]; exact refCellNo bs bc g cap N s x y w h hin
theorem cell_nil (x y : Int) : cellAt nilRs x y = noCel := if_neg (by rw [nil_in]; decide)
section
variable {w : World} {B : Option (Bk × Rs)} {x y : Option Addr}
abbrev stVal (s : Rs) : Value := stAgg s.W s.H s.x s.y s.pend s.pen s.top s.bot (groundB s)
theorem pState (h : PairIs w B x y) : Calls Tryd.prog 16 #[.pointer x] w fun e w' => e = .returned (stVal (rsOf B)) ∧ Below w.heap.size w w' := by
  cases B with
  | none =>
    obtain ⟨rfl, rfl⟩ := h
    have e : stVal (rsOf none) = stAgg 0 0 0 0 false Pn.plain 0 0 false := by show stAgg _ _ _ _ _ _ _ _ (groundB nilRs) = _; rw [nil_ground]; rfl
    rw [e]
    exact cStateNil w
  | some q =>
    obtain ⟨rfl, rfl, C, R, _⟩ := h
    exact cState _ _ _ _ _ _ w C
theorem rState (h : PairIs w B x y) : Calls Tryd.prog 22 #[.pointer y] w fun e w' => e = .returned (stVal (rsOf B)) ∧ Below w.heap.size w w' := by
  cases B with
  | none =>
    obtain ⟨rfl, rfl⟩ := h
    have e : stVal (rsOf none) = stAgg 0 0 0 0 false Pn.plain 0 0 false := by show stAgg _ _ _ _ _ _ _ _ (groundB nilRs) = _; rw [nil_ground]; rfl
    rw [e]
    exact refStateNil w
  | some q =>
    obtain ⟨rfl, rfl, C, R, _⟩ := h
    exact refState _ _ _ _ _ _ w R
theorem pCellP (h : PairIs w B x y) (a b : Int) : Calls Tryd.prog 23 #[.pointer x, .int .i64 a, .int .i64 b] w fun e w' => e = .returned (.tuple #[(cellAt (rsOf B) a b).agg, .int .i64 (errOf B a b)]) ∧ Below w.heap.size w w' := by
  cases B with
  | none =>
    obtain ⟨rfl, rfl⟩ := h
    show Calls _ _ _ _ fun e w' => e = .returned (.tuple #[(cellAt nilRs a b).agg, .int .i64 1]) ∧ _
    rw [cell_nil]
    exact cCellNil a b w
  | some q =>
    obtain ⟨rfl, rfl, C, R, _⟩ := h
    exact cCell _ _ _ _ _ _ a b w C
theorem rCellP (h : PairIs w B x y) (a b : Int) : Calls Tryd.prog 24 #[.pointer y, .int .i64 a, .int .i64 b] w fun e w' => e = .returned (.tuple #[(cellAt (rsOf B) a b).agg, .int .i64 (errOf B a b)]) ∧ Below w.heap.size w w' := by
  cases B with
  | none =>
    obtain ⟨rfl, rfl⟩ := h
    show Calls _ _ _ _ fun e w' => e = .returned (.tuple #[(cellAt nilRs a b).agg, .int .i64 1]) ∧ _
    rw [cell_nil]
    exact refCellNil a b w
  | some q =>
    obtain ⟨rfl, rfl, C, R, _⟩ := h
    exact refCell _ _ _ _ _ _ a b w R
theorem rsOf_small (h : PairIs w B x y) : (rsOf B).W ≤ 40 ∧ (rsOf B).H ≤ 20 := by
  cases B with
  | none => exact ⟨by decide, by decide⟩
  | some q => obtain ⟨_, _, C, _, _⟩ := h; exact ⟨C.ok.w2, C.ok.h2⟩
/-- A pair lies in a block of its own. -/
def PpAt (w : World) (b : Nat) (x y : Option Addr) : Prop := w.heap[b]? = some (.cells #[.pointer x, .pointer y] 26)
theorem PpAt.below {w w' : World} {b : Nat} {x y : Option Addr} (h : PpAt w b x y) (hb : Below w.heap.size w w') : PpAt w' b x y := by
  unfold PpAt at *; rw [hb.block _ (Array.getElem?_eq_some_iff.1 h).1]; exact h
theorem PpAt.lt {w : World} {b : Nat} {x y : Option Addr} (h : PpAt w b x y) : b < w.heap.size := (Array.getElem?_eq_some_iff.1 h).1
theorem PpAt.c0 {w : World} {b : Nat} {x y : Option Addr} (h : PpAt w b x y) : w.cell? ⟨b, 0, none⟩ = some (.pointer x) := cell_of_block h 0
theorem PpAt.c1 {w : World} {b : Nat} {x y : Option Addr} (h : PpAt w b x y) : w.cell? ⟨b, 1, none⟩ = some (.pointer y) := cell_of_block h 1
set_option maxRecDepth 10000 in
set_option maxHeartbeats 4000000 in
theorem lLook (h : PairIs w B x y) : Calls Tryd.prog 9 #[.agg #[.pointer x, .pointer y]] w fun e w' => e = .returned (.bool true) ∧ Below w.heap.size w w' := by
  have HP : Hid (PairIs w B x y) := h
  obtain ⟨W2, H2⟩ := rsOf_small h
  clear h
  go_enter Tryd.func9, Tryd.ntmps9
  go_wp2_with fail
  have hbl : Below w.heap.size w (w.alloc (.cells #[.pointer x, .pointer y] 26)) := (Below.refl _ _).alloc (Nat.le_refl _) _
  have HPp : Hid (PpAt (w.alloc (.cells #[.pointer x, .pointer y] 26)) w.heap.size x y) := heap_new w _
  replace HP : Hid (PairIs (w.alloc (.cells #[.pointer x, .pointer y] 26)) B x y) := HP.out.below hbl
  have HB1 : Hid (Below w.heap.size w (w.alloc (.cells #[.pointer x, .pointer y] 26))) := hbl
  obtain ⟨Bp, hBp⟩ : ∃ Bp, w.heap.size = Bp := ⟨_, rfl⟩
  generalize w.alloc (.cells #[.pointer x, .pointer y] 26) = w0 at *
  rw [hBp] at HPp
  have HBp : Hid (w.heap.size = Bp) := hBp
  simp only [hBp]
  clear hbl hBp
  generalize hss : rsOf B = s at *
  have hS0 := @pState w0 B x y HP.out
  have hR0 : ∀ w', PairIs w' B x y → Calls Tryd.prog 22 #[.pointer y] w' fun e w'' => e = .returned (stVal s) ∧ Below w'.heap.size w' w'' := fun w' q => by have := rState q; rwa [hss] at this
  rw [hss] at hS0
  have HR0 : Hid (∀ w', PairIs w' B x y → Calls Tryd.prog 22 #[.pointer y] w' fun e w'' => e = .returned (stVal s) ∧ Below w'.heap.size w' w'') := hR0
  have HcP : Hid (∀ (a b : Int) w', PairIs w' B x y → Calls Tryd.prog 23 #[.pointer x, .int .i64 a, .int .i64 b] w' fun e w'' => e = .returned (.tuple #[(cellAt s a b).agg, .int .i64 (errOf B a b)]) ∧ Below w'.heap.size w' w'') := fun a b w' q => by have := pCellP q a b; rwa [hss] at this
  have HcR : Hid (∀ (a b : Int) w', PairIs w' B x y → Calls Tryd.prog 24 #[.pointer y, .int .i64 a, .int .i64 b] w' fun e w'' => e = .returned (.tuple #[(cellAt s a b).agg, .int .i64 (errOf B a b)]) ∧ Below w'.heap.size w' w'') := fun a b w' q => by have := rCellP q a b; rwa [hss] at this
  clear hR0 hss
  go_at_call 16
  refine hS0.mono ?_
  rintro e wa ⟨rfl, b1⟩
  clear hS0
  replace HP : Hid (PairIs wa B x y) := HP.out.below b1
  replace HPp : Hid (PpAt wa Bp x y) := HPp.out.below b1
  replace HB1 : Hid (Below w.heap.size w wa) := HB1.out.trans (b1.mono HB1.out.size)
  clear b1
  have q0 := HPp.out.c0
  have q1 := HPp.out.c1
  go_wp2_with fail
  generalize hWb : wa.alloc _ = wb
  have bb : Below wa.heap.size wa wb := by rw [← hWb]; exact (Below.refl _ _).alloc (Nat.le_refl _) _
  have St : StAt wb wa.heap.size s := by rw [← hWb]; exact heap_new wa _
  have HSt : Hid (StAt wb wa.heap.size s) := St
  replace HP : Hid (PairIs wb B x y) := HP.out.below bb
  replace HPp : Hid (PpAt wb Bp x y) := HPp.out.below bb
  replace HB1 : Hid (Below w.heap.size w wb) := HB1.out.trans (bb.mono HB1.out.size)
  generalize wa.heap.size = Bt at *
  clear hWb bb St q0 q1
  have q1 := HPp.out.c1
  have t0 : wb.cell? ⟨Bt, 0, none⟩ = some (.int .i64 s.W) := cell_of_block HSt.out 0
  have t1 : wb.cell? ⟨Bt, 1, none⟩ = some (.int .i64 s.H) := cell_of_block HSt.out 1
  have t2 : wb.cell? ⟨Bt, 2, none⟩ = some (.int .i64 s.x) := cell_of_block HSt.out 2
  have t3 : wb.cell? ⟨Bt, 3, none⟩ = some (.int .i64 s.y) := cell_of_block HSt.out 3
  have t4 : wb.cell? ⟨Bt, 4, none⟩ = some (.bool s.pend) := cell_of_block HSt.out 4
  have t5 : wb.cell? ⟨Bt, 5, none⟩ = some (.int .i64 s.pen.f) := cell_of_block HSt.out 5
  have t6 : wb.cell? ⟨Bt, 6, none⟩ = some (.int .i64 s.pen.b) := cell_of_block HSt.out 6
  have t7 : wb.cell? ⟨Bt, 7, none⟩ = some (.bool s.pen.bo) := cell_of_block HSt.out 7
  have t8 : wb.cell? ⟨Bt, 8, none⟩ = some (.bool s.pen.un) := cell_of_block HSt.out 8
  have t9 : wb.cell? ⟨Bt, 9, none⟩ = some (.bool s.pen.re) := cell_of_block HSt.out 9
  have t10 : wb.cell? ⟨Bt, 10, none⟩ = some (.int .i64 s.top) := cell_of_block HSt.out 10
  have t11 : wb.cell? ⟨Bt, 11, none⟩ = some (.int .i64 s.bot) := cell_of_block HSt.out 11
  have t12 : wb.cell? ⟨Bt, 12, none⟩ = some (.bool (groundB s)) := cell_of_block HSt.out 12
  have lt : Bt < wb.heap.size := HSt.out.lt
  have ltp : Bp < wb.heap.size := HPp.out.lt
  have HD : Hid (PairIs wb.drew B x y) := HP.out.drew
  go_region_held3 (fun w' => w'.cell? ⟨Bt, 0, none⟩ = some (.int .i64 s.W) ∧ w'.cell? ⟨Bt, 1, none⟩ = some (.int .i64 s.H) ∧ w'.cell? ⟨Bt, 2, none⟩ = some (.int .i64 s.x) ∧ w'.cell? ⟨Bt, 3, none⟩ = some (.int .i64 s.y) ∧ w'.cell? ⟨Bt, 4, none⟩ = some (.bool s.pend) ∧ w'.cell? ⟨Bt, 5, none⟩ = some (.int .i64 s.pen.f) ∧ w'.cell? ⟨Bt, 6, none⟩ = some (.int .i64 s.pen.b) ∧ w'.cell? ⟨Bt, 7, none⟩ = some (.bool s.pen.bo) ∧ w'.cell? ⟨Bt, 8, none⟩ = some (.bool s.pen.un) ∧ w'.cell? ⟨Bt, 9, none⟩ = some (.bool s.pen.re) ∧ w'.cell? ⟨Bt, 10, none⟩ = some (.int .i64 s.top) ∧ w'.cell? ⟨Bt, 11, none⟩ = some (.int .i64 s.bot) ∧ w'.cell? ⟨Bt, 12, none⟩ = some (.bool (groundB s)) ∧ w'.cell? ⟨Bp, 1, none⟩ = some (.pointer y)) (simp [*]) (first | (go_at_call 22; refine (HR0.out _ HD.out).mono ?_; rintro e w2 ⟨rfl, b2⟩; have e1 := b2.cells (b := Bt) lt; have e2 := b2.cells (b := Bp) ltp; have B2 : Below wb.heap.size wb w2 := below_drew' b2))
  replace HP : Hid (PairIs w2 B x y) := HP.out.below B2
  replace HPp : Hid (PpAt w2 Bp x y) := HPp.out.below B2
  replace HB1 : Hid (Below w.heap.size w w2) := HB1.out.trans (B2.mono HB1.out.size)
  replace HSt : Hid (StAt w2 Bt s) := HSt.out.below B2
  clear t0 t1 t2 t3 t4 t5 t6 t7 t8 t9 t10 t11 t12 e1 e2 B2 HD b2 lt ltp q1
  go_wp2_with fail
  go_loopw [4] (fun i w' => ∃ k : Nat, k ≤ s.H + 2 ∧ i = .int .i64 ((k : Int) - 1) ∧ PairIs w' B x y ∧ PpAt w' Bp x y ∧ Below w.heap.size w w' ∧ StAt w' Bt s) (fun i _ => s.H + 2 - (intOf i + 1).toNat)
  case atStart => exact ⟨0, by omega, rfl, HP.out, HPp.out, HB1.out, HSt.out⟩
  case round =>
    obtain ⟨k, hk, rfl, hP, hPp, hB, hS⟩ := hrel
    clear HP HPp HB1 HSt
    have HP : Hid (PairIs wr B x y) := hP
    have HPp : Hid (PpAt wr Bp x y) := hPp
    have HB1 : Hid (Below w.heap.size w wr) := hB
    have HSt : Hid (StAt wr Bt s) := hS
    have t0 := hS.c0
    have t1 := hS.c1
    clear hP hPp hB hS
    by_cases hlt : k ≤ s.H + 1
    · have hlt' : (k : Int) - 1 ≤ s.H := by omega
      have wk : IntKind.i64.wrap ((k : Int) - 1 + 1) = k := by rw [wrap_id _ (by omega) (by omega)]; omega
      go_wp2_with fail
      clear t0 t1
      go_loopw [5] (fun i w' => ∃ j : Nat, j ≤ s.W + 2 ∧ i = .int .i64 ((j : Int) - 1) ∧ PairIs w' B x y ∧ PpAt w' Bp x y ∧ Below w.heap.size w w' ∧ StAt w' Bt s) (fun i _ => s.W + 2 - (intOf i + 1).toNat)
      case atStart => exact ⟨0, by omega, rfl, HP.out, HPp.out, HB1.out, HSt.out⟩
      case round =>
        obtain ⟨j, hkj, rfl, hP, hPp, hB, hS⟩ := hrel
        clear HP HPp HB1 HSt
        have HP : Hid (PairIs wr B x y) := hP
        have HPp : Hid (PpAt wr Bp x y) := hPp
        have HB1 : Hid (Below w.heap.size w wr) := hB
        have HSt : Hid (StAt wr Bt s) := hS
        have t0 := hS.c0
        have t1 := hS.c1
        clear hP hPp hB hS
        by_cases hltj : j ≤ s.W + 1
        · have hltj' : (j : Int) - 1 ≤ s.W := by omega
          have q0 := HPp.out.c0
          go_wp2_with fail
          clear t0 t1 q0
          go_at_call 23
          refine (HcP.out ((j : Int) - 1) ((k : Int) - 1) _ HP.out).mono ?_
          rintro e w3 ⟨rfl, b3⟩
          obtain ⟨c, hc⟩ : ∃ c, cellAt s ((j : Int) - 1) ((k : Int) - 1) = c := ⟨_, rfl⟩
          obtain ⟨er, her⟩ : ∃ er, errOf B ((j : Int) - 1) ((k : Int) - 1) = er := ⟨_, rfl⟩
          rw [hc, her]
          replace HP : Hid (PairIs w3 B x y) := HP.out.below b3
          replace HPp : Hid (PpAt w3 Bp x y) := HPp.out.below b3
          replace HB1 : Hid (Below w.heap.size w w3) := HB1.out.trans (b3.mono HB1.out.size)
          replace HSt : Hid (StAt w3 Bt s) := HSt.out.below b3
          clear b3
          have q1 := HPp.out.c1
          have lq := HPp.out.lt
          go_wp2_with fail
          generalize hw4 : w3.alloc _ = w4
          have b4 : Below w3.heap.size w3 w4 := by rw [← hw4]; exact (Below.refl _ _).alloc (Nat.le_refl _) _
          have A4 : CelAt w4 w3.heap.size 0 c := by rw [← hw4]; exact cel_new' w3 c _ rfl _
          replace HP : Hid (PairIs w4 B x y) := HP.out.below b4
          replace HPp : Hid (PpAt w4 Bp x y) := HPp.out.below b4
          replace HB1 : Hid (Below w.heap.size w w4) := HB1.out.trans (b4.mono HB1.out.size)
          replace HSt : Hid (StAt w4 Bt s) := HSt.out.below b4
          have l4 : w3.heap.size < w4.heap.size := A4.lt
          generalize w3.heap.size = Bc at *
          clear b4 hw4 q1 lq
          go_at_call 24
          refine (HcR.out ((j : Int) - 1) ((k : Int) - 1) _ HP.out).mono ?_
          rintro e w5 ⟨rfl, b5⟩
          rw [hc, her]
          replace HP : Hid (PairIs w5 B x y) := HP.out.below b5
          replace HPp : Hid (PpAt w5 Bp x y) := HPp.out.below b5
          replace HB1 : Hid (Below w.heap.size w w5) := HB1.out.trans (b5.mono HB1.out.size)
          replace HSt : Hid (StAt w5 Bt s) := HSt.out.below b5
          obtain ⟨a0, a1, a2, a3, a4, a5, a6⟩ := A4.below b5 l4
          simp only [Nat.zero_add] at a1 a2 a3 a4 a5 a6
          replace l4 : Bc < w5.heap.size := Nat.lt_of_lt_of_le l4 b5.size
          clear b5 A4
          go_wp2_with fail
          exact ⟨⟨j + 1, by omega, by simp, HP.out.below ((Below.refl _ _).alloc (Nat.le_refl _) _), HPp.out.below ((Below.refl _ _).alloc (Nat.le_refl _) _), HB1.out.trans (((Below.refl _ _).alloc (Nat.le_refl _) _).mono HB1.out.size), HSt.out.below ((Below.refl _ _).alloc (Nat.le_refl _) _)⟩, by simp only [intOf]; omega⟩
        · have hltj' : ¬ (j : Int) - 1 ≤ s.W := by omega
          go_wp2_with fail
          exact ⟨⟨k + 1, by omega, by simp, HP.out, HPp.out, HB1.out, HSt.out⟩, by simp only [intOf]; omega⟩
    · have hlt' : ¬ (k : Int) - 1 ≤ s.H := by omega
      go_wp2_with fail
      go_ret
      exact ⟨rfl, HB1.out⟩
end
end Go.Proofs.YtjlfibhbfdckpaaDoor
