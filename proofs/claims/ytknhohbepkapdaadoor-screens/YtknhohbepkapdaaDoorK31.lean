/- Texts of the proof, one behind the other: ShA. -/
import Derived.Test.YtknhohbepkapdaaDoorK30
/- The statement with the document's answer: pairs of screens, both sides alike. -/
namespace Go.Proofs.YtknhohbepkapdaaDoor
open Go.RowKit
open Wd (wd)
attribute [local go_sem ↓] Go.wp_at_zero Go.wp_at_succ
/-- The blocks of a pair: the program's screen, the document's. -/
structure Bk where
  pc : Nat
  bs : Nat
  bg : Nat
  g : Nat
  N : Nat
  rs : Nat
  rc : Nat
  rg : Nat
  cap : Nat
  M : Nat
/-- What a nil screen answers. -/
def nilRs : Rs := ⟨0, 0, 0, 0, false, Pn.plain, 0, 0, ⟨#[0]⟩, 0, fun _ _ => noCel⟩
theorem nil_ground : groundB nilRs = false := by unfold groundB; rw [ByteArray.toList_eq]; rfl
theorem nil_in (x y : Int) : inG nilRs.W nilRs.H x y = false := by
  cases h : inG nilRs.W nilRs.H x y with
  | false => rfl
  | true =>
    obtain ⟨a, b, _, _⟩ := inG_iff.1 h
    have : nilRs.W = 0 := rfl
    omega
def rsOf : Option (Bk × Rs) → Rs
  | none => nilRs
  | some q => q.2
def errOf (B : Option (Bk × Rs)) (x y : Int) : Int := match B with
  | none => 1
  | some q => errAt q.2 x y
/-- A pair in memory: two nil pointers, or two screens in one state. -/
def PairIs (w : World) (B : Option (Bk × Rs)) (x y : Option Addr) : Prop := match B with
  | none => x = none ∧ y = none
  | some (k, s) => x = some ⟨k.pc, 0, none⟩ ∧ y = some ⟨k.rs, 0, none⟩ ∧ CsAt w k.pc k.bs k.bg k.g k.N s ∧ RefAt w k.rs k.rc k.rg k.cap k.M s ∧ BOk s.B
theorem PairIs.below {w w' : World} {B : Option (Bk × Rs)} {x y : Option Addr} (h : PairIs w B x y) (b : Below w.heap.size w w') : PairIs w' B x y := by
  cases B with
  | none => exact h
  | some q =>
    obtain ⟨h1, h2, h3, h4, h5⟩ := h
    exact ⟨h1, h2, h3.below b, h4.below b, h5⟩
theorem PairIs.drew {w : World} {B : Option (Bk × Rs)} {x y : Option Addr} (h : PairIs w B x y) : PairIs w.drew B x y := h.below (below_drewN w 1)
theorem refCell (bs bc g cap N : Nat) (s : Rs) (x y : Int) (w : World) (h : RefAt w bs bc g cap N s) :
    Calls Tryd.prog 24 #[.pointer (some ⟨bs, 0, none⟩), .int .i64 x, .int .i64 y] w fun e w' => e = .returned (.tuple #[(cellAt s x y).agg, .int .i64 (errAt s x y)]) ∧ Below w.heap.size w w' := by
  unfold cellAt errAt
  cases hin : inG s.W s.H x y with
  | true => rw [if_pos rfl, if_pos rfl]; exact refCellYes bs bc g cap N s x y w h hin
  | false => rw [if_neg (by decide), if_neg (by decide)]; exact refCellNo bs bc g cap N s x y w h hin
theorem cell_nil (x y : Int) : cellAt nilRs x y = noCel := if_neg (by rw [nil_in]; decide)
section
variable {w : World} {B : Option (Bk × Rs)} {x y : Option Addr}
abbrev stVal (s : Rs) : Value := stAgg s.W s.H s.x s.y s.pend s.pen s.top s.bot (groundB s)
theorem pState (h : PairIs w B x y) : Calls Tryd.prog 16 #[.pointer x] w fun e w' => e = .returned (stVal (rsOf B)) ∧ Below w.heap.size w w' := by
  cases B with
  | none =>
    obtain ⟨rfl, rfl⟩ := h
    have e : stVal (rsOf none) = stAgg 0 0 0 0 false Pn.plain 0 0 false := by show stAgg _ _ _ _ _ _ _ _ (groundB nilRs) = _; rw [nil_ground]; rfl
    rw [e]
    exact cStateNil w
  | some q =>
    obtain ⟨rfl, rfl, C, R, _⟩ := h
    exact cState _ _ _ _ _ _ w C
theorem rState (h : PairIs w B x y) : Calls Tryd.prog 22 #[.pointer y] w fun e w' => e = .returned (stVal (rsOf B)) ∧ Below w.heap.size w w' := by
  cases B with
  | none =>
    obtain ⟨rfl, rfl⟩ := h
    have e : stVal (rsOf none) = stAgg 0 0 0 0 false Pn.plain 0 0 false := by show stAgg _ _ _ _ _ _ _ _ (groundB nilRs) = _; rw [nil_ground]; rfl
    rw [e]
    exact refStateNil w
  | some q =>
    obtain ⟨rfl, rfl, C, R, _⟩ := h
    exact refState _ _ _ _ _ _ w R
theorem pCellP (h : PairIs w B x y) (a b : Int) : Calls Tryd.prog 23 #[.pointer x, .int .i64 a, .int .i64 b] w fun e w' => e = .returned (.tuple #[(cellAt (rsOf B) a b).agg, .int .i64 (errOf B a b)]) ∧ Below w.heap.size w w' := by
  cases B with
  | none =>
    obtain ⟨rfl, rfl⟩ := h
    show Calls _ _ _ _ fun e w' => e = .returned (.tuple #[(cellAt nilRs a b).agg, .int .i64 1]) ∧ _
    rw [cell_nil]
    exact cCellNil a b w
  | some q =>
    obtain ⟨rfl, rfl, C, R, _⟩ := h
    exact cCell _ _ _ _ _ _ a b w C
theorem rCellP (h : PairIs w B x y) (a b : Int) : Calls Tryd.prog 24 #[.pointer y, .int .i64 a, .int .i64 b] w fun e w' => e = .returned (.tuple #[(cellAt (rsOf B) a b).agg, .int .i64 (errOf B a b)]) ∧ Below w.heap.size w w' := by
  cases B with
  | none =>
    obtain ⟨rfl, rfl⟩ := h
    show Calls _ _ _ _ fun e w' => e = .returned (.tuple #[(cellAt nilRs a b).agg, .int .i64 1]) ∧ _
    rw [cell_nil]
    exact refCellNil a b w
  | some q =>
    obtain ⟨rfl, rfl, C, R, _⟩ := h
    exact refCell _ _ _ _ _ _ a b w R
theorem rsOf_small (h : PairIs w B x y) : (rsOf B).W ≤ 40 ∧ (rsOf B).H ≤ 20 := by
  cases B with
  | none => exact ⟨by decide, by decide⟩
  | some q => obtain ⟨_, _, C, _, _⟩ := h; exact ⟨C.ok.w2, C.ok.h2⟩
/-- A pair lies in a block of its own. -/
def PpAt (w : World) (b : Nat) (x y : Option Addr) : Prop := w.heap[b]? = some (.cells #[.pointer x, .pointer y] 26)
theorem PpAt.below {w w' : World} {b : Nat} {x y : Option Addr} (h : PpAt w b x y) (hb : Below w.heap.size w w') : PpAt w' b x y := by
  unfold PpAt at *; rw [hb.block _ (Array.getElem?_eq_some_iff.1 h).1]; exact h
theorem PpAt.lt {w : World} {b : Nat} {x y : Option Addr} (h : PpAt w b x y) : b < w.heap.size := (Array.getElem?_eq_some_iff.1 h).1
theorem PpAt.c0 {w : World} {b : Nat} {x y : Option Addr} (h : PpAt w b x y) : w.cell? ⟨b, 0, none⟩ = some (.pointer x) := cell_of_block h 0
theorem PpAt.c1 {w : World} {b : Nat} {x y : Option Addr} (h : PpAt w b x y) : w.cell? ⟨b, 1, none⟩ = some (.pointer y) := cell_of_block h 1
set_option maxRecDepth 10000 in
set_option maxHeartbeats 4000000 in
theorem lLook (h : PairIs w B x y) : Calls Tryd.prog 9 #[.agg #[.pointer x, .pointer y]] w fun e w' => e = .returned (.bool true) ∧ Below w.heap.size w w' := by
  have HP : Hid (PairIs w B x y) := h
  obtain ⟨W2, H2⟩ := rsOf_small h
  clear h
  go_enter Tryd.func9, Tryd.ntmps9
  go_wp2_with fail
  have hbl : Below w.heap.size w (w.alloc (.cells #[.pointer x, .pointer y] 26)) := (Below.refl _ _).alloc (Nat.le_refl _) _
  have HPp : Hid (PpAt (w.alloc (.cells #[.pointer x, .pointer y] 26)) w.heap.size x y) := heap_new w _
  replace HP : Hid (PairIs (w.alloc (.cells #[.pointer x, .pointer y] 26)) B x y) := HP.out.below hbl
  have HB1 : Hid (Below w.heap.size w (w.alloc (.cells #[.pointer x, .pointer y] 26))) := hbl
  obtain ⟨Bp, hBp⟩ : ∃ Bp, w.heap.size = Bp := ⟨_, rfl⟩
  generalize w.alloc (.cells #[.pointer x, .pointer y] 26) = w0 at *
  rw [hBp] at HPp
  have HBp : Hid (w.heap.size = Bp) := hBp
  simp only [hBp]
  clear hbl hBp
  generalize hss : rsOf B = s at *
  have hS0 := @pState w0 B x y HP.out
  have hR0 : ∀ w', PairIs w' B x y → Calls Tryd.prog 22 #[.pointer y] w' fun e w'' => e = .returned (stVal s) ∧ Below w'.heap.size w' w'' := fun w' q => by have := rState q; rwa [hss] at this
  rw [hss] at hS0
  have HR0 : Hid (∀ w', PairIs w' B x y → Calls Tryd.prog 22 #[.pointer y] w' fun e w'' => e = .returned (stVal s) ∧ Below w'.heap.size w' w'') := hR0
  have HcP : Hid (∀ (a b : Int) w', PairIs w' B x y → Calls Tryd.prog 23 #[.pointer x, .int .i64 a, .int .i64 b] w' fun e w'' => e = .returned (.tuple #[(cellAt s a b).agg, .int .i64 (errOf B a b)]) ∧ Below w'.heap.size w' w'') := fun a b w' q => by have := pCellP q a b; rwa [hss] at this
  have HcR : Hid (∀ (a b : Int) w', PairIs w' B x y → Calls Tryd.prog 24 #[.pointer y, .int .i64 a, .int .i64 b] w' fun e w'' => e = .returned (.tuple #[(cellAt s a b).agg, .int .i64 (errOf B a b)]) ∧ Below w'.heap.size w' w'') := fun a b w' q => by have := rCellP q a b; rwa [hss] at this
  clear hR0 hss
  go_at_call 16
  refine hS0.mono ?_
  rintro e wa ⟨rfl, b1⟩
  clear hS0
  replace HP : Hid (PairIs wa B x y) := HP.out.below b1
  replace HPp : Hid (PpAt wa Bp x y) := HPp.out.below b1
  replace HB1 : Hid (Below w.heap.size w wa) := HB1.out.trans (b1.mono HB1.out.size)
  clear b1
  have q0 := HPp.out.c0
  have q1 := HPp.out.c1
  go_wp2_with fail
  generalize hWb : wa.alloc _ = wb
  have bb : Below wa.heap.size wa wb := by rw [← hWb]; exact (Below.refl _ _).alloc (Nat.le_refl _) _
  have St : StAt wb wa.heap.size s := by rw [← hWb]; exact heap_new wa _
  have HSt : Hid (StAt wb wa.heap.size s) := St
  replace HP : Hid (PairIs wb B x y) := HP.out.below bb
  replace HPp : Hid (PpAt wb Bp x y) := HPp.out.below bb
  replace HB1 : Hid (Below w.heap.size w wb) := HB1.out.trans (bb.mono HB1.out.size)
  generalize wa.heap.size = Bt at *
  clear hWb bb St q0 q1
  have q1 := HPp.out.c1
  have t0 : wb.cell? ⟨Bt, 0, none⟩ = some (.int .i64 s.W) := cell_of_block HSt.out 0
  have t1 : wb.cell? ⟨Bt, 1, none⟩ = some (.int .i64 s.H) := cell_of_block HSt.out 1
  have t2 : wb.cell? ⟨Bt, 2, none⟩ = some (.int .i64 s.x) := cell_of_block HSt.out 2
  have t3 : wb.cell? ⟨Bt, 3, none⟩ = some (.int .i64 s.y) := cell_of_block HSt.out 3
  have t4 : wb.cell? ⟨Bt, 4, none⟩ = some (.bool s.pend) := cell_of_block HSt.out 4
  have t5 : wb.cell? ⟨Bt, 5, none⟩ = some (.int .i64 s.pen.f) := cell_of_block HSt.out 5
  have t6 : wb.cell? ⟨Bt, 6, none⟩ = some (.int .i64 s.pen.b) := cell_of_block HSt.out 6
  have t7 : wb.cell? ⟨Bt, 7, none⟩ = some (.bool s.pen.bo) := cell_of_block HSt.out 7
  have t8 : wb.cell? ⟨Bt, 8, none⟩ = some (.bool s.pen.un) := cell_of_block HSt.out 8
  have t9 : wb.cell? ⟨Bt, 9, none⟩ = some (.bool s.pen.re) := cell_of_block HSt.out 9
  have t10 : wb.cell? ⟨Bt, 10, none⟩ = some (.int .i64 s.top) := cell_of_block HSt.out 10
  have t11 : wb.cell? ⟨Bt, 11, none⟩ = some (.int .i64 s.bot) := cell_of_block HSt.out 11
  have t12 : wb.cell? ⟨Bt, 12, none⟩ = some (.bool (groundB s)) := cell_of_block HSt.out 12
  have lt : Bt < wb.heap.size := HSt.out.lt
  have ltp : Bp < wb.heap.size := HPp.out.lt
  have HD : Hid (PairIs wb.drew B x y) := HP.out.drew
  go_region_held3 (fun w' => w'.cell? ⟨Bt, 0, none⟩ = some (.int .i64 s.W) ∧ w'.cell? ⟨Bt, 1, none⟩ = some (.int .i64 s.H) ∧ w'.cell? ⟨Bt, 2, none⟩ = some (.int .i64 s.x) ∧ w'.cell? ⟨Bt, 3, none⟩ = some (.int .i64 s.y) ∧ w'.cell? ⟨Bt, 4, none⟩ = some (.bool s.pend) ∧ w'.cell? ⟨Bt, 5, none⟩ = some (.int .i64 s.pen.f) ∧ w'.cell? ⟨Bt, 6, none⟩ = some (.int .i64 s.pen.b) ∧ w'.cell? ⟨Bt, 7, none⟩ = some (.bool s.pen.bo) ∧ w'.cell? ⟨Bt, 8, none⟩ = some (.bool s.pen.un) ∧ w'.cell? ⟨Bt, 9, none⟩ = some (.bool s.pen.re) ∧ w'.cell? ⟨Bt, 10, none⟩ = some (.int .i64 s.top) ∧ w'.cell? ⟨Bt, 11, none⟩ = some (.int .i64 s.bot) ∧ w'.cell? ⟨Bt, 12, none⟩ = some (.bool (groundB s)) ∧ w'.cell? ⟨Bp, 1, none⟩ = some (.pointer y)) (simp [*]) (first | (go_at_call 22; refine (HR0.out _ HD.out).mono ?_; rintro e w2 ⟨rfl, b2⟩; have e1 := b2.cells (b := Bt) lt; have e2 := b2.cells (b := Bp) ltp; have B2 : Below wb.heap.size wb w2 := below_drew' b2))
  replace HP : Hid (PairIs w2 B x y) := HP.out.below B2
  replace HPp : Hid (PpAt w2 Bp x y) := HPp.out.below B2
  replace HB1 : Hid (Below w.heap.size w w2) := HB1.out.trans (B2.mono HB1.out.size)
  replace HSt : Hid (StAt w2 Bt s) := HSt.out.below B2
  clear t0 t1 t2 t3 t4 t5 t6 t7 t8 t9 t10 t11 t12 e1 e2 B2 HD b2 lt ltp q1
  go_wp2_with fail
  go_loopw [4] (fun i w' => ∃ k : Nat, k ≤ s.H + 2 ∧ i = .int .i64 ((k : Int) - 1) ∧ PairIs w' B x y ∧ PpAt w' Bp x y ∧ Below w.heap.size w w' ∧ StAt w' Bt s) (fun i _ => s.H + 2 - (intOf i + 1).toNat)
  case atStart => exact ⟨0, by omega, rfl, HP.out, HPp.out, HB1.out, HSt.out⟩
  case round =>
    obtain ⟨k, hk, rfl, hP, hPp, hB, hS⟩ := hrel
    clear HP HPp HB1 HSt
    have HP : Hid (PairIs wr B x y) := hP
    have HPp : Hid (PpAt wr Bp x y) := hPp
    have HB1 : Hid (Below w.heap.size w wr) := hB
    have HSt : Hid (StAt wr Bt s) := hS
    have t0 := hS.c0
    have t1 := hS.c1
    clear hP hPp hB hS
    by_cases hlt : k ≤ s.H + 1
    · have hlt' : (k : Int) - 1 ≤ s.H := by omega
      have wk : IntKind.i64.wrap ((k : Int) - 1 + 1) = k := by rw [wrap_id _ (by omega) (by omega)]; omega
      go_wp2_with fail
      clear t0 t1
      go_loopw [5] (fun i w' => ∃ j : Nat, j ≤ s.W + 2 ∧ i = .int .i64 ((j : Int) - 1) ∧ PairIs w' B x y ∧ PpAt w' Bp x y ∧ Below w.heap.size w w' ∧ StAt w' Bt s) (fun i _ => s.W + 2 - (intOf i + 1).toNat)
      case atStart => exact ⟨0, by omega, rfl, HP.out, HPp.out, HB1.out, HSt.out⟩
      case round =>
        obtain ⟨j, hkj, rfl, hP, hPp, hB, hS⟩ := hrel
        clear HP HPp HB1 HSt
        have HP : Hid (PairIs wr B x y) := hP
        have HPp : Hid (PpAt wr Bp x y) := hPp
        have HB1 : Hid (Below w.heap.size w wr) := hB
        have HSt : Hid (StAt wr Bt s) := hS
        have t0 := hS.c0
        have t1 := hS.c1
        clear hP hPp hB hS
        by_cases hltj : j ≤ s.W + 1
        · have hltj' : (j : Int) - 1 ≤ s.W := by omega
          have q0 := HPp.out.c0
          go_wp2_with fail
          clear t0 t1 q0
          go_at_call 23
          refine (HcP.out ((j : Int) - 1) ((k : Int) - 1) _ HP.out).mono ?_
          rintro e w3 ⟨rfl, b3⟩
          obtain ⟨c, hc⟩ : ∃ c, cellAt s ((j : Int) - 1) ((k : Int) - 1) = c := ⟨_, rfl⟩
          obtain ⟨er, her⟩ : ∃ er, errOf B ((j : Int) - 1) ((k : Int) - 1) = er := ⟨_, rfl⟩
          rw [hc, her]
          replace HP : Hid (PairIs w3 B x y) := HP.out.below b3
          replace HPp : Hid (PpAt w3 Bp x y) := HPp.out.below b3
          replace HB1 : Hid (Below w.heap.size w w3) := HB1.out.trans (b3.mono HB1.out.size)
          replace HSt : Hid (StAt w3 Bt s) := HSt.out.below b3
          clear b3
          have q1 := HPp.out.c1
          have lq := HPp.out.lt
          go_wp2_with fail
          generalize hw4 : w3.alloc _ = w4
          have b4 : Below w3.heap.size w3 w4 := by rw [← hw4]; exact (Below.refl _ _).alloc (Nat.le_refl _) _
          have A4 : CelAt w4 w3.heap.size 0 c := by rw [← hw4]; exact cel_new' w3 c _ rfl _
          replace HP : Hid (PairIs w4 B x y) := HP.out.below b4
          replace HPp : Hid (PpAt w4 Bp x y) := HPp.out.below b4
          replace HB1 : Hid (Below w.heap.size w w4) := HB1.out.trans (b4.mono HB1.out.size)
          replace HSt : Hid (StAt w4 Bt s) := HSt.out.below b4
          have l4 : w3.heap.size < w4.heap.size := A4.lt
          generalize w3.heap.size = Bc at *
          clear b4 hw4 q1 lq
          go_at_call 24
          refine (HcR.out ((j : Int) - 1) ((k : Int) - 1) _ HP.out).mono ?_
          rintro e w5 ⟨rfl, b5⟩
          rw [hc, her]
          replace HP : Hid (PairIs w5 B x y) := HP.out.below b5
          replace HPp : Hid (PpAt w5 Bp x y) := HPp.out.below b5
          replace HB1 : Hid (Below w.heap.size w w5) := HB1.out.trans (b5.mono HB1.out.size)
          replace HSt : Hid (StAt w5 Bt s) := HSt.out.below b5
          obtain ⟨a0, a1, a2, a3, a4, a5, a6⟩ := A4.below b5 l4
          simp only [Nat.zero_add] at a1 a2 a3 a4 a5 a6
          replace l4 : Bc < w5.heap.size := Nat.lt_of_lt_of_le l4 b5.size
          clear b5 A4
          go_wp2_with fail
          exact ⟨⟨j + 1, by omega, by simp, HP.out.below ((Below.refl _ _).alloc (Nat.le_refl _) _), HPp.out.below ((Below.refl _ _).alloc (Nat.le_refl _) _), HB1.out.trans (((Below.refl _ _).alloc (Nat.le_refl _) _).mono HB1.out.size), HSt.out.below ((Below.refl _ _).alloc (Nat.le_refl _) _)⟩, by simp only [intOf]; omega⟩
        · have hltj' : ¬ (j : Int) - 1 ≤ s.W := by omega
          go_wp2_with fail
          exact ⟨⟨k + 1, by omega, by simp, HP.out, HPp.out, HB1.out, HSt.out⟩, by simp only [intOf]; omega⟩
    · have hlt' : ¬ (k : Int) - 1 ≤ s.H := by omega
      go_wp2_with fail
      go_ret
      exact ⟨rfl, HB1.out⟩
end
end Go.Proofs.YtknhohbepkapdaaDoor
