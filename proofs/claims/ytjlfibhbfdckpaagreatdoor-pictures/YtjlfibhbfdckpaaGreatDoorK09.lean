/- Texts of the proof, one behind the other: ScP, ScP2, ScP3, ScP4, Nm. -/
import Derived.Test.YtjlfibhbfdckpaaGreatDoorK03
import Derived.Test.YtjlfibhbfdckpaaGreatDoorK08
/- The document's screen: its state. -/
namespace Go.Proofs.YtjlfibhbfdckpaaGreatDoor
open Wd (wd)
structure Rs where
  W : Nat
  H : Nat
  x : Int
  y : Int
  pend : Bool
  pen : Pn
  top : Int
  bot : Int
  B : ByteArray
  odd : Int
  G : Nat → Nat → Cel
/-- What holds of a screen. -/
structure Rs.Ok (s : Rs) : Prop where
  w1 : 1 ≤ s.W
  w2 : s.W ≤ 40
  h1 : 1 ≤ s.H
  h2 : s.H ≤ 20
  x0 : 0 ≤ s.x
  x1 : s.x < s.W
  y0 : 0 ≤ s.y
  y1 : s.y < s.H
  t0 : 0 ≤ s.top
  tb : s.top ≤ s.bot
  b1 : s.bot < s.H
  pd : s.pend = true → s.x = (s.W : Int) - 1
  wf : Wf s.W s.H s.G
def clampI (v : Int) (m : Nat) : Int := if v < 0 then 0 else if (m : Int) - 1 < v then (m : Int) - 1 else v
theorem clampI_in (v : Int) (m : Nat) (h : 1 ≤ m) : 0 ≤ clampI v m ∧ clampI v m < m := by 
  unfold clampI
  by_cases h1 : v < 0
  · rw [if_pos h1]; omega
  · rw [if_neg h1]
    by_cases h2 : (m : Int) - 1 < v
    · rw [if_pos h2]; omega
    · rw [if_neg h2]; omega
def goesR (s : Rs) (x y : Int) : Rs := { s with x := clampI x s.W, y := clampI y s.H, pend := false }
def backR (s : Rs) : Pn := ⟨0, s.pen.b, false, false, false⟩
def linefeedR (s : Rs) : Rs := if s.y = s.bot then { s with G := scrollG s.top s.bot 1 (backR s) s.G, pend := false } else goesR s s.x (s.y + 1)
/-- The struct's cells. -/
abbrev scrArr (bc : Nat) (s : Rs) : Array Value := #[.pointer (some ⟨bc, 0, none⟩), .int .i64 s.W, .int .i64 s.H, .int .i64 s.x, .int .i64 s.y, .bool s.pend, .int .i64 s.pen.f, .int .i64 s.pen.b, .bool s.pen.bo, .bool s.pen.un, .bool s.pen.re, .int .i64 s.top, .int .i64 s.bot, .bool false, .string s.B, .int .i64 s.odd]
/-- The document's screen lies in blocks bs, bc, g. -/
structure RefAt (w : World) (bs bc g cap N : Nat) (s : Rs) : Prop where
  blk : w.heap[bs]? = some (.cells (scrArr bc s) 104)
  cels : Cels w bc g cap s.W s.H N s.G
  ne1 : bs ≠ bc
  ne2 : bs ≠ g
section
variable {w w' : World} {bs bc g cap N : Nat} {s : Rs}
theorem RefAt.lt (h : RefAt w bs bc g cap N s) : bs < w.heap.size := (Array.getElem?_eq_some_iff.1 h.blk).1
theorem RefAt.same (h : RefAt w bs bc g cap N s) (h1 : w'.heap[bs]? = w.heap[bs]?) (h2 : w'.heap[bc]? = w.heap[bc]?) (h3 : w'.heap[g]? = w.heap[g]?) : RefAt w' bs bc g cap N s :=
  ⟨by rw [h1]; exact h.blk, h.cels.same h2 h3, h.ne1, h.ne2⟩
theorem RefAt.below (h : RefAt w bs bc g cap N s) (hb : Go.RowKit.Below w.heap.size w w') : RefAt w' bs bc g cap N s :=
  h.same (hb.block _ h.lt) (hb.block _ h.cels.lt) (hb.block _ h.cels.glt)
theorem RefAt.free (h : RefAt w bs bc g cap N s) : ∀ o, w.frozen? ⟨bs, o, none⟩ = false := frozen_of_block h.blk
theorem RefAt.drew (h : RefAt w bs bc g cap N s) : RefAt w.drew bs bc g cap N s := h.same rfl rfl rfl
theorem RefAt.store (h : RefAt w bs bc g cap N s) (o : Nat) (v : Value) (s' : Rs) (hs : (scrArr bc s).setIfInBounds o v = scrArr bc s') (hW : s'.W = s.W) (hH : s'.H = s.H) (hG : s'.G = s.G) : RefAt (w.setCell ⟨bs, o, none⟩ v) bs bc g cap N s' := by
  refine ⟨?_, ?_, h.ne1, h.ne2⟩
  · rw [heap_set_same h.blk, hs]
  · rw [hW, hH, hG]
    exact h.cels.same (Go.RowKit.Below.heap_setCell _ _ _ _ (fun e => h.ne1 e.symm)) (Go.RowKit.Below.heap_setCell _ _ _ _ (fun e => h.ne2 e.symm))
/-- The cells change, and nothing else. -/
theorem RefAt.cells {g' cap' : Nat} (h : RefAt w bs bc g cap N s) (s' : Rs) (hb : w'.heap[bs]? = w.heap[bs]?) (hc : Cels w' bc g' cap' s'.W s'.H N s'.G) (hs : scrArr bc s' = scrArr bc s) (hg : bs ≠ g') : RefAt w' bs bc g' cap' N s' :=
  ⟨by rw [hb, hs]; exact h.blk, hc, h.ne1, hg⟩
theorem RefAt.f0 (h : RefAt w bs bc g cap N s) : w.cell? ⟨bs, 0, none⟩ = some (.pointer (some ⟨bc, 0, none⟩)) := cell_of_block h.blk 0
theorem RefAt.f1 (h : RefAt w bs bc g cap N s) : w.cell? ⟨bs, 1, none⟩ = some (.int .i64 s.W) := cell_of_block h.blk 1
theorem RefAt.f2 (h : RefAt w bs bc g cap N s) : w.cell? ⟨bs, 2, none⟩ = some (.int .i64 s.H) := cell_of_block h.blk 2
theorem RefAt.f3 (h : RefAt w bs bc g cap N s) : w.cell? ⟨bs, 3, none⟩ = some (.int .i64 s.x) := cell_of_block h.blk 3
theorem RefAt.f4 (h : RefAt w bs bc g cap N s) : w.cell? ⟨bs, 4, none⟩ = some (.int .i64 s.y) := cell_of_block h.blk 4
theorem RefAt.f5 (h : RefAt w bs bc g cap N s) : w.cell? ⟨bs, 5, none⟩ = some (.bool s.pend) := cell_of_block h.blk 5
theorem RefAt.f6 (h : RefAt w bs bc g cap N s) : w.cell? ⟨bs, 6, none⟩ = some (.int .i64 s.pen.f) := cell_of_block h.blk 6
theorem RefAt.f7 (h : RefAt w bs bc g cap N s) : w.cell? ⟨bs, 7, none⟩ = some (.int .i64 s.pen.b) := cell_of_block h.blk 7
theorem RefAt.f8 (h : RefAt w bs bc g cap N s) : w.cell? ⟨bs, 8, none⟩ = some (.bool s.pen.bo) := cell_of_block h.blk 8
theorem RefAt.f9 (h : RefAt w bs bc g cap N s) : w.cell? ⟨bs, 9, none⟩ = some (.bool s.pen.un) := cell_of_block h.blk 9
theorem RefAt.f10 (h : RefAt w bs bc g cap N s) : w.cell? ⟨bs, 10, none⟩ = some (.bool s.pen.re) := cell_of_block h.blk 10
theorem RefAt.f11 (h : RefAt w bs bc g cap N s) : w.cell? ⟨bs, 11, none⟩ = some (.int .i64 s.top) := cell_of_block h.blk 11
theorem RefAt.f12 (h : RefAt w bs bc g cap N s) : w.cell? ⟨bs, 12, none⟩ = some (.int .i64 s.bot) := cell_of_block h.blk 12
theorem RefAt.f13 (h : RefAt w bs bc g cap N s) : w.cell? ⟨bs, 13, none⟩ = some (.bool false) := cell_of_block h.blk 13
theorem RefAt.f14 (h : RefAt w bs bc g cap N s) : w.cell? ⟨bs, 14, none⟩ = some (.string s.B) := cell_of_block h.blk 14
theorem RefAt.f15 (h : RefAt w bs bc g cap N s) : w.cell? ⟨bs, 15, none⟩ = some (.int .i64 s.odd) := cell_of_block h.blk 15
theorem RefAt.setX (h : RefAt w bs bc g cap N s) (v : Int) : RefAt (w.setCell ⟨bs, 3, none⟩ (.int .i64 v)) bs bc g cap N { s with x := v } := h.store 3 _ { s with x := v } rfl rfl rfl rfl
theorem RefAt.setY (h : RefAt w bs bc g cap N s) (v : Int) : RefAt (w.setCell ⟨bs, 4, none⟩ (.int .i64 v)) bs bc g cap N { s with y := v } := h.store 4 _ { s with y := v } rfl rfl rfl rfl
theorem RefAt.setPend (h : RefAt w bs bc g cap N s) (v : Bool) : RefAt (w.setCell ⟨bs, 5, none⟩ (.bool v)) bs bc g cap N { s with pend := v } := h.store 5 _ { s with pend := v } rfl rfl rfl rfl
theorem RefAt.setTop (h : RefAt w bs bc g cap N s) (v : Int) : RefAt (w.setCell ⟨bs, 11, none⟩ (.int .i64 v)) bs bc g cap N { s with top := v } := h.store 11 _ { s with top := v } rfl rfl rfl rfl
theorem RefAt.setBot (h : RefAt w bs bc g cap N s) (v : Int) : RefAt (w.setCell ⟨bs, 12, none⟩ (.int .i64 v)) bs bc g cap N { s with bot := v } := h.store 12 _ { s with bot := v } rfl rfl rfl rfl
theorem RefAt.setB (h : RefAt w bs bc g cap N s) (v : ByteArray) : RefAt (w.setCell ⟨bs, 14, none⟩ (.string v)) bs bc g cap N { s with B := v } := h.store 14 _ { s with B := v } rfl rfl rfl rfl
theorem RefAt.setOdd (h : RefAt w bs bc g cap N s) (v : Int) : RefAt (w.setCell ⟨bs, 15, none⟩ (.int .i64 v)) bs bc g cap N { s with odd := v } := h.store 15 _ { s with odd := v } rfl rfl rfl rfl
theorem RefAt.setXYP (h : RefAt w bs bc g cap N s) (a b : Int) : RefAt (((w.setCell ⟨bs, 3, none⟩ (.int .i64 a)).setCell ⟨bs, 4, none⟩ (.int .i64 b)).setCell ⟨bs, 5, none⟩ (.bool false)) bs bc g cap N { s with x := a, y := b, pend := false } :=
  ((h.setX a).setY b).setPend false
theorem keep_xyp (w : World) (bs : Nat) (a b c : Value) : Keep (fun i => i = bs) w (((w.setCell ⟨bs, 3, none⟩ a).setCell ⟨bs, 4, none⟩ b).setCell ⟨bs, 5, none⟩ c) :=
  (((Keep.refl (fun i => i = bs) w).setCell ⟨bs, 3, none⟩ a (fun _ => rfl)).setCell ⟨bs, 4, none⟩ b (fun _ => rfl)).setCell ⟨bs, 5, none⟩ c (fun _ => rfl)
theorem RefAt.drewN (h : RefAt w bs bc g cap N s) (n : Nat) : RefAt (w.drewN n) bs bc g cap N s := h.same rfl rfl rfl
end
/-- What a call leaves: a result, and the screen. -/
def RPost (bs bc g : Nat) (w : World) (s : Rs) (r : Value) (e : Ending) (w' : World) : Prop :=
  ∃ g' cap' N', e = .returned r ∧ RefAt w' bs bc g' cap' N' s ∧ Keep (fun i => i = bs ∨ i = bc ∨ i = g) w w' ∧ (g' = g ∨ w.heap.size ≤ g')
theorem rpost {bs bc g g' cap' N' : Nat} {w w' : World} {s : Rs} {r : Value} (h : RefAt w' bs bc g' cap' N' s) (k : Keep (fun i => i = bs ∨ i = bc ∨ i = g) w w') (hg : g' = g ∨ w.heap.size ≤ g') : RPost bs bc g w s r (.returned r) w' := ⟨g', cap', N', rfl, h, k, hg⟩
end Go.Proofs.YtjlfibhbfdckpaaGreatDoor

/- The document's screen: put. -/
namespace Go.Proofs.YtjlfibhbfdckpaaGreatDoor
open Wd (wd)
/-- The letter that is put, and its width, on a screen of W columns. -/
def effR (W : Nat) (r : Int) : Int := if wd r = 2 ∧ W = 1 then 32 else r
def effW (W : Nat) (r : Int) : Int := if wd r = 2 ∧ W = 1 then 1 else wd r
/-- Does the letter begin a line? -/
def wraps (s : Rs) (k : Int) : Bool := s.pend || (decide (k = 2) && decide (s.x = (s.W : Int) - 1))
def brokenR (s : Rs) (k : Int) : Rs := if wraps s k = true then linefeedR { s with x := 0 } else s
def writeR (s : Rs) (r : Int) : Rs := { s with G := writeG s.W s.H s.G s.x s.y r s.pen }
def stepR (s : Rs) (k : Int) : Rs := if (s.W : Int) ≤ s.x + k then { s with x := (s.W : Int) - 1, pend := true } else { s with x := s.x + k }
def putR (s : Rs) (r : Int) : Rs :=
  if wd r = 0 then { s with odd := Go.RowKit.wrap64 (s.odd + 1) } else stepR (writeR (brokenR s (effW s.W r)) (effR s.W r)) (effW s.W r)
theorem ok_x0' {s : Rs} (h : s.Ok) : Rs.Ok { ({ s with x := 0 } : Rs) with pend := false } := ⟨h.w1, h.w2, h.h1, h.h2, Int.le_refl 0, by have := h.w1; show (0 : Int) < s.W; omega, h.y0, h.y1, h.t0, h.tb, h.b1, (fun q => by cases q), h.wf⟩
theorem Rs.Ok.goes {s : Rs} (h : s.Ok) (x y : Int) : (goesR s x y).Ok := by
  have a := clampI_in x s.W h.w1
  have b := clampI_in y s.H h.h1
  exact ⟨h.w1, h.w2, h.h1, h.h2, a.1, a.2, b.1, b.2, h.t0, h.tb, h.b1, (fun q => by cases q), h.wf⟩
theorem ok_scroll {s : Rs} (h : s.Ok) (n : Int) (p : Pn) : Rs.Ok { s with G := scrollG s.top s.bot n p s.G } :=
  ⟨h.w1, h.w2, h.h1, h.h2, h.x0, h.x1, h.y0, h.y1, h.t0, h.tb, h.b1, h.pd, h.wf.scroll _ _ _ _ h.t0 h.b1⟩
theorem ok_pend {s : Rs} (h : s.Ok) : Rs.Ok { s with pend := false } :=
  ⟨h.w1, h.w2, h.h1, h.h2, h.x0, h.x1, h.y0, h.y1, h.t0, h.tb, h.b1, (fun q => by cases q), h.wf⟩
/-- The cursor at column 0, whatever is pending. -/
theorem ok_lf {s : Rs} (h : s.Ok) : (linefeedR { s with x := 0 }).Ok := by
  have hx : (0 : Int) < s.W := by have := h.w1; omega
  unfold linefeedR
  split
  · exact ⟨h.w1, h.w2, h.h1, h.h2, Int.le_refl 0, hx, h.y0, h.y1, h.t0, h.tb, h.b1, (fun q => by cases q), h.wf.scroll _ _ _ _ h.t0 h.b1⟩
  · have a := clampI_in 0 s.W h.w1
    have b := clampI_in (s.y + 1) s.H h.h1
    exact ⟨h.w1, h.w2, h.h1, h.h2, a.1, a.2, b.1, b.2, h.t0, h.tb, h.b1, (fun q => by cases q), h.wf⟩
theorem Rs.Ok.lf {s : Rs} (h : s.Ok) : (linefeedR s).Ok := by
  unfold linefeedR
  split
  · exact ok_pend (ok_scroll h 1 (backR s))
  · exact h.goes _ _
theorem Rs.Ok.broken {s : Rs} (h : s.Ok) (k : Int) : (brokenR s k).Ok := by
  unfold brokenR
  split
  · exact ok_lf h
  · exact h
end Go.Proofs.YtjlfibhbfdckpaaGreatDoor

/- The document's screen: pens. -/
namespace Go.Proofs.YtjlfibhbfdckpaaGreatDoor
/-- What a number of m does to a pen. -/
def penN (p : Pn) (n : Int) : Pn :=
  if n = 0 then Pn.plain else if n = 1 then { p with bo := true } else if n = 22 then { p with bo := false }
  else if n = 4 then { p with un := true } else if n = 24 then { p with un := false }
  else if n = 7 then { p with re := true } else if n = 27 then { p with re := false }
  else if n = 39 then { p with f := 0 } else if n = 49 then { p with b := 0 }
  else if 30 ≤ n ∧ n ≤ 37 then { p with f := n - 29 } else if 40 ≤ n ∧ n ≤ 47 then { p with b := n - 39 } else p
def penR (s : Rs) (n : Int) : Rs := { s with pen := penN s.pen n }
theorem Rs.Ok.penR {s : Rs} (h : s.Ok) (n : Int) : (penR s n).Ok := ⟨h.w1, h.w2, h.h1, h.h2, h.x0, h.x1, h.y0, h.y1, h.t0, h.tb, h.b1, h.pd, h.wf⟩
theorem RefAt.setPen {w : World} {bs bc g cap N : Nat} {s : Rs} (h : RefAt w bs bc g cap N s) (n : Pn) : RefAt (((((w.setCell ⟨bs, 6, none⟩ (.int .i64 n.f)).setCell ⟨bs, 7, none⟩ (.int .i64 n.b)).setCell ⟨bs, 8, none⟩ (.bool n.bo)).setCell ⟨bs, 9, none⟩ (.bool n.un)).setCell ⟨bs, 10, none⟩ (.bool n.re)) bs bc g cap N { s with pen := n } :=
  ((((h.store 6 _ { s with pen := { s.pen with f := n.f } } rfl rfl rfl rfl).store 7 _ { s with pen := { s.pen with f := n.f, b := n.b } } rfl rfl rfl rfl).store 8 _ { s with pen := { s.pen with f := n.f, b := n.b, bo := n.bo } } rfl rfl rfl rfl).store 9 _ { s with pen := { s.pen with f := n.f, b := n.b, bo := n.bo, un := n.un } } rfl rfl rfl rfl).store 10 _ { s with pen := n } rfl rfl rfl rfl
theorem keep_pen {F : Nat → Prop} {w w' : World} (h : Keep F w w') (bs : Nat) (hF : F bs) (a b c d e : Value) : Keep F w (((((w'.setCell ⟨bs, 6, none⟩ a).setCell ⟨bs, 7, none⟩ b).setCell ⟨bs, 8, none⟩ c).setCell ⟨bs, 9, none⟩ d).setCell ⟨bs, 10, none⟩ e) :=
  ((((h.setCell ⟨bs, 6, none⟩ a (fun _ => hF)).setCell ⟨bs, 7, none⟩ b (fun _ => hF)).setCell ⟨bs, 8, none⟩ c (fun _ => hF)).setCell ⟨bs, 9, none⟩ d (fun _ => hF)).setCell ⟨bs, 10, none⟩ e (fun _ => hF)
theorem pen_done {w : World} {bs bc g cap N : Nat} {s : Rs} (h : RefAt w bs bc g cap N s) (n : Int) (pp : Pn) (hp : penN s.pen n = pp) (arr : Array Value) (t : TypeId) :
    RPost bs bc g w (penR s n) (.tuple #[]) (.returned (.tuple #[])) ((((((w.setCell ⟨bs, 6, none⟩ (.int .i64 pp.f)).setCell ⟨bs, 7, none⟩ (.int .i64 pp.b)).setCell ⟨bs, 8, none⟩ (.bool pp.bo)).setCell ⟨bs, 9, none⟩ (.bool pp.un)).setCell ⟨bs, 10, none⟩ (.bool pp.re)).alloc (.cells arr t)) := by
  have e : penR s n = { s with pen := pp } := by unfold penR; rw [hp]
  rw [e]
  exact rpost ((h.setPen pp).below ((Go.RowKit.Below.refl _ _).alloc (Nat.le_refl _) _)) ((keep_pen (Keep.refl _ w) bs (.inl rfl) _ _ _ _ _).alloc _) (.inl rfl)
end Go.Proofs.YtjlfibhbfdckpaaGreatDoor

/- The document's screen: erasing. -/
namespace Go.Proofs.YtjlfibhbfdckpaaGreatDoor
open Wd (wd)
/-- Which cells are erased. -/
def eraB (how : Int) (all : Bool) (X Y : Int) : Nat → Nat → Bool := fun a b =>
  (decide (how = 2) || (decide (how = 0) && (decide (Y < b) || (decide ((b : Int) = Y) && decide (X ≤ a)))) || (decide (how = 1) && (decide ((b : Int) < Y) || (decide ((b : Int) = Y) && decide ((a : Int) ≤ X))))) && (all || decide ((b : Int) = Y))
/-- The first m cells have been looked at. -/
def eraTo (s : Rs) (how : Int) (all : Bool) (m : Nat) : Nat → Nat → Cel := wrt s.G (fun a b => eraB how all s.x s.y a b && decide (b * s.W + a < m)) (fun _ _ => blk (backR s))
def eraR (s : Rs) (how : Int) (all : Bool) : Rs := { s with G := wrt s.G (eraB how all s.x s.y) (fun _ _ => blk (backR s)) }
theorem era_no {s : Rs} (hwf : Wf s.W s.H s.G) (how : Int) (all : Bool) {x y : Nat} (hx : x < s.W) (h : eraB how all s.x s.y x y = false) : EqOn s.W s.H (eraTo s how all (y * s.W + x)) (eraTo s how all (y * s.W + x + 1)) := by
  unfold eraTo
  refine wr_dom hwf (fun a b ha hb => ?_) (fun _ _ _ _ _ => rfl)
  by_cases e : b * s.W + a = y * s.W + x
  · obtain ⟨rfl, rfl⟩ := place_inj ha hx e
    rw [h]; rfl
  · rw [Bool.eq_iff_iff]
    simp
    intro _
    omega
theorem era_yes {s : Rs} (hwf : Wf s.W s.H s.G) (how : Int) (all : Bool) {x y : Nat} (hx : x < s.W) (h : eraB how all s.x s.y x y = true) : EqOn s.W s.H (wrt (eraTo s how all (y * s.W + x)) (pt x y) (fun _ _ => blk (backR s))) (eraTo s how all (y * s.W + x + 1)) := by
  unfold eraTo
  rw [wr_wr _ _ _ _ _ (fun _ _ _ _ => rfl)]
  refine wr_dom hwf (fun a b ha hb => ?_) (fun a b _ _ _ => by simp)
  by_cases e : a = x ∧ b = y
  · obtain ⟨rfl, rfl⟩ := e
    simp [h, pt]
  · have e' : b * s.W + a ≠ y * s.W + x := fun q => e (place_inj ha hx q)
    have hp : pt x y a b = false := by
      cases hq : pt x y a b with
      | false => rfl
      | true => exact absurd (pt_iff.1 hq) e
    rw [hp, Bool.or_false, Bool.eq_iff_iff]
    simp
    intro _
    omega
theorem era_all {s : Rs} (hwf : Wf s.W s.H s.G) (how : Int) (all : Bool) : EqOn s.W s.H (eraTo s how all (s.H * s.W)) (eraR s how all).G := by
  unfold eraTo eraR
  refine wr_dom hwf (fun a b ha hb => ?_) (fun _ _ _ _ _ => rfl)
  have := place_lt ha hb
  simp [this]
theorem era_none (s : Rs) (how : Int) (all : Bool) : eraTo s how all 0 = s.G := by
  unfold eraTo; exact wr_none _ _ _ (fun a b => by simp)
theorem era_wf {s : Rs} (hwf : Wf s.W s.H s.G) (how : Int) (all : Bool) (m : Nat) : Wf s.W s.H (eraTo s how all m) := hwf.blk _ _
theorem Rs.Ok.era {s : Rs} (h : s.Ok) (how : Int) (all : Bool) : (eraR s how all).Ok := ⟨h.w1, h.w2, h.h1, h.h2, h.x0, h.x1, h.y0, h.y1, h.t0, h.tb, h.b1, h.pd, h.wf.blk _ _⟩
end Go.Proofs.YtjlfibhbfdckpaaGreatDoor

/- The numbers of a sequence: plain mathematics, and rows of integers. -/
namespace Go.Proofs.YtjlfibhbfdckpaaGreatDoor
open Go.RowKit
/-- The last number of a list is another one. -/
def setLast (l : List Int) (v : Int) : List Int := l.set (l.length - 1) v
def lastOf (l : List Int) : Int := l.getD (l.length - 1) 0
def capN (n : Int) : Int := if 9999 < n then 9999 else n
def begunL (l : List Int) : List Int := if l = [] then [0] else l
/-- One byte of a sequence; none: it is bad. -/
def numStep (l : List Int) (c : Int) : Option (List Int) :=
  if c = 59 then some (begunL l ++ [0]) else if 48 ≤ c ∧ c ≤ 57 then some (setLast (begunL l) (capN (10 * lastOf (begunL l) + (c - 48)))) else none
def numsTo : List UInt8 → List Int → Option (List Int)
  | [], l => some l
  | c :: r, l => match numStep l c.toNat with
    | none => none
    | some k => numsTo r k
def nums (b : ByteArray) : Option (List Int) := numsTo b.data.toList []
theorem numsTo_append (a b : List UInt8) (l : List Int) : numsTo (a ++ b) l = match numsTo a l with
    | none => none
    | some k => numsTo b k := by
  induction a generalizing l with
  | nil => rfl
  | cons c r ih =>
    simp only [List.cons_append, numsTo]
    cases numStep l c.toNat with
    | none => rfl
    | some k => exact ih k
theorem numsTo_snoc (a : List UInt8) (c : UInt8) (l k : List Int) (h : numsTo a l = some k) : numsTo (a ++ [c]) l = numStep k c.toNat := by
  rw [numsTo_append, h]
  simp only [numsTo]
  cases numStep k c.toNat <;> rfl
theorem take_snoc (s : ByteArray) (k : Nat) (h : k < s.size) : s.data.toList.take (k + 1) = s.data.toList.take k ++ [s[k]] := by
  rw [List.take_succ_eq_append_getElem (by simpa using h)]; rfl
theorem nums_bad (b : ByteArray) (k : Nat) (hk : k < b.size) (l : List Int) (h : numsTo (b.data.toList.take k) [] = some l) (hb : numStep l b[k].toNat = none) : nums b = none := by
  unfold nums
  rw [← List.take_append_drop (k + 1) b.data.toList, take_snoc b k hk, numsTo_append, numsTo_snoc _ _ _ _ h, hb]
/-- Numbers stay small. -/
def Small (l : List Int) : Prop := ∀ i, 0 ≤ l.getD i 0 ∧ l.getD i 0 ≤ 9999
theorem small_nil : Small [] := fun i => by simp
theorem small_begun {l : List Int} (h : Small l) : Small (begunL l) := by
  unfold begunL
  split
  · intro i; cases i <;> simp
  · exact h
theorem small_snoc {l : List Int} (h : Small l) : Small (l ++ [0]) := by
  intro i
  have := h i
  simp only [List.getD_eq_getElem?_getD] at *
  by_cases hi : i < l.length
  · rw [List.getElem?_append_left hi]; exact this
  · rw [List.getElem?_append_right (by omega)]
    cases i - l.length <;> simp
theorem small_set {l : List Int} (h : Small l) (j : Nat) (v : Int) (h0 : 0 ≤ v) (h1 : v ≤ 9999) : Small (l.set j v) := by
  intro i
  have := h i
  simp only [List.getD_eq_getElem?_getD, List.getElem?_set] at *
  by_cases e : j = i
  · subst e
    by_cases hj : j < l.length
    · simp [hj, h0, h1]
    · simp [hj]
  · simp [e]; exact this
theorem begun_len (l : List Int) : 1 ≤ (begunL l).length := by
  unfold begunL
  split
  · simp
  · cases l with
    | nil => simp_all
    | cons => simp
/-- Integers as values. -/
def ivals (l : List Int) : List Value := l.map (fun n => Value.int .i64 n)
theorem ivals_append (a b : List Int) : ivals (a ++ b) = ivals a ++ ivals b := by simp [ivals]
theorem irow_cell {w : World} {base g n cap : Nat} {l : List Int} {t : TypeId} (h : w.ownsRow base t 1 (.slice (some ⟨g, 0, none⟩) n cap) n (ivals l)) (i : Nat) (hi : i < l.length) : w.cell? ⟨g, i, none⟩ = some (.int .i64 (l.getD i 0)) := by
  obtain ⟨hl, h | ⟨g', cap', cur, hv, hb, hg, hn, hm, hs, ht⟩⟩ := h
  · simp at h
  · simp at hv
    obtain ⟨rfl, rfl⟩ := hv
    rw [cell_of_block hg]
    have a : (ivals l)[i]? = some (.int .i64 (l.getD i 0)) := by
      simp [ivals, hi]
    rw [← ht] at a
    have hlt : i < n * 1 := by simp [ivals] at hl; omega
    rw [List.getElem?_take_of_lt hlt] at a
    simpa using a
theorem irow_free {w : World} {base g n cap : Nat} {xs : List Value} {t : TypeId} (h : w.ownsRow base t 1 (.slice (some ⟨g, 0, none⟩) n cap) n xs) (o : Nat) : w.frozen? ⟨g, o, none⟩ = false := by
  obtain ⟨hl, h | ⟨g', cap', cur, hv, hb, hg, hn, hm, hs, ht⟩⟩ := h
  · simp at h
  · simp at hv
    obtain ⟨rfl, rfl⟩ := hv
    exact frozen_of_block hg o
theorem irow_set {w : World} {base g n cap : Nat} {l : List Int} {t : TypeId} (h : w.ownsRow base t 1 (.slice (some ⟨g, 0, none⟩) n cap) n (ivals l)) (i : Nat) (v : Int) : (w.setCell ⟨g, i, none⟩ (.int .i64 v)).ownsRow base t 1 (.slice (some ⟨g, 0, none⟩) n cap) n (ivals (l.set i v)) := by
  obtain ⟨hl, h | ⟨g', cap', cur, hv, hb, hg, hn, hm, hs, ht⟩⟩ := h
  · simp at h
  · simp at hv
    obtain ⟨rfl, rfl⟩ := hv
    refine ⟨by simp [ivals] at hl ⊢; exact hl, .inr ⟨g, cap, cur.setIfInBounds i (.int .i64 v), rfl, hb, heap_set_same hg _ _, hn, hm, by simpa using hs, ?_⟩⟩
    have e : ivals (l.set i v) = (ivals l).set i (.int .i64 v) := by simp [ivals, List.map_set]
    rw [e, ← ht]
    simp [List.take_set]
theorem irow_same {w w' : World} {base : Nat} {v : Value} {n : Nat} {xs : List Value} {t : TypeId} (h : w.ownsRow base t 1 v n xs) (hb : ∀ g, v.ownBlock = some g → w'.heap[g]? = w.heap[g]?) : w'.ownsRow base t 1 v n xs := by
  obtain ⟨hl, h | ⟨g', cap', cur, rfl, hb', hg, rest⟩⟩ := h
  · exact ⟨hl, .inl h⟩
  · exact ⟨hl, .inr ⟨g', cap', cur, rfl, hb', by rw [hb g' rfl]; exact hg, rest⟩⟩
end Go.Proofs.YtjlfibhbfdckpaaGreatDoor
