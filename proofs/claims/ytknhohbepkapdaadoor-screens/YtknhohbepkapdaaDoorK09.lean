/- Texts of the proof, one behind the other: PsA, PsB, PsC, PsD. -/
import Derived.Test.YtknhohbepkapdaaDoorK08
import Derived.Deep.RegionWith
/- The program's screen: what it is in memory. -/
namespace Go.Proofs.YtknhohbepkapdaaDoor
open Go.RowKit
/-- What the program knows of a letter or a sequence that is begun: the mode, the bytes and their count, the numbers and their count, bad. -/
structure Pt where
  mode : Int
  by4 : Nat → Int
  bn : Int
  nm : Nat → Int
  cn : Int
  bad : Bool
abbrev prArr (bg : Nat) (s : Rs) (t : Pt) : Array Value := #[.pointer (some ⟨bg, 0, none⟩), .int .i64 s.x, .int .i64 s.y, .bool s.pend, .int .i64 s.pen.f, .int .i64 s.pen.b, .bool s.pen.bo, .bool s.pen.un, .bool s.pen.re, .int .i64 s.top, .int .i64 s.bot, .int .i64 t.mode, .int .u8 (t.by4 0), .int .u8 (t.by4 1), .int .u8 (t.by4 2), .int .u8 (t.by4 3), .int .i64 t.bn, .int .i64 (t.nm 0), .int .i64 (t.nm 1), .int .i64 (t.nm 2), .int .i64 (t.nm 3), .int .i64 (t.nm 4), .int .i64 (t.nm 5), .int .i64 (t.nm 6), .int .i64 (t.nm 7), .int .i64 t.cn, .bool t.bad]
/-- The program's screen lies in blocks bs, bg, g. -/
structure PrAt (w : World) (bs bg g N : Nat) (s : Rs) (t : Pt) : Prop where
  blk : w.heap[bs]? = some (.cells (prArr bg s t) 82)
  gr : GrAt w bg g s.W s.H N s.G
  ne1 : bs ≠ bg
  ne2 : bs ≠ g
section
variable {w w' : World} {bs bg g N : Nat} {s : Rs} {t : Pt}
theorem PrAt.lt (h : PrAt w bs bg g N s t) : bs < w.heap.size := (Array.getElem?_eq_some_iff.1 h.blk).1
theorem PrAt.same (h : PrAt w bs bg g N s t) (h1 : w'.heap[bs]? = w.heap[bs]?) (h2 : w'.heap[bg]? = w.heap[bg]?) (h3 : w'.heap[g]? = w.heap[g]?) : PrAt w' bs bg g N s t :=
  ⟨by rw [h1]; exact h.blk, h.gr.same h2 h3, h.ne1, h.ne2⟩
theorem PrAt.below (h : PrAt w bs bg g N s t) (hb : Below w.heap.size w w') : PrAt w' bs bg g N s t :=
  h.same (hb.block _ h.lt) (hb.block _ h.gr.lt) (hb.block _ h.gr.glt)
theorem PrAt.free (h : PrAt w bs bg g N s t) : ∀ o, w.frozen? ⟨bs, o, none⟩ = false := frozen_of_block h.blk
theorem PrAt.drew (h : PrAt w bs bg g N s t) : PrAt w.drew bs bg g N s t := h.same rfl rfl rfl
theorem PrAt.drewN (h : PrAt w bs bg g N s t) (n : Nat) : PrAt (w.drewN n) bs bg g N s t := h.same rfl rfl rfl
theorem PrAt.store (h : PrAt w bs bg g N s t) (o : Nat) (v : Value) (s' : Rs) (t' : Pt) (hs : (prArr bg s t).setIfInBounds o v = prArr bg s' t') (hW : s'.W = s.W) (hH : s'.H = s.H) (hG : s'.G = s.G) : PrAt (w.setCell ⟨bs, o, none⟩ v) bs bg g N s' t' := by
  refine ⟨?_, ?_, h.ne1, h.ne2⟩
  · rw [heap_set_same h.blk, hs]
  · rw [hW, hH, hG]
    exact h.gr.same (Below.heap_setCell _ _ _ _ (fun e => h.ne1 e.symm)) (Below.heap_setCell _ _ _ _ (fun e => h.ne2 e.symm))
/-- The cells change, and nothing else. -/
theorem PrAt.cells {g' N' : Nat} (h : PrAt w bs bg g N s t) (s' : Rs) (hb : w'.heap[bs]? = w.heap[bs]?) (hc : GrAt w' bg g' s'.W s'.H N' s'.G) (hs : prArr bg s' t = prArr bg s t) (hg : bs ≠ g') : PrAt w' bs bg g' N' s' t :=
  ⟨by rw [hb, hs]; exact h.blk, hc, h.ne1, hg⟩
theorem PrAt.congr (h : PrAt w bs bg g N s t) (s' : Rs) (hs : prArr bg s' t = prArr bg s t) (hW : s'.W = s.W) (hH : s'.H = s.H) (hG : EqOn s.W s.H s.G s'.G) : PrAt w bs bg g N s' t :=
  ⟨by rw [hs]; exact h.blk, by rw [hW, hH]; exact h.gr.congr hG, h.ne1, h.ne2⟩
theorem PrAt.f0 (h : PrAt w bs bg g N s t) : w.cell? ⟨bs, 0, none⟩ = some (.pointer (some ⟨bg, 0, none⟩)) := cell_of_block h.blk 0
theorem PrAt.f1 (h : PrAt w bs bg g N s t) : w.cell? ⟨bs, 1, none⟩ = some (.int .i64 s.x) := cell_of_block h.blk 1
theorem PrAt.f2 (h : PrAt w bs bg g N s t) : w.cell? ⟨bs, 2, none⟩ = some (.int .i64 s.y) := cell_of_block h.blk 2
theorem PrAt.f3 (h : PrAt w bs bg g N s t) : w.cell? ⟨bs, 3, none⟩ = some (.bool s.pend) := cell_of_block h.blk 3
theorem PrAt.f4 (h : PrAt w bs bg g N s t) : w.cell? ⟨bs, 4, none⟩ = some (.int .i64 s.pen.f) := cell_of_block h.blk 4
theorem PrAt.f5 (h : PrAt w bs bg g N s t) : w.cell? ⟨bs, 5, none⟩ = some (.int .i64 s.pen.b) := cell_of_block h.blk 5
theorem PrAt.f6 (h : PrAt w bs bg g N s t) : w.cell? ⟨bs, 6, none⟩ = some (.bool s.pen.bo) := cell_of_block h.blk 6
theorem PrAt.f7 (h : PrAt w bs bg g N s t) : w.cell? ⟨bs, 7, none⟩ = some (.bool s.pen.un) := cell_of_block h.blk 7
theorem PrAt.f8 (h : PrAt w bs bg g N s t) : w.cell? ⟨bs, 8, none⟩ = some (.bool s.pen.re) := cell_of_block h.blk 8
theorem PrAt.f9 (h : PrAt w bs bg g N s t) : w.cell? ⟨bs, 9, none⟩ = some (.int .i64 s.top) := cell_of_block h.blk 9
theorem PrAt.f10 (h : PrAt w bs bg g N s t) : w.cell? ⟨bs, 10, none⟩ = some (.int .i64 s.bot) := cell_of_block h.blk 10
theorem PrAt.f11 (h : PrAt w bs bg g N s t) : w.cell? ⟨bs, 11, none⟩ = some (.int .i64 t.mode) := cell_of_block h.blk 11
theorem PrAt.f12 (h : PrAt w bs bg g N s t) : w.cell? ⟨bs, 12, none⟩ = some (.int .u8 (t.by4 0)) := cell_of_block h.blk 12
theorem PrAt.f13 (h : PrAt w bs bg g N s t) : w.cell? ⟨bs, 13, none⟩ = some (.int .u8 (t.by4 1)) := cell_of_block h.blk 13
theorem PrAt.f14 (h : PrAt w bs bg g N s t) : w.cell? ⟨bs, 14, none⟩ = some (.int .u8 (t.by4 2)) := cell_of_block h.blk 14
theorem PrAt.f15 (h : PrAt w bs bg g N s t) : w.cell? ⟨bs, 15, none⟩ = some (.int .u8 (t.by4 3)) := cell_of_block h.blk 15
theorem PrAt.f16 (h : PrAt w bs bg g N s t) : w.cell? ⟨bs, 16, none⟩ = some (.int .i64 t.bn) := cell_of_block h.blk 16
theorem PrAt.f17 (h : PrAt w bs bg g N s t) : w.cell? ⟨bs, 17, none⟩ = some (.int .i64 (t.nm 0)) := cell_of_block h.blk 17
theorem PrAt.f18 (h : PrAt w bs bg g N s t) : w.cell? ⟨bs, 18, none⟩ = some (.int .i64 (t.nm 1)) := cell_of_block h.blk 18
theorem PrAt.f19 (h : PrAt w bs bg g N s t) : w.cell? ⟨bs, 19, none⟩ = some (.int .i64 (t.nm 2)) := cell_of_block h.blk 19
theorem PrAt.f20 (h : PrAt w bs bg g N s t) : w.cell? ⟨bs, 20, none⟩ = some (.int .i64 (t.nm 3)) := cell_of_block h.blk 20
theorem PrAt.f21 (h : PrAt w bs bg g N s t) : w.cell? ⟨bs, 21, none⟩ = some (.int .i64 (t.nm 4)) := cell_of_block h.blk 21
theorem PrAt.f22 (h : PrAt w bs bg g N s t) : w.cell? ⟨bs, 22, none⟩ = some (.int .i64 (t.nm 5)) := cell_of_block h.blk 22
theorem PrAt.f23 (h : PrAt w bs bg g N s t) : w.cell? ⟨bs, 23, none⟩ = some (.int .i64 (t.nm 6)) := cell_of_block h.blk 23
theorem PrAt.f24 (h : PrAt w bs bg g N s t) : w.cell? ⟨bs, 24, none⟩ = some (.int .i64 (t.nm 7)) := cell_of_block h.blk 24
theorem PrAt.f25 (h : PrAt w bs bg g N s t) : w.cell? ⟨bs, 25, none⟩ = some (.int .i64 t.cn) := cell_of_block h.blk 25
theorem PrAt.f26 (h : PrAt w bs bg g N s t) : w.cell? ⟨bs, 26, none⟩ = some (.bool t.bad) := cell_of_block h.blk 26
theorem PrAt.setX (h : PrAt w bs bg g N s t) (v : Int) : PrAt (w.setCell ⟨bs, 1, none⟩ (.int .i64 v)) bs bg g N { s with x := v } t := h.store 1 _ _ _ rfl rfl rfl rfl
theorem PrAt.setY (h : PrAt w bs bg g N s t) (v : Int) : PrAt (w.setCell ⟨bs, 2, none⟩ (.int .i64 v)) bs bg g N { s with y := v } t := h.store 2 _ _ _ rfl rfl rfl rfl
theorem PrAt.setPend (h : PrAt w bs bg g N s t) (v : Bool) : PrAt (w.setCell ⟨bs, 3, none⟩ (.bool v)) bs bg g N { s with pend := v } t := h.store 3 _ _ _ rfl rfl rfl rfl
theorem PrAt.setTop (h : PrAt w bs bg g N s t) (v : Int) : PrAt (w.setCell ⟨bs, 9, none⟩ (.int .i64 v)) bs bg g N { s with top := v } t := h.store 9 _ _ _ rfl rfl rfl rfl
theorem PrAt.setBot (h : PrAt w bs bg g N s t) (v : Int) : PrAt (w.setCell ⟨bs, 10, none⟩ (.int .i64 v)) bs bg g N { s with bot := v } t := h.store 10 _ _ _ rfl rfl rfl rfl
theorem PrAt.setMode (h : PrAt w bs bg g N s t) (v : Int) : PrAt (w.setCell ⟨bs, 11, none⟩ (.int .i64 v)) bs bg g N s { t with mode := v } := h.store 11 _ _ _ rfl rfl rfl rfl
theorem PrAt.setBn (h : PrAt w bs bg g N s t) (v : Int) : PrAt (w.setCell ⟨bs, 16, none⟩ (.int .i64 v)) bs bg g N s { t with bn := v } := h.store 16 _ _ _ rfl rfl rfl rfl
theorem PrAt.setCn (h : PrAt w bs bg g N s t) (v : Int) : PrAt (w.setCell ⟨bs, 25, none⟩ (.int .i64 v)) bs bg g N s { t with cn := v } := h.store 25 _ _ _ rfl rfl rfl rfl
theorem PrAt.setBad (h : PrAt w bs bg g N s t) (v : Bool) : PrAt (w.setCell ⟨bs, 26, none⟩ (.bool v)) bs bg g N s { t with bad := v } := h.store 26 _ _ _ rfl rfl rfl rfl
theorem PrAt.byte (h : PrAt w bs bg g N s t) (i : Nat) (hi : i < 4) : w.cell? ⟨bs, 12 + i, none⟩ = some (.int .u8 (t.by4 i)) := by
  match i, hi with
  | 0, _ => exact h.f12
  | 1, _ => exact h.f13
  | 2, _ => exact h.f14
  | 3, _ => exact h.f15
def updI (f : Nat → Int) (i : Nat) (v : Int) : Nat → Int := fun j => if j = i then v else f j
theorem PrAt.setByte (h : PrAt w bs bg g N s t) (i : Nat) (hi : i < 4) (v : Int) : PrAt (w.setCell ⟨bs, 12 + i, none⟩ (.int .u8 v)) bs bg g N s { t with by4 := updI t.by4 i v } := by
  match i, hi with
  | 0, _ => exact h.store 12 _ _ _ rfl rfl rfl rfl
  | 1, _ => exact h.store 13 _ _ _ rfl rfl rfl rfl
  | 2, _ => exact h.store 14 _ _ _ rfl rfl rfl rfl
  | 3, _ => exact h.store 15 _ _ _ rfl rfl rfl rfl
theorem PrAt.num (h : PrAt w bs bg g N s t) (i : Nat) (hi : i < 8) : w.cell? ⟨bs, 17 + i, none⟩ = some (.int .i64 (t.nm i)) := by
  match i, hi with
  | 0, _ => exact h.f17
  | 1, _ => exact h.f18
  | 2, _ => exact h.f19
  | 3, _ => exact h.f20
  | 4, _ => exact h.f21
  | 5, _ => exact h.f22
  | 6, _ => exact h.f23
  | 7, _ => exact h.f24
theorem PrAt.setNum (h : PrAt w bs bg g N s t) (i : Nat) (hi : i < 8) (v : Int) : PrAt (w.setCell ⟨bs, 17 + i, none⟩ (.int .i64 v)) bs bg g N s { t with nm := updI t.nm i v } := by
  match i, hi with
  | 0, _ => exact h.store 17 _ _ _ rfl rfl rfl rfl
  | 1, _ => exact h.store 18 _ _ _ rfl rfl rfl rfl
  | 2, _ => exact h.store 19 _ _ _ rfl rfl rfl rfl
  | 3, _ => exact h.store 20 _ _ _ rfl rfl rfl rfl
  | 4, _ => exact h.store 21 _ _ _ rfl rfl rfl rfl
  | 5, _ => exact h.store 22 _ _ _ rfl rfl rfl rfl
  | 6, _ => exact h.store 23 _ _ _ rfl rfl rfl rfl
  | 7, _ => exact h.store 24 _ _ _ rfl rfl rfl rfl
end
/-- What a call leaves: a result, and the screen. -/
def PPost (bs bg g : Nat) (w : World) (s : Rs) (t : Pt) (r : Value) (e : Ending) (w' : World) : Prop :=
  ∃ g' N', e = .returned r ∧ PrAt w' bs bg g' N' s t ∧ Keep (fun i => i = bs ∨ i = bg ∨ i = g) w w' ∧ (g' = g ∨ w.heap.size ≤ g')
theorem clamp_between (v : Int) {m : Nat} (h : 1 ≤ m) : betweenI v 0 ((m : Int) - 1) = clampI v m := by
  unfold betweenI greatestI leastI clampI
  split <;> split <;> split <;> omega
/-- The cells' block stays where it is in every call but Resize. -/
def SPost (bs bg g N : Nat) (w : World) (s : Rs) (t : Pt) (r : Value) (e : Ending) (w' : World) : Prop :=
  e = .returned r ∧ PrAt w' bs bg g N s t ∧ Keep (fun i => i = bs ∨ i = bg ∨ i = g) w w'
end Go.Proofs.YtknhohbepkapdaaDoor

/- The program's screen: eraser, goTo, scroll, erase, lineFeed. -/
namespace Go.Proofs.YtknhohbepkapdaaDoor
open Go.RowKit
attribute [local go_sem ↓] Go.wp_at_zero Go.wp_at_succ
theorem sEraser (bs bg g N : Nat) (s : Rs) (t : Pt) (w : World) (h : PrAt w bs bg g N s t) :
    Calls Tryd.prog 104 #[.pointer (some ⟨bs, 0, none⟩)] w fun e w' => e = .returned (backR s).agg ∧ Below w.heap.size w w' := by
  have c := h.f5
  have l := h.lt
  clear h
  go_enter Tryd.func104, Tryd.ntmps104
  go_wp2
  exact bodyPost_ret (v := (backR s).agg) (by simp [results, Tryd.results104, go_sem, backR]) rfl ⟨rfl, (Below.refl _ _).alloc (Nat.le_refl _) _⟩
set_option maxHeartbeats 1000000 in
theorem sGoTo (bs bg g N : Nat) (s : Rs) (t : Pt) (x y : Int) (w : World) (h : PrAt w bs bg g N s t) :
    Calls Tryd.prog 45 #[.pointer (some ⟨bs, 0, none⟩), .int .i64 x, .int .i64 y] w (SPost bs bg g N w (goesR s x y) t (.tuple #[])) := by
  have HP : Hid (PrAt w bs bg g N s t) := h
  have c0 := h.f0
  have c1 := h.f1
  have c2 := h.f2
  have c3 := h.f3
  have fz := h.free
  have w1 := h.gr.w1
  have w2 := h.gr.w2
  have h1 := h.gr.h1
  have h2 := h.gr.h2
  have hbw := clamp_between x w1
  have hbh := clamp_between y h1
  clear h
  go_enter Tryd.func45, Tryd.ntmps45
  go_wp2_with (first | (go_at_call 46; refine (pWidth bg g s.W s.H N s.G _ HP.out.gr).mono ?_; rintro e w' ⟨rfl, hw'⟩; replace hw' := hw'.symm; subst hw') | (go_at_call 69; refine (pBetween _ _ _ _).mono ?_; rintro e w' ⟨rfl, hw'⟩; replace hw' := hw'.symm; subst hw'))
  have HP1 : Hid (PrAt (w.setCell ⟨bs, 1, none⟩ (.int .i64 (clampI x s.W))) bs bg g N { s with x := clampI x s.W } t) := HP.out.setX _
  go_wp2_with (first | (go_at_call 47; refine (pHeight bg g s.W s.H N s.G _ HP1.out.gr).mono ?_; rintro e w' ⟨rfl, hw'⟩; replace hw' := hw'.symm; subst hw') | (go_at_call 69; refine (pBetween _ _ _ _).mono ?_; rintro e w' ⟨rfl, hw'⟩; replace hw' := hw'.symm; subst hw'))
  go_end0
  exact ⟨rfl, (HP1.out.setY _).setPend false, (((Keep.refl _ w).setCell ⟨bs, 1, none⟩ _ (fun _ => Or.inl rfl)).setCell ⟨bs, 2, none⟩ _ (fun _ => Or.inl rfl)).setCell ⟨bs, 3, none⟩ _ (fun _ => Or.inl rfl)⟩
set_option maxHeartbeats 1000000 in
theorem sScroll (bs bg g N : Nat) (s : Rs) (t : Pt) (n : Int) (w : World) (h : PrAt w bs bg g N s t) (h0 : 0 ≤ s.top) (ht : s.top ≤ s.bot) (hb : s.bot < s.H) :
    Calls Tryd.prog 97 #[.pointer (some ⟨bs, 0, none⟩), .int .i64 n] w (SPost bs bg g N w { s with G := scrollG s.top s.bot n (backR s) s.G } t (.tuple #[])) := by
  have HP : Hid (PrAt w bs bg g N s t) := h
  have c0 := h.f0
  have c9 := h.f9
  have c10 := h.f10
  clear h
  go_enter Tryd.func97, Tryd.ntmps97
  go_wp2_with fail
  have HD : Hid (PrAt w.drew bs bg g N s t) := HP.out.drew
  have lt : bs < w.heap.size := HP.out.lt
  have ng : ¬ bs = g := HP.out.ne2
  go_region_held3 (fun w' => w'.cell? ⟨bs, 0, none⟩ = some (.pointer (some ⟨bg, 0, none⟩)) ∧ w'.cell? ⟨bs, 9, none⟩ = some (.int .i64 s.top) ∧ w'.cell? ⟨bs, 10, none⟩ = some (.int .i64 s.bot)) (simp [*]) (first | (go_at_call 104; refine (sEraser bs bg g N s t _ HD.out).mono ?_; rintro e w2 ⟨rfl, hb2⟩; have HP2 : Hid (PrAt w2 bs bg g N s t) := HD.out.below hb2; have K2 : Keep (fun i => i = bs ∨ i = bg ∨ i = g) w w2 := ((Keep.refl _ w).drew).thenBelow hb2; have e1 := hb2.cells lt; clear hb2) | (go_at_call 105; refine (pScrollG bg g s.W s.H N s.G s.top s.bot n (backR s) _ HP2.out.gr h0 ht hb).mono ?_; rintro e w3 ⟨rfl, G3, K3⟩; have e2 := keepC K3 HP2.out.lt ng))
  go_wp2_with fail
  go_end0
  exact ⟨rfl, HP2.out.cells _ (K3.block _ HP2.out.lt ng) G3 rfl ng, K2.trans K3 (fun _ _ h => Or.inr (Or.inr h))⟩
end Go.Proofs.YtknhohbepkapdaaDoor

/- The program's screen: erase, lineFeed. -/
namespace Go.Proofs.YtknhohbepkapdaaDoor
open Go.RowKit
attribute [local go_sem ↓] Go.wp_at_zero Go.wp_at_succ
theorem clamp_id {v : Int} {m : Nat} (h0 : 0 ≤ v) (h1 : v < m) : clampI v m = v := by
  unfold clampI
  (repeat' split) <;> omega
theorem least_clamp {v : Int} {m : Nat} (h0 : 0 ≤ v) (h1 : v < m) : leastI (v + 1) ((m : Int) - 1) = clampI (v + 1) m := by
  unfold leastI clampI
  (repeat' split) <;> omega
set_option maxHeartbeats 1000000 in
theorem sErase (bs bg g N : Nat) (s : Rs) (t : Pt) (x0 x1 : Int) (y : Nat) (w : World) (h : PrAt w bs bg g N s t) (hw : Wf s.W s.H s.G) (hy : y < s.H) :
    Calls Tryd.prog 96 #[.pointer (some ⟨bs, 0, none⟩), .int .i64 x0, .int .i64 x1, .int .i64 y] w (SPost bs bg g N w { s with G := eraseX s.W x0 x1 y (backR s) s.G } t (.tuple #[])) := by
  have HP : Hid (PrAt w bs bg g N s t) := h
  have c0 := h.f0
  clear h
  go_enter Tryd.func96, Tryd.ntmps96
  go_wp2_with fail
  have HD : Hid (PrAt w.drew bs bg g N s t) := HP.out.drew
  have lt : bs < w.heap.size := HP.out.lt
  have ng : ¬ bs = g := HP.out.ne2
  go_region_held3 (fun w' => w'.cell? ⟨bs, 0, none⟩ = some (.pointer (some ⟨bg, 0, none⟩))) (simp [*]) (first | (go_at_call 104; refine (sEraser bs bg g N s t _ HD.out).mono ?_; rintro e w2 ⟨rfl, hb2⟩; have HP2 : Hid (PrAt w2 bs bg g N s t) := HD.out.below hb2; have K2 : Keep (fun i => i = bs ∨ i = bg ∨ i = g) w w2 := ((Keep.refl _ w).drew).thenBelow hb2; have e1 := hb2.cells lt; clear hb2) | (go_at_call 103; refine (pErase bg g s.W s.H N s.G x0 x1 y (backR s) _ HP2.out.gr hw hy).mono ?_; rintro e w3 ⟨rfl, G3, K3⟩; have e2 := keepC K3 HP2.out.lt ng))
  go_wp2_with fail
  go_end0
  exact ⟨rfl, HP2.out.cells _ (K3.block _ HP2.out.lt ng) G3 rfl ng, K2.trans K3 (fun _ _ h => Or.inr (Or.inr h))⟩
set_option maxHeartbeats 1000000 in
theorem sLineFeed (bs bg g N : Nat) (s : Rs) (t : Pt) (w : World) (h : PrAt w bs bg g N s t) (ok : Rs.Ok { s with pend := false }) :
    Calls Tryd.prog 85 #[.pointer (some ⟨bs, 0, none⟩)] w (SPost bs bg g N w (linefeedR s) t (.tuple #[])) := by
  have HP : Hid (PrAt w bs bg g N s t) := h
  have c0 := h.f0
  have c2 := h.f2
  have c3 := h.f3
  have c10 := h.f10
  have fz := h.free
  have x0 : 0 ≤ s.x := ok.x0
  have x1 : s.x < s.W := ok.x1
  have y0 : 0 ≤ s.y := ok.y0
  have y1 : s.y < s.H := ok.y1
  have h2 : s.H ≤ 20 := ok.h2
  have t0 : 0 ≤ s.top := ok.t0
  have tb : s.top ≤ s.bot := ok.tb
  have b1 : s.bot < s.H := ok.b1
  have HP1 : Hid (PrAt (w.setCell ⟨bs, 3, none⟩ (.bool false)) bs bg g N { s with pend := false } t) := h.setPend false
  have K1 : Keep (fun i => i = bs ∨ i = bg ∨ i = g) w (w.setCell ⟨bs, 3, none⟩ (.bool false)) := (Keep.refl _ w).setCell ⟨bs, 3, none⟩ _ (fun _ => Or.inl rfl)
  clear h ok
  by_cases hy : s.y = s.bot
  · have hq : (s.y == s.bot) = true := by simp [hy]
    have HL : Hid (linefeedR s = { s with G := scrollG s.top s.bot 1 (backR s) s.G, pend := false }) := by unfold linefeedR; exact if_pos hy
    clear hy
    go_enter Tryd.func85, Tryd.ntmps85
    go_wp2_with fail
    clear HP c0 c2 c3 c10 fz
    generalize w.setCell ⟨bs, 3, none⟩ (.bool false) = wa at *
    have c0 := HP1.out.f0
    have c2 := HP1.out.f2
    have c10 := HP1.out.f10
    have fz := HP1.out.free
    go_quiet (fail)
    have HP2 : Hid (PrAt (wa.drewN nq) bs bg g N { s with pend := false } t) := HP1.out.drewN nq
    have K2 : Keep (fun i => i = bs ∨ i = bg ∨ i = g) w (wa.drewN nq) := K1.drewN nq
    generalize wa.drewN nq = wb at *
    clear HP1 K1 c0 c2 c10 fz
    have c0 := HP2.out.f0
    have c2 := HP2.out.f2
    have fz := HP2.out.free
    go_wp2_with fail
    go_at_call 97
    refine (sScroll bs bg g N _ t 1 _ HP2.out t0 tb b1).mono ?_
    rintro e w3 ⟨rfl, P3, K3⟩
    go_wp2_with fail
    refine bodyPost_ret (v := .tuple #[]) (by simp [results, Tryd.results85, go_sem]) rfl ⟨rfl, ?_, K2.trans K3 (fun _ _ h => h)⟩
    rw [HL.out]
    exact P3
  · have hq : (s.y == s.bot) = false := by simp [hy]
    have HL : Hid (linefeedR s = goesR s s.x (s.y + 1)) := by unfold linefeedR; exact if_neg hy
    clear hy
    go_enter Tryd.func85, Tryd.ntmps85
    go_wp2_with fail
    clear HP c0 c2 c3 c10 fz
    generalize w.setCell ⟨bs, 3, none⟩ (.bool false) = wa at *
    have c0 := HP1.out.f0
    have c2 := HP1.out.f2
    have c10 := HP1.out.f10
    have fz := HP1.out.free
    go_quiet (fail)
    have HP2 : Hid (PrAt (wa.drewN nq) bs bg g N { s with pend := false } t) := HP1.out.drewN nq
    have K2 : Keep (fun i => i = bs ∨ i = bg ∨ i = g) w (wa.drewN nq) := K1.drewN nq
    generalize wa.drewN nq = wb at *
    clear HP1 K1 c0 c2 c10 fz
    have c0 := HP2.out.f0
    have c2 := HP2.out.f2
    have fz := HP2.out.free
    have Hbx : Hid (clampI s.x s.W = s.x) := clamp_id x0 x1
    have hby := least_clamp (m := s.H) y0 y1
    have hgd : GrAt wb.drew bg g s.W s.H N s.G := HP2.out.gr.same rfl rfl
    have Hgd : Hid (GrAt wb.drew bg g s.W s.H N s.G) := hgd
    clear hgd
    go_wp2_with fail
    go_region_with (first | (go_at_call 47; refine (pHeight bg g s.W s.H N s.G _ Hgd.out).mono ?_; rintro e w' ⟨rfl, hw'⟩; replace hw' := hw'.symm; subst hw') | (go_at_call 66; refine (pLeast _ _ _).mono ?_; rintro e w' ⟨rfl, hw'⟩; replace hw' := hw'.symm; subst hw'))
    all_goals
      go_end0
      rw [wrap_id (s.y + 1) (by omega) (by omega), wrap_id ((s.H : Int) - 1) (by omega) (by omega), hby]
      refine ⟨rfl, ?_, (K2.setCell ⟨bs, 2, none⟩ _ (fun _ => Or.inl rfl)).drew⟩
      rw [HL.out]
      have := (HP2.out.setY (clampI (s.y + 1) s.H)).drew
      unfold goesR
      rw [Hbx.out]
      exact this
end Go.Proofs.YtknhohbepkapdaaDoor

/- The program's screen: what Put writes. -/
namespace Go.Proofs.YtknhohbepkapdaaDoor
open Go.RowKit
open Wd (wd)
attribute [local go_sem ↓] Go.wp_at_zero Go.wp_at_succ
theorem put_write {W H : Nat} {G : Nat → Nat → Cel} (h : Wf W H G) {x y : Nat} {r : Int} (p : Pn) (hy : y < H) (hr : (wd r = 1 ∧ x < W) ∨ (wd r = 2 ∧ x + 2 ≤ W)) : EqOn W H (putX r p x y G) (writeG W H G x y r p) := by
  unfold putX
  rcases hr with ⟨hr, hx⟩ | ⟨hr, hx⟩
  · refine EqOn.trans (wr_dom h (fun a b _ _ => ?_) (fun a b _ _ _ => ?_)) (writeG_one h hx hy r p hr).symm
    · rw [hr, Bool.eq_iff_iff, stretch_iff]
      simp [pt]
      omega
    · unfold putCel; rw [hr, if_neg (by decide)]
  · refine EqOn.trans (wr_dom h (fun a b _ _ => ?_) (fun a b _ _ _ => ?_)) (writeG_two h (by omega) hy r p hr).symm
    · rw [hr, Bool.eq_iff_iff, stretch_iff]
      simp [pt2, pt]
      omega
    · unfold putCel wide
      rw [hr, if_pos rfl]
theorem pPutG (bg g W H N : Nat) (G : Nat → Nat → Cel) (x y r : Int) (p : Pn) (w : World) (h : GrAt w bg g W H N G) (hw : Wf W H G) (x0 : 0 ≤ x) (y0 : 0 ≤ y) (hy : y < H) (hr : (wd r = 1 ∧ x < W) ∨ (wd r = 2 ∧ x + 2 ≤ W)) :
    Calls Tryd.prog 102 #[.pointer (some ⟨bg, 0, none⟩), .int .i64 x, .int .i64 y, .int .i32 r, p.agg] w fun e w' => e = .returned (.tuple #[]) ∧ GrAt w' bg g W H N (writeG W H G x y r p) ∧ Keep (fun i => i = g) w w' := by
  obtain ⟨x, rfl⟩ := Int.eq_ofNat_of_zero_le x0
  obtain ⟨y, rfl⟩ := Int.eq_ofNat_of_zero_le y0
  have hr' : (wd r = 1 ∧ x < W) ∨ (wd r = 2 ∧ x + 2 ≤ W) := by omega
  have e := put_write hw p (show y < H by omega) hr'
  rcases hr' with ⟨hr, hx⟩ | ⟨hr, hx⟩
  · refine (pPut1 bg g W H N G x y r p w h hw (by omega) hr hx).mono ?_
    rintro _ w' ⟨rfl, G1, K1⟩
    exact ⟨rfl, G1.congr e, K1⟩
  · refine (pPut2 bg g W H N G x y r p w h hw (by omega) hr hx).mono ?_
    rintro _ w' ⟨rfl, G1, K1⟩
    exact ⟨rfl, G1.congr e, K1⟩
end Go.Proofs.YtknhohbepkapdaaDoor
