/- Texts of the proof, one behind the other: PsA, DkM, DkF, Qr. -/
import Derived.Test.YtjlfibhbfdckpaaGreatDoorK03
import Derived.Test.YtjlfibhbfdckpaaGreatDoorK06
import Derived.Test.YtjlfibhbfdckpaaGreatDoorK09
import Derived.Deep.AppendLies
import Derived.WalkKit
import Derived.Below
import Derived.RangeFuncBox
import Derived.RangeFuncLeaves
import Derived.RangeFuncCalls
import Derived.RangeFuncNested
import Derived.Shelf.Abstract
import Derived.Shelf.RegionOpen
import Derived.OwnWalkIn
import Derived.TacticsInMore
import Derived.LoopNIn
import Derived.LoopIn
import Derived.Sort.QuietIn
/- The program's screen: what it is in memory. -/
namespace Go.Proofs.YtjlfibhbfdckpaaGreatDoor
open Go.RowKit
/-- What the program knows of a letter or a sequence that is begun: the mode, the bytes and their count, the numbers and their count, bad. -/
structure Pt where
  mode : Int
  by4 : Nat → Int
  bn : Int
  nm : Nat → Int
  cn : Int
  bad : Bool
abbrev prArr (bg : Nat) (s : Rs) (t : Pt) : Array Value := #[.pointer (some ⟨bg, 0, none⟩), .int .i64 s.x, .int .i64 s.y, .bool s.pend, .int .i64 s.pen.f, .int .i64 s.pen.b, .bool s.pen.bo, .bool s.pen.un, .bool s.pen.re, .int .i64 s.top, .int .i64 s.bot, .int .i64 t.mode, .int .u8 (t.by4 0), .int .u8 (t.by4 1), .int .u8 (t.by4 2), .int .u8 (t.by4 3), .int .i64 t.bn, .int .i64 (t.nm 0), .int .i64 (t.nm 1), .int .i64 (t.nm 2), .int .i64 (t.nm 3), .int .i64 (t.nm 4), .int .i64 (t.nm 5), .int .i64 (t.nm 6), .int .i64 (t.nm 7), .int .i64 t.cn, .bool t.bad]
/-- The program's screen lies in blocks bs, bg, g. -/
structure PrAt (w : World) (bs bg g N : Nat) (s : Rs) (t : Pt) : Prop where
  blk : w.heap[bs]? = some (.cells (prArr bg s t) 153)
  gr : GrAt w bg g s.W s.H N s.G
  ne1 : bs ≠ bg
  ne2 : bs ≠ g
section
variable {w w' : World} {bs bg g N : Nat} {s : Rs} {t : Pt}
theorem PrAt.lt (h : PrAt w bs bg g N s t) : bs < w.heap.size := (Array.getElem?_eq_some_iff.1 h.blk).1
theorem PrAt.same (h : PrAt w bs bg g N s t) (h1 : w'.heap[bs]? = w.heap[bs]?) (h2 : w'.heap[bg]? = w.heap[bg]?) (h3 : w'.heap[g]? = w.heap[g]?) : PrAt w' bs bg g N s t :=
  ⟨by rw [h1]; exact h.blk, h.gr.same h2 h3, h.ne1, h.ne2⟩
theorem PrAt.below (h : PrAt w bs bg g N s t) (hb : Below w.heap.size w w') : PrAt w' bs bg g N s t :=
  h.same (hb.block _ h.lt) (hb.block _ h.gr.lt) (hb.block _ h.gr.glt)
theorem PrAt.free (h : PrAt w bs bg g N s t) : ∀ o, w.frozen? ⟨bs, o, none⟩ = false := frozen_of_block h.blk
theorem PrAt.drew (h : PrAt w bs bg g N s t) : PrAt w.drew bs bg g N s t := h.same rfl rfl rfl
theorem PrAt.drewN (h : PrAt w bs bg g N s t) (n : Nat) : PrAt (w.drewN n) bs bg g N s t := h.same rfl rfl rfl
theorem PrAt.store (h : PrAt w bs bg g N s t) (o : Nat) (v : Value) (s' : Rs) (t' : Pt) (hs : (prArr bg s t).setIfInBounds o v = prArr bg s' t') (hW : s'.W = s.W) (hH : s'.H = s.H) (hG : s'.G = s.G) : PrAt (w.setCell ⟨bs, o, none⟩ v) bs bg g N s' t' := by
  refine ⟨?_, ?_, h.ne1, h.ne2⟩
  · rw [heap_set_same h.blk, hs]
  · rw [hW, hH, hG]
    exact h.gr.same (Below.heap_setCell _ _ _ _ (fun e => h.ne1 e.symm)) (Below.heap_setCell _ _ _ _ (fun e => h.ne2 e.symm))
/-- The cells change, and nothing else. -/
theorem PrAt.cells {g' N' : Nat} (h : PrAt w bs bg g N s t) (s' : Rs) (hb : w'.heap[bs]? = w.heap[bs]?) (hc : GrAt w' bg g' s'.W s'.H N' s'.G) (hs : prArr bg s' t = prArr bg s t) (hg : bs ≠ g') : PrAt w' bs bg g' N' s' t :=
  ⟨by rw [hb, hs]; exact h.blk, hc, h.ne1, hg⟩
theorem PrAt.congr (h : PrAt w bs bg g N s t) (s' : Rs) (hs : prArr bg s' t = prArr bg s t) (hW : s'.W = s.W) (hH : s'.H = s.H) (hG : EqOn s.W s.H s.G s'.G) : PrAt w bs bg g N s' t :=
  ⟨by rw [hs]; exact h.blk, by rw [hW, hH]; exact h.gr.congr hG, h.ne1, h.ne2⟩
theorem PrAt.f0 (h : PrAt w bs bg g N s t) : w.cell? ⟨bs, 0, none⟩ = some (.pointer (some ⟨bg, 0, none⟩)) := cell_of_block h.blk 0
theorem PrAt.f1 (h : PrAt w bs bg g N s t) : w.cell? ⟨bs, 1, none⟩ = some (.int .i64 s.x) := cell_of_block h.blk 1
theorem PrAt.f2 (h : PrAt w bs bg g N s t) : w.cell? ⟨bs, 2, none⟩ = some (.int .i64 s.y) := cell_of_block h.blk 2
theorem PrAt.f3 (h : PrAt w bs bg g N s t) : w.cell? ⟨bs, 3, none⟩ = some (.bool s.pend) := cell_of_block h.blk 3
theorem PrAt.f4 (h : PrAt w bs bg g N s t) : w.cell? ⟨bs, 4, none⟩ = some (.int .i64 s.pen.f) := cell_of_block h.blk 4
theorem PrAt.f5 (h : PrAt w bs bg g N s t) : w.cell? ⟨bs, 5, none⟩ = some (.int .i64 s.pen.b) := cell_of_block h.blk 5
theorem PrAt.f6 (h : PrAt w bs bg g N s t) : w.cell? ⟨bs, 6, none⟩ = some (.bool s.pen.bo) := cell_of_block h.blk 6
theorem PrAt.f7 (h : PrAt w bs bg g N s t) : w.cell? ⟨bs, 7, none⟩ = some (.bool s.pen.un) := cell_of_block h.blk 7
theorem PrAt.f8 (h : PrAt w bs bg g N s t) : w.cell? ⟨bs, 8, none⟩ = some (.bool s.pen.re) := cell_of_block h.blk 8
theorem PrAt.f9 (h : PrAt w bs bg g N s t) : w.cell? ⟨bs, 9, none⟩ = some (.int .i64 s.top) := cell_of_block h.blk 9
theorem PrAt.f10 (h : PrAt w bs bg g N s t) : w.cell? ⟨bs, 10, none⟩ = some (.int .i64 s.bot) := cell_of_block h.blk 10
theorem PrAt.f11 (h : PrAt w bs bg g N s t) : w.cell? ⟨bs, 11, none⟩ = some (.int .i64 t.mode) := cell_of_block h.blk 11
theorem PrAt.f12 (h : PrAt w bs bg g N s t) : w.cell? ⟨bs, 12, none⟩ = some (.int .u8 (t.by4 0)) := cell_of_block h.blk 12
theorem PrAt.f13 (h : PrAt w bs bg g N s t) : w.cell? ⟨bs, 13, none⟩ = some (.int .u8 (t.by4 1)) := cell_of_block h.blk 13
theorem PrAt.f14 (h : PrAt w bs bg g N s t) : w.cell? ⟨bs, 14, none⟩ = some (.int .u8 (t.by4 2)) := cell_of_block h.blk 14
theorem PrAt.f15 (h : PrAt w bs bg g N s t) : w.cell? ⟨bs, 15, none⟩ = some (.int .u8 (t.by4 3)) := cell_of_block h.blk 15
theorem PrAt.f16 (h : PrAt w bs bg g N s t) : w.cell? ⟨bs, 16, none⟩ = some (.int .i64 t.bn) := cell_of_block h.blk 16
theorem PrAt.f17 (h : PrAt w bs bg g N s t) : w.cell? ⟨bs, 17, none⟩ = some (.int .i64 (t.nm 0)) := cell_of_block h.blk 17
theorem PrAt.f18 (h : PrAt w bs bg g N s t) : w.cell? ⟨bs, 18, none⟩ = some (.int .i64 (t.nm 1)) := cell_of_block h.blk 18
theorem PrAt.f19 (h : PrAt w bs bg g N s t) : w.cell? ⟨bs, 19, none⟩ = some (.int .i64 (t.nm 2)) := cell_of_block h.blk 19
theorem PrAt.f20 (h : PrAt w bs bg g N s t) : w.cell? ⟨bs, 20, none⟩ = some (.int .i64 (t.nm 3)) := cell_of_block h.blk 20
theorem PrAt.f21 (h : PrAt w bs bg g N s t) : w.cell? ⟨bs, 21, none⟩ = some (.int .i64 (t.nm 4)) := cell_of_block h.blk 21
theorem PrAt.f22 (h : PrAt w bs bg g N s t) : w.cell? ⟨bs, 22, none⟩ = some (.int .i64 (t.nm 5)) := cell_of_block h.blk 22
theorem PrAt.f23 (h : PrAt w bs bg g N s t) : w.cell? ⟨bs, 23, none⟩ = some (.int .i64 (t.nm 6)) := cell_of_block h.blk 23
theorem PrAt.f24 (h : PrAt w bs bg g N s t) : w.cell? ⟨bs, 24, none⟩ = some (.int .i64 (t.nm 7)) := cell_of_block h.blk 24
theorem PrAt.f25 (h : PrAt w bs bg g N s t) : w.cell? ⟨bs, 25, none⟩ = some (.int .i64 t.cn) := cell_of_block h.blk 25
theorem PrAt.f26 (h : PrAt w bs bg g N s t) : w.cell? ⟨bs, 26, none⟩ = some (.bool t.bad) := cell_of_block h.blk 26
theorem PrAt.setX (h : PrAt w bs bg g N s t) (v : Int) : PrAt (w.setCell ⟨bs, 1, none⟩ (.int .i64 v)) bs bg g N { s with x := v } t := h.store 1 _ _ _ rfl rfl rfl rfl
theorem PrAt.setY (h : PrAt w bs bg g N s t) (v : Int) : PrAt (w.setCell ⟨bs, 2, none⟩ (.int .i64 v)) bs bg g N { s with y := v } t := h.store 2 _ _ _ rfl rfl rfl rfl
theorem PrAt.setPend (h : PrAt w bs bg g N s t) (v : Bool) : PrAt (w.setCell ⟨bs, 3, none⟩ (.bool v)) bs bg g N { s with pend := v } t := h.store 3 _ _ _ rfl rfl rfl rfl
theorem PrAt.setTop (h : PrAt w bs bg g N s t) (v : Int) : PrAt (w.setCell ⟨bs, 9, none⟩ (.int .i64 v)) bs bg g N { s with top := v } t := h.store 9 _ _ _ rfl rfl rfl rfl
theorem PrAt.setBot (h : PrAt w bs bg g N s t) (v : Int) : PrAt (w.setCell ⟨bs, 10, none⟩ (.int .i64 v)) bs bg g N { s with bot := v } t := h.store 10 _ _ _ rfl rfl rfl rfl
theorem PrAt.setMode (h : PrAt w bs bg g N s t) (v : Int) : PrAt (w.setCell ⟨bs, 11, none⟩ (.int .i64 v)) bs bg g N s { t with mode := v } := h.store 11 _ _ _ rfl rfl rfl rfl
theorem PrAt.setBn (h : PrAt w bs bg g N s t) (v : Int) : PrAt (w.setCell ⟨bs, 16, none⟩ (.int .i64 v)) bs bg g N s { t with bn := v } := h.store 16 _ _ _ rfl rfl rfl rfl
theorem PrAt.setCn (h : PrAt w bs bg g N s t) (v : Int) : PrAt (w.setCell ⟨bs, 25, none⟩ (.int .i64 v)) bs bg g N s { t with cn := v } := h.store 25 _ _ _ rfl rfl rfl rfl
theorem PrAt.setBad (h : PrAt w bs bg g N s t) (v : Bool) : PrAt (w.setCell ⟨bs, 26, none⟩ (.bool v)) bs bg g N s { t with bad := v } := h.store 26 _ _ _ rfl rfl rfl rfl
theorem PrAt.byte (h : PrAt w bs bg g N s t) (i : Nat) (hi : i < 4) : w.cell? ⟨bs, 12 + i, none⟩ = some (.int .u8 (t.by4 i)) := by
  match i, hi with
  | 0, _ => exact h.f12
  | 1, _ => exact h.f13
  | 2, _ => exact h.f14
  | 3, _ => exact h.f15
def updI (f : Nat → Int) (i : Nat) (v : Int) : Nat → Int := fun j => if j = i then v else f j
theorem PrAt.setByte (h : PrAt w bs bg g N s t) (i : Nat) (hi : i < 4) (v : Int) : PrAt (w.setCell ⟨bs, 12 + i, none⟩ (.int .u8 v)) bs bg g N s { t with by4 := updI t.by4 i v } := by
  match i, hi with
  | 0, _ => exact h.store 12 _ _ _ rfl rfl rfl rfl
  | 1, _ => exact h.store 13 _ _ _ rfl rfl rfl rfl
  | 2, _ => exact h.store 14 _ _ _ rfl rfl rfl rfl
  | 3, _ => exact h.store 15 _ _ _ rfl rfl rfl rfl
theorem PrAt.num (h : PrAt w bs bg g N s t) (i : Nat) (hi : i < 8) : w.cell? ⟨bs, 17 + i, none⟩ = some (.int .i64 (t.nm i)) := by
  match i, hi with
  | 0, _ => exact h.f17
  | 1, _ => exact h.f18
  | 2, _ => exact h.f19
  | 3, _ => exact h.f20
  | 4, _ => exact h.f21
  | 5, _ => exact h.f22
  | 6, _ => exact h.f23
  | 7, _ => exact h.f24
theorem PrAt.setNum (h : PrAt w bs bg g N s t) (i : Nat) (hi : i < 8) (v : Int) : PrAt (w.setCell ⟨bs, 17 + i, none⟩ (.int .i64 v)) bs bg g N s { t with nm := updI t.nm i v } := by
  match i, hi with
  | 0, _ => exact h.store 17 _ _ _ rfl rfl rfl rfl
  | 1, _ => exact h.store 18 _ _ _ rfl rfl rfl rfl
  | 2, _ => exact h.store 19 _ _ _ rfl rfl rfl rfl
  | 3, _ => exact h.store 20 _ _ _ rfl rfl rfl rfl
  | 4, _ => exact h.store 21 _ _ _ rfl rfl rfl rfl
  | 5, _ => exact h.store 22 _ _ _ rfl rfl rfl rfl
  | 6, _ => exact h.store 23 _ _ _ rfl rfl rfl rfl
  | 7, _ => exact h.store 24 _ _ _ rfl rfl rfl rfl
end
/-- What a call leaves: a result, and the screen. -/
def PPost (bs bg g : Nat) (w : World) (s : Rs) (t : Pt) (r : Value) (e : Ending) (w' : World) : Prop :=
  ∃ g' N', e = .returned r ∧ PrAt w' bs bg g' N' s t ∧ Keep (fun i => i = bs ∨ i = bg ∨ i = g) w w' ∧ (g' = g ∨ w.heap.size ≤ g')
theorem clamp_between (v : Int) {m : Nat} (h : 1 ≤ m) : betweenI v 0 ((m : Int) - 1) = clampI v m := by
  unfold betweenI greatestI leastI clampI
  split <;> split <;> split <;> omega
/-- The cells' block stays where it is in every call but Resize. -/
def SPost (bs bg g N : Nat) (w : World) (s : Rs) (t : Pt) (r : Value) (e : Ending) (w' : World) : Prop :=
  e = .returned r ∧ PrAt w' bs bg g N s t ∧ Keep (fun i => i = bs ∨ i = bg ∨ i = g) w w'
end Go.Proofs.YtjlfibhbfdckpaaGreatDoor

/- Desks in memory: the program's windows. -/
namespace Go.Proofs.YtjlfibhbfdckpaaGreatDoor
open Go.RowKit
/-- What has a block of its own: the desk's five (the call's, the desk's, its screen's three), a window's four. -/
inductive Pl where
  | top (k : Nat)
  | win (n : Int) (k : Nat)
/-- Where all of it lies. -/
structure Mm where
  t : Nat → Nat
  b : Int → Nat
  c : Int → Nat
  g : Int → Nat
  s : Int → Value
def Mm.blk (M : Mm) : Pl → Option Nat
  | .top k => some (M.t k)
  | .win n 0 => some (M.b n)
  | .win n 1 => some (M.c n)
  | .win n 2 => some (M.g n)
  | .win n _ => (M.s n).ownBlock
def Pl.ok (L : List Wn) : Pl → Prop
  | .top k => k < 5
  | .win n k => k < 4 ∧ ∃ v ∈ L, v.n = n
def Mm.own (M : Mm) (L : List Wn) (i : Nat) : Prop := ∃ p : Pl, p.ok L ∧ M.blk p = some i
def Mm.inj (M : Mm) (L : List Wn) : Prop := ∀ (p q : Pl) (i : Nat), p.ok L → q.ok L → M.blk p = some i → M.blk q = some i → p = q
def Mm.pp (M : Mm) (n : Int) : Option Addr := if n = -1 then none else some ⟨M.b n, 0, none⟩
abbrev Mm.ptr (M : Mm) (n : Int) : Value := .pointer (some ⟨M.b n, 0, none⟩)
def Mm.ptrs (M : Mm) (l : List Wn) : List Value := l.map (fun u => M.ptr u.n)
abbrev winArr (v : Wn) (pp : Option Addr) (cn : Nat) (sv : Value) : Array Value := #[.int .i64 v.n, .pointer pp, .int .i64 v.x, .int .i64 v.y, .bool v.sh, .pointer (some ⟨cn, 0, none⟩), sv]
/-- One window in memory. -/
structure WinV (w : World) (v : Wn) (bn cn gn : Nat) (pp : Option Addr) (sv : Value) (ks : List Value) : Prop where
  blk : w.heap[bn]? = some (.cells (winArr v pp cn sv) 131)
  gr : GrAt w cn gn v.W v.H (v.H * v.W) v.G
  wf : Wf v.W v.H v.G
  row : w.ownsRow 2 111 1 sv ks.length ks
theorem ownsRow_same {w w' : World} {base : Nat} {e : TypeId} {size : Nat} {v : Value} {n : Nat} {xs : List Value} (h : w.ownsRow base e size v n xs) (hs : ∀ i, v.ownBlock = some i → w'.heap[i]? = w.heap[i]?) : w'.ownsRow base e size v n xs := by
  refine ⟨h.1, ?_⟩
  rcases h.2 with h0 | ⟨g, cap, cur, rfl, h1, h2, h3⟩
  · exact .inl h0
  · exact .inr ⟨g, cap, cur, rfl, h1, by rw [hs g rfl]; exact h2, h3⟩
theorem ownsRow_lt {w : World} {base : Nat} {e : TypeId} {size : Nat} {v : Value} {n : Nat} {xs : List Value} (h : w.ownsRow base e size v n xs) {i : Nat} (hs : v.ownBlock = some i) : i < w.heap.size ∧ base ≤ i := by
  rcases h.2 with ⟨rfl, _⟩ | ⟨g, cap, cur, rfl, h1, h2, h3⟩
  · simp [Value.ownBlock] at hs
  · obtain rfl : g = i := by simpa [Value.ownBlock] using hs
    exact ⟨(Array.getElem?_eq_some_iff.1 h2).1, h1⟩
section
variable {w w' : World} {v : Wn} {bn cn gn : Nat} {pp : Option Addr} {sv : Value} {ks : List Value}
theorem WinV.lt (h : WinV w v bn cn gn pp sv ks) : bn < w.heap.size := (Array.getElem?_eq_some_iff.1 h.blk).1
theorem WinV.same (h : WinV w v bn cn gn pp sv ks) (h1 : w'.heap[bn]? = w.heap[bn]?) (h2 : w'.heap[cn]? = w.heap[cn]?) (h3 : w'.heap[gn]? = w.heap[gn]?) (h4 : ∀ i, sv.ownBlock = some i → w'.heap[i]? = w.heap[i]?) : WinV w' v bn cn gn pp sv ks :=
  ⟨by rw [h1]; exact h.blk, h.gr.same h2 h3, h.wf, ownsRow_same h.row h4⟩
theorem WinV.f0 (h : WinV w v bn cn gn pp sv ks) : w.cell? ⟨bn, 0, none⟩ = some (.int .i64 v.n) := cell_of_block h.blk 0
theorem WinV.f1 (h : WinV w v bn cn gn pp sv ks) : w.cell? ⟨bn, 1, none⟩ = some (.pointer pp) := cell_of_block h.blk 1
theorem WinV.f2 (h : WinV w v bn cn gn pp sv ks) : w.cell? ⟨bn, 2, none⟩ = some (.int .i64 v.x) := cell_of_block h.blk 2
theorem WinV.f3 (h : WinV w v bn cn gn pp sv ks) : w.cell? ⟨bn, 3, none⟩ = some (.int .i64 v.y) := cell_of_block h.blk 3
theorem WinV.f4 (h : WinV w v bn cn gn pp sv ks) : w.cell? ⟨bn, 4, none⟩ = some (.bool v.sh) := cell_of_block h.blk 4
theorem WinV.f5 (h : WinV w v bn cn gn pp sv ks) : w.cell? ⟨bn, 5, none⟩ = some (.pointer (some ⟨cn, 0, none⟩)) := cell_of_block h.blk 5
theorem WinV.f6 (h : WinV w v bn cn gn pp sv ks) : w.cell? ⟨bn, 6, none⟩ = some sv := cell_of_block h.blk 6
theorem WinV.free (h : WinV w v bn cn gn pp sv ks) : ∀ o, w.frozen? ⟨bn, o, none⟩ = false := frozen_of_block h.blk
end
/-- What holds of the windows of a desk, whatever they are. -/
structure DOk (L : List Wn) (last : Int) : Prop where
  tree : ∃ rk K, Tree L rk K
  le : ∀ v ∈ L, v.n ≤ last
  len : L.length ≤ 16
  pl : ∀ v ∈ L, -1000 ≤ v.x ∧ v.x ≤ 1000 ∧ -1000 ≤ v.y ∧ v.y ≤ 1000
/-- The program's desk. -/
structure DkAt (w : World) (M : Mm) (L : List Wn) (last : Int) (N : Nat) (s : Rs) (t : Pt) : Prop where
  b0 : w.heap[M.t 0]? = some (.cells #[.pointer (some ⟨M.t 1, 0, none⟩)] 75)
  b1 : w.heap[M.t 1]? = some (.cells #[M.ptr 0, .int .i64 last, .pointer (some ⟨M.t 2, 0, none⟩)] 133)
  scr : PrAt w (M.t 2) (M.t 3) (M.t 4) N s t
  win : ∀ v ∈ L, WinV w v (M.b v.n) (M.c v.n) (M.g v.n) (M.pp v.par) (M.s v.n) (M.ptrs (kids L v.n))
  inj : M.inj L
  two : ∀ i, M.own L i → 2 ≤ i
section
variable {w w' : World} {M : Mm} {L : List Wn} {last : Int} {N : Nat} {s : Rs} {t : Pt}
theorem DkAt.lt (h : DkAt w M L last N s t) {i : Nat} (hi : M.own L i) : i < w.heap.size := by
  obtain ⟨p, hp, hb⟩ := hi
  cases p with
  | top k =>
    obtain rfl : M.t k = i := by simpa [Mm.blk] using hb
    have hk : k < 5 := hp
    match k, hk with
    | 0, _ => exact (Array.getElem?_eq_some_iff.1 h.b0).1
    | 1, _ => exact (Array.getElem?_eq_some_iff.1 h.b1).1
    | 2, _ => exact h.scr.lt
    | 3, _ => exact h.scr.gr.lt
    | 4, _ => exact h.scr.gr.glt
  | win n k =>
    obtain ⟨hk, v, hv, rfl⟩ := hp
    have hw := h.win v hv
    match k, hk with
    | 0, _ => obtain rfl : M.b v.n = i := by simpa [Mm.blk] using hb
              exact hw.lt
    | 1, _ => obtain rfl : M.c v.n = i := by simpa [Mm.blk] using hb
              exact hw.gr.lt
    | 2, _ => obtain rfl : M.g v.n = i := by simpa [Mm.blk] using hb
              exact hw.gr.glt
    | 3, _ => exact (ownsRow_lt hw.row hb).1
theorem own_top (M : Mm) (L : List Wn) (k : Nat) (hk : k < 5) : M.own L (M.t k) := ⟨.top k, hk, rfl⟩
theorem own_b (M : Mm) {L : List Wn} {v : Wn} (hv : v ∈ L) : M.own L (M.b v.n) := ⟨.win v.n 0, ⟨by omega, v, hv, rfl⟩, rfl⟩
theorem own_c (M : Mm) {L : List Wn} {v : Wn} (hv : v ∈ L) : M.own L (M.c v.n) := ⟨.win v.n 1, ⟨by omega, v, hv, rfl⟩, rfl⟩
theorem own_g (M : Mm) {L : List Wn} {v : Wn} (hv : v ∈ L) : M.own L (M.g v.n) := ⟨.win v.n 2, ⟨by omega, v, hv, rfl⟩, rfl⟩
theorem own_s (M : Mm) {L : List Wn} {v : Wn} (hv : v ∈ L) {i : Nat} (hi : (M.s v.n).ownBlock = some i) : M.own L i := ⟨.win v.n 3, ⟨by omega, v, hv, rfl⟩, hi⟩
theorem DkAt.same (h : DkAt w M L last N s t) (hs : ∀ i, M.own L i → w'.heap[i]? = w.heap[i]?) : DkAt w' M L last N s t :=
  ⟨by rw [hs _ (own_top M L 0 (by omega))]; exact h.b0, by rw [hs _ (own_top M L 1 (by omega))]; exact h.b1,
   h.scr.same (hs _ (own_top M L 2 (by omega))) (hs _ (own_top M L 3 (by omega))) (hs _ (own_top M L 4 (by omega))),
   fun v hv => (h.win v hv).same (hs _ (own_b M hv)) (hs _ (own_c M hv)) (hs _ (own_g M hv)) (fun i hi => hs _ (own_s M hv hi)), h.inj, h.two⟩
theorem DkAt.keep {F : Nat → Prop} (h : DkAt w M L last N s t) (k : Keep F w w') (hF : ∀ i, M.own L i → ¬ F i) : DkAt w' M L last N s t :=
  h.same (fun i hi => k.block i (h.lt hi) (hF i hi))
theorem DkAt.below (h : DkAt w M L last N s t) (hb : Below w.heap.size w w') : DkAt w' M L last N s t :=
  h.same (fun i hi => hb.block i (h.lt hi))
theorem DkAt.drewN (h : DkAt w M L last N s t) (n : Nat) : DkAt (w.drewN n) M L last N s t := h.same (fun _ _ => rfl)
theorem DkAt.c0 (h : DkAt w M L last N s t) : w.cell? ⟨M.t 0, 0, none⟩ = some (.pointer (some ⟨M.t 1, 0, none⟩)) := cell_of_block h.b0 0
theorem DkAt.d0 (h : DkAt w M L last N s t) : w.cell? ⟨M.t 1, 0, none⟩ = some (M.ptr 0) := cell_of_block h.b1 0
theorem DkAt.d1 (h : DkAt w M L last N s t) : w.cell? ⟨M.t 1, 1, none⟩ = some (.int .i64 last) := cell_of_block h.b1 1
theorem DkAt.d2 (h : DkAt w M L last N s t) : w.cell? ⟨M.t 1, 2, none⟩ = some (.pointer (some ⟨M.t 2, 0, none⟩)) := cell_of_block h.b1 2
/-- Two of the blocks are different. -/
theorem DkAt.ne (h : DkAt w M L last N s t) {p q : Pl} {i j : Nat} (hp : p.ok L) (hq : q.ok L) (hi : M.blk p = some i) (hj : M.blk q = some j) (hpq : p ≠ q) : i ≠ j := fun e => hpq (h.inj p q i hp hq hi (e ▸ hj))
end
end Go.Proofs.YtjlfibhbfdckpaaGreatDoor

/- The program's desk: find, count. -/
namespace Go.Proofs.YtjlfibhbfdckpaaGreatDoor
open Go.RowKit
attribute [local go_sem ↓] Go.wp_at_zero Go.wp_at_succ
theorem ownsRow_open {w : World} {base : Nat} {e : TypeId} {v : Value} {ks : List Value} (h : w.ownsRow base e 1 v ks.length ks) : ∃ p cap, v = .slice p ks.length cap ∧ ks.length ≤ cap ∧ cap ≤ 9223372036854775807 ∧ ∀ j x, ks[j]? = some x → ∃ ib, p = some ⟨ib, 0, none⟩ ∧ w.cell? ⟨ib, j, none⟩ = some x := by
  rcases h.2 with ⟨rfl, h0⟩ | ⟨g, cap, cur, rfl, h1, h2, h3, h4, h5, h6⟩
  · refine ⟨none, 0, by rw [h0], by omega, by omega, fun j x hx => ?_⟩
    rw [List.length_eq_zero_iff.1 h0] at hx
    simp at hx
  · refine ⟨some ⟨g, 0, none⟩, cap, rfl, h3, h4, fun j x hx => ⟨g, rfl, ?_⟩⟩
    rw [cell_of_block h2]
    have hj : j < ks.length := (List.getElem?_eq_some_iff.1 hx).1
    rw [Nat.mul_one] at h6
    rw [← Array.getElem?_toList, ← List.getElem?_take_of_lt hj, h6]
    exact hx
theorem Mm.ptrs_len (M : Mm) (l : List Wn) : (M.ptrs l).length = l.length := by simp [Mm.ptrs]
theorem Mm.ptrs_at {M : Mm} {l : List Wn} {j : Nat} {u : Wn} (h : l[j]? = some u) : (M.ptrs l)[j]? = some (M.ptr u.n) := by simp [Mm.ptrs, h]
set_option maxHeartbeats 1000000 in
theorem wFindStep (M : Mm) (v : Wn) (ks : List Wn) (bn cn gn : Nat) (pp : Option Addr) (sv : Value) (num : Int) (r : Option Addr) (g : Wn → Bool) (w : World) (h : WinV w v bn cn gn pp sv (M.ptrs ks)) (hr : v.n = num → r = some ⟨bn, 0, none⟩) (hr0 : r ≠ none) (res : Option Addr) (hres : res = if (decide (v.n = num) || ks.any g) = true then r else none)
    (hcall : ∀ u ∈ ks, Calls Tryz.prog 167 #[M.ptr u.n, .int .i64 num] w fun e w' => e = .returned (.pointer (if g u = true then r else none)) ∧ w' = w) :
    Calls Tryz.prog 167 #[.pointer (some ⟨bn, 0, none⟩), .int .i64 num] w fun e w' => e = .returned (.pointer res) ∧ w' = w := by
  have Hres : Hid (res = if (decide (v.n = num) || ks.any g) = true then r else none) := hres
  clear hres
  have c0 := h.f0
  have c6 := h.f6
  obtain ⟨p, cap, rfl, hcap, hmax, hcell⟩ := ownsRow_open h.row
  have Hc : Hid (∀ j x, (M.ptrs ks)[j]? = some x → ∃ ib, p = some ⟨ib, 0, none⟩ ∧ w.cell? ⟨ib, j, none⟩ = some x) := hcell
  have Hcall : Hid (∀ u ∈ ks, Calls Tryz.prog 167 #[M.ptr u.n, .int .i64 num] w fun e w' => e = .returned (.pointer (if g u = true then r else none)) ∧ w' = w) := hcall
  rw [M.ptrs_len] at *
  clear h hcell hcall
  by_cases h1 : v.n = num
  · obtain rfl : res = some ⟨bn, 0, none⟩ := by rw [Hres.out, if_pos (by simp [h1]), hr h1]
    go_enter Tryz.func167, Tryz.ntmps167
    go_wp2_with fail
    go_ret
    exact ⟨rfl, rfl⟩
  · have Hr : Hid (r ≠ none) := hr0
    have hb : (v.n == num) = false := by simp [h1]
    clear hr hr0
    go_enter Tryz.func167, Tryz.ntmps167
    go_wp2_with fail
    go_loopw [20] (fun i wr => ∃ k : Nat, k ≤ ks.length ∧ i = .int .i64 k ∧ (∀ u ∈ ks.take k, g u = false) ∧ wr = w) (fun i _ => ks.length - (intOf i).toNat)
    case atStart => exact ⟨0, by omega, rfl, by simp, rfl⟩
    case round =>
      obtain ⟨k, hk, rfl, hg, rfl⟩ := hrel
      by_cases hlt : k < ks.length
      · obtain ⟨u, hu⟩ : ∃ u, ks[k]? = some u := ⟨_, List.getElem?_eq_getElem hlt⟩
        obtain ⟨ib, rfl, hc⟩ := Hc.out k _ (Mm.ptrs_at hu)
        have hum : u ∈ ks := List.mem_of_getElem? hu
        have hgs : ks.take (k + 1) = ks.take k ++ [u] := by rw [List.take_add_one, hu]; rfl
        cases hgu : g u with
        | true =>
          obtain ⟨a, ha⟩ : ∃ a, r = some a := Option.ne_none_iff_exists'.1 Hr.out
          subst ha
          obtain rfl : res = some a := by rw [Hres.out, if_pos]; rw [List.any_eq_true.2 ⟨u, hum, hgu⟩, Bool.or_true]
          go_wp2_with (first | (go_at_call 167; refine (Hcall.out u hum).mono ?_; rw [hgu]; rintro e w' ⟨rfl, rfl⟩))
          go_ret
          exact ⟨rfl, rfl⟩
        | false =>
          go_wp2_with (first | (go_at_call 167; refine (Hcall.out u hum).mono ?_; rw [hgu]; rintro e w' ⟨rfl, rfl⟩))
          go_roundw
          case rel =>
            refine ⟨k + 1, by omega, by simp, fun x hx => ?_, trivial⟩
            rw [hgs] at hx
            rcases List.mem_append.1 hx with hx | hx
            · exact hg x hx
            · obtain rfl : x = u := by simpa using hx
              exact hgu
          case measure => simp [intOf]; omega
      · obtain rfl : k = ks.length := by omega
        rw [List.take_length] at hg
        have hn : ks.any g = false := by
          rw [Bool.eq_false_iff]
          intro hx
          obtain ⟨u, hu, hgu⟩ := List.any_eq_true.1 hx
          rw [hg u hu] at hgu
          cases hgu
        obtain rfl : res = none := by rw [Hres.out, if_neg]; rw [hn, decide_eq_false h1]; simp
        go_wp2_with fail
        go_ret
        exact ⟨rfl, rfl⟩
theorem wFind {M : Mm} {L : List Wn} {last : Int} {N : Nat} {s : Rs} {t : Pt} {rk : Int → Nat} {K : Nat} (T : Tree L rk K) (num : Int) (w : World) (h : DkAt w M L last N s t) : ∀ (f : Nat) (v : Wn), v ∈ L → K ≤ rk v.n + f →
    Calls Tryz.prog 167 #[M.ptr v.n, .int .i64 num] w fun e w' => e = .returned (.pointer (if hasP L f v.n num = true then some ⟨M.b num, 0, none⟩ else none)) ∧ w' = w := by
  intro f
  induction f with
  | zero =>
    intro v hv hk
    have hn := T.noKids (T.pos hv) (by omega)
    have := wFindStep M v _ _ _ _ _ _ num (some ⟨M.b num, 0, none⟩) (fun _ => false) w (h.win v hv) (fun e => by rw [e]) (by simp) _ rfl (fun u hu => by rw [hn] at hu; simp at hu)
    simpa [hasP, hn] using this
  | succ f ih =>
    intro v hv hk
    refine wFindStep M v _ _ _ _ _ _ num (some ⟨M.b num, 0, none⟩) (fun u => hasP L f u.n num) w (h.win v hv) (fun e => by rw [e]) (by simp) _ rfl (fun u hu => ?_)
    obtain ⟨hL, hp⟩ := mem_kids.1 hu
    have := (T.up u hL (by have := T.pos hv; omega)).2
    rw [hp] at this
    exact ih u hL (by omega)
set_option maxHeartbeats 1000000 in
theorem wCountStep (M : Mm) (v : Wn) (ks : List Wn) (bn cn gn : Nat) (pp : Option Addr) (sv : Value) (g : Wn → Nat) (w : World) (h : WinV w v bn cn gn pp sv (M.ptrs ks)) (hb : 1 + (ks.map g).sum ≤ 1000)
    (hcall : ∀ u ∈ ks, Calls Tryz.prog 149 #[M.ptr u.n] w fun e w' => e = .returned (.int .i64 (g u)) ∧ w' = w) :
    Calls Tryz.prog 149 #[.pointer (some ⟨bn, 0, none⟩)] w fun e w' => e = .returned (.int .i64 ((1 + (ks.map g).sum : Nat) : Int)) ∧ w' = w := by
  have c6 := h.f6
  obtain ⟨p, cap, rfl, hcap, hmax, hcell⟩ := ownsRow_open h.row
  have Hc : Hid (∀ j x, (M.ptrs ks)[j]? = some x → ∃ ib, p = some ⟨ib, 0, none⟩ ∧ w.cell? ⟨ib, j, none⟩ = some x) := hcell
  have Hcall : Hid (∀ u ∈ ks, Calls Tryz.prog 149 #[M.ptr u.n] w fun e w' => e = .returned (.int .i64 (g u)) ∧ w' = w) := hcall
  rw [M.ptrs_len] at *
  have Hb : Hid (1 + (ks.map g).sum ≤ 1000) := hb
  clear h hcell hcall hb
  go_enter Tryz.func149, Tryz.ntmps149
  go_wp2_with fail
  go_loopw [3, 11] (fun a i wr => ∃ k : Nat, k ≤ ks.length ∧ i = .int .i64 k ∧ a = .int .i64 ((1 + ((ks.take k).map g).sum : Nat) : Int) ∧ wr = w) (fun _ i _ => ks.length - (intOf i).toNat)
  case atStart => exact ⟨0, by omega, rfl, by simp, rfl⟩
  case round =>
    obtain ⟨k, hk, rfl, rfl, rfl⟩ := hrel
    by_cases hlt : k < ks.length
    · obtain ⟨u, hu⟩ : ∃ u, ks[k]? = some u := ⟨_, List.getElem?_eq_getElem hlt⟩
      obtain ⟨ib, rfl, hc⟩ := Hc.out k _ (Mm.ptrs_at hu)
      have hum : u ∈ ks := List.mem_of_getElem? hu
      have hgs : ((ks.take (k + 1)).map g).sum = ((ks.take k).map g).sum + g u := by rw [List.take_add_one, hu]; simp
      have hle : ((ks.take (k + 1)).map g).sum ≤ (ks.map g).sum := by
        conv => rhs; rw [← List.take_append_drop (k + 1) ks]
        rw [List.map_append, List.sum_append]; omega
      have hb := Hb.out
      obtain ⟨a, ha⟩ : ∃ a, 1 + ((ks.take k).map g).sum = a := ⟨_, rfl⟩
      obtain ⟨b, hb'⟩ : ∃ b, g u = b := ⟨_, rfl⟩
      have hw1 : a + b ≤ 1000 := by omega
      have hn : 1 + ((ks.take (k + 1)).map g).sum = a + b := by omega
      have HN : Hid (1 + ((ks.take (k + 1)).map g).sum = a + b) := hn
      rw [ha]
      have Hub : Hid (g u = b) := hb'
      clear hn hle hgs ha hb' hb
      go_wp2_with (first | (go_at_call 149; refine (Hcall.out u hum).mono ?_; rw [Hub.out]; rintro e w' ⟨rfl, rfl⟩))
      go_roundw
      case rel => exact ⟨k + 1, by omega, by simp, by rw [HN.out]; simp, trivial⟩
      case measure => simp [intOf]; omega
    · obtain rfl : k = ks.length := by omega
      rw [List.take_length]
      go_wp2_with fail
      go_ret
      exact ⟨rfl, rfl⟩
theorem wCount {M : Mm} {L : List Wn} {last : Int} {N : Nat} {s : Rs} {t : Pt} {rk : Int → Nat} {K : Nat} (T : Tree L rk K) (w : World) (h : DkAt w M L last N s t) (hl : L.length ≤ 16) : ∀ (f : Nat) (v : Wn), v ∈ L → K ≤ rk v.n + f →
    Calls Tryz.prog 149 #[M.ptr v.n] w fun e w' => e = .returned (.int .i64 (cntP L f v.n : Int)) ∧ w' = w := by
  intro f
  induction f with
  | zero =>
    intro v hv hk
    have hn := T.noKids (T.pos hv) (by omega)
    have := wCountStep M v _ _ _ _ _ _ (fun _ => 0) w (h.win v hv) (by rw [hn]; simp) (fun u hu => by rw [hn] at hu; simp at hu)
    simpa [cntP, hn] using this
  | succ f ih =>
    intro v hv hk
    have hc := T.cntLe (f + 1) v hv hk
    refine wCountStep M v _ _ _ _ _ _ (fun u => cntP L f u.n) w (h.win v hv) (by simp only [cntP] at hc; omega) (fun u hu => ?_)
    obtain ⟨hL, hp⟩ := mem_kids.1 hu
    have := (T.up u hL (by have := T.pos hv; omega)).2
    rw [hp] at this
    exact ih u hL (by omega)
end Go.Proofs.YtjlfibhbfdckpaaGreatDoor

/- A region that only reads, in a round of a range over a function: one walk serves every order. -/
namespace Go.Proofs.YtjlfibhbfdckpaaGreatDoor
open Go.RowKit
theorem wpIn_round {F : Fence} {n : Nat} {P : Program} {o : Oper} {a : Act} {w : World} {K : Act → World → Prop} {Q : Exit → Act → World → Prop} (l : Nat) (hro : F.round = none) (hd : ∀ c, o.op ≠ .defer c) (h : o.wpIn F n P a w K Q) : o.wpIn (F.inRound l) n P a w K Q := by
  unfold Oper.wpIn at *
  refine ⟨h.1, ?_⟩
  have e : o.semAt (F.inRound l).round a.eval = o.semAt F.round a.eval := by
    rw [Fence.inRound_round, Oper.semAt_some l _ _ hd, hro]; rfl
  rw [e]
  have h2 := h.2
  generalize (o.semAt F.round a.eval).run P w = r at h2
  cases r with
  | ok x w' => cases x <;> exact h2
  | halt x w' => cases x <;> exact h2
theorem wpOpIn_round {F : Fence} {n : Nat} {P : Program} {ops : Array Oper} {Q : Exit → Act → World → Prop} {K : Act → World → Prop} {i : Nat} {a : Act} {w : World} (l : Nat) (hro : F.round = none) (hd : ∀ o ∈ ops.toList, ∀ c, o.op ≠ .defer c) (h : wpOpIn F n P ops Q i K a w) : wpOpIn (F.inRound l) n P ops Q i K a w := by
  unfold wpOpIn at *
  cases ho : ops[i]? with
  | none => simpa [ho] using h
  | some o =>
    simp only [ho] at h ⊢
    by_cases hw : Region.wanted o (yielded ops a.tmps) = true
    · rw [if_pos hw] at h ⊢
      exact wpIn_round l hro (hd o (by rw [← Array.getElem?_toList] at ho; exact List.mem_of_getElem? ho)) h
    · rw [if_neg hw] at h ⊢
      exact h
theorem wpAnyIn_round {F : Fence} {n : Nat} {P : Program} {md : Region.Mode} {ops : Array Oper} {Q : Exit → Act → World → Prop} (l : Nat) (hro : F.round = none) (hd : ∀ o ∈ ops.toList, ∀ c, o.op ≠ .defer c) : ∀ (fuel : Nat) (listed : Array Bool) (a : Act) (w : World), wpAnyIn F n P md ops Q fuel listed a w → wpAnyIn (F.inRound l) n P md ops Q fuel listed a w
  | 0, _, _, _, h => h
  | fuel + 1, _, _, _, h => ⟨h.1, fun i hi => wpOpIn_round l hro hd (wpOpIn_mono (fun a' w' h' => wpAnyIn_round l hro hd fuel _ a' w' h') (h.2 i hi))⟩
def noDefer (l : List Oper) : Bool := l.all (fun o => match o.op with | .defer _ => false | _ => true)
theorem quiet_round {F : Fence} {n : Nat} {P : Program} {id : Nat} {Q : Exit → Act → World → Prop} {a : Act} {w : World} {ops : List Oper} (l : Nat) (hro : F.round = none) (hm : P.follows .mixedOrders = true) (hB : Region.lexB .any ops.toArray = true) (hd : noDefer ops = true)
    (h : wpQuietIn F n P ops.toArray (fun w' => ∃ n, w' = w.drewN n) (fun a' => ∀ w', (∃ n, w' = w.drewN n) → Q .normal a' w') ops a) : (Code.region id ops.toArray true).wpIn (F.inRound l) n P Q a w := by
  simp only [Region.lexB, Bool.and_eq_true] at hB
  have hd' : ∀ o ∈ ops.toArray.toList, ∀ c, o.op ≠ .defer c := by
    intro o ho c e
    have := List.all_eq_true.1 hd o (by simpa using ho)
    rw [e] at this
    simp at this
  refine wpIn_region_any hm (wpAnyIn_round l hro hd' _ _ _ _ (wpAnyIn_of_quiet (C := fun w' => ∃ n, w' = w.drewN n) (Q := fun a' => ∀ w', (∃ n, w' = w.drewN n) → Q .normal a' w') hro (fun _ w' hw' h => h w' hw') _ _ _ _ ⟨1, rfl⟩ ?_))
  have := wpAnyQIn_lex (F := F) (n := n) (C := fun w' => ∃ n, w' = w.drewN n) (md := .any) hB.1 ops 0 (Array.replicate ops.toArray.size false) a (by simp) (by simpa using hB.2) (by simpa using h)
  simpa using this
end Go.Proofs.YtjlfibhbfdckpaaGreatDoor
