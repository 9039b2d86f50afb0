/- Texts of the proof, one behind the other: Rw, Gr3, Gr4, Gr5, ScP, ScP2, ScP3, ScP4, Nm, ScP5, PlN, ScP6, ScP7, ScP8. -/
import Derived.Test.YtjlfibhbfdckpaaGreatDoorK01
import Derived.Deep.AppendLies
/- Rows of cells that were appended. -/
namespace Go.Proofs.YtjlfibhbfdckpaaGreatDoor
open Go.RowKit
def flat (L : List Cel) : List Value := L.flatMap Cel.vals
theorem flat_length (L : List Cel) : (flat L).length = L.length * 7 := by
  induction L with
  | nil => rfl
  | cons c L ih => simp [flat] at ih ⊢; omega
theorem flat_at (L : List Cel) (i : Nat) (c : Cel) (h : L[i]? = some c) (j : Nat) (v : Value) (hv : c.vals[j]? = some v) : (flat L)[i * 7 + j]? = some v := by
  induction L generalizing i with
  | nil => simp at h
  | cons d L ih =>
    have e : flat (d :: L) = d.vals ++ flat L := by simp [flat]
    rw [e]
    cases i with
    | zero =>
      simp at h; subst h
      have hj : j < 7 := by
        have := (List.getElem?_eq_some_iff.1 hv).1
        simpa using this
      rw [List.getElem?_append_left (by simpa using hj)]
      simpa using hv
    | succ i =>
      rw [List.getElem?_append_right (by simp; omega)]
      have e2 : (i + 1) * 7 + j - d.vals.length = i * 7 + j := by simp; omega
      rw [e2]
      exact ih i (by simpa using h)
theorem row_cel {w : World} {base g n cap : Nat} {L : List Cel} {t : TypeId} (h : w.ownsRow base t 7 (.slice (some ⟨g, 0, none⟩) n cap) n (flat L)) (i : Nat) (c : Cel) (hi : L[i]? = some c) : CelAt w g (i * 7) c := by
  obtain ⟨hl, h | ⟨g', cap', cur, hv, hb, hg, hn, hm, hs, ht⟩⟩ := h
  · simp at h
  · simp at hv
    obtain ⟨rfl, rfl⟩ := hv
    have key : ∀ j v, c.vals[j]? = some v → w.cell? ⟨g, i * 7 + j, none⟩ = some v := by
      intro j v hjv
      rw [cell_of_block hg]
      have := flat_at L i c hi j v hjv
      rw [← ht] at this
      have hlt := (List.getElem?_eq_some_iff.1 this).1
      rw [List.getElem?_take_of_lt (by simp at hlt; omega)] at this
      simpa using this
    exact ⟨key 0 _ rfl, key 1 _ rfl, key 2 _ rfl, key 3 _ rfl, key 4 _ rfl, key 5 _ rfl, key 6 _ rfl⟩
theorem row_free {w : World} {base g n cap : Nat} {xs : List Value} {t : TypeId} (h : w.ownsRow base t 7 (.slice (some ⟨g, 0, none⟩) n cap) n xs) (o : Nat) : w.frozen? ⟨g, o, none⟩ = false := by
  obtain ⟨hl, h | ⟨g', cap', cur, hv, hb, hg, hn, hm, hs, ht⟩⟩ := h
  · simp at h
  · simp at hv
    obtain ⟨rfl, rfl⟩ := hv
    exact frozen_of_block hg o
theorem row_ge {w : World} {base g n cap k : Nat} {xs : List Value} {t : TypeId} (h : w.ownsRow base t 7 (.slice (some ⟨g, 0, none⟩) n cap) k xs) : base ≤ g ∧ g < w.heap.size := h.lt g rfl
theorem one_vals (c : Cel) : ∀ u ∈ c.vals, u.oneCell' = true := by simp [Value.oneCell']
theorem heap_set_same {w : World} {b : Nat} {C : Array Value} {t : TypeId} {fr : Nat × Nat} (h : w.heap[b]? = some (.cells C t fr)) (o : Nat) (v : Value) : (w.setCell ⟨b, o, none⟩ v).heap[b]? = some (.cells (C.setIfInBounds o v) t fr) := by
  unfold World.setCell
  simp [Array.getElem?_modify, h]
theorem Keep.grown {F : Nat → Prop} {a w w' : World} {row : Option Nat} (h : Keep F a w) (hg : w.grownBy w' row) (hr : ∀ k, row = some k → k < a.heap.size → F k) : Keep F a w' :=
  ⟨hg.os.trans h.os, hg.tape.trans h.tape, hg.output.trans h.output, Nat.le_trans h.size hg.size, fun k hk hF =>
    (hg.block k (Nat.lt_of_lt_of_le hk h.size) (fun e => hF (hr k e.symm hk))).trans (h.block k hk hF)⟩
theorem row_slice {w : World} {base t n k : Nat} {xs : List Value} {v : Value} (h : w.ownsRow base t k v n xs) (hn : 1 ≤ n) : ∃ g cap, v = .slice (some ⟨g, 0, none⟩) n cap := by
  obtain ⟨_, ⟨_, h⟩ | ⟨g, cap, _, hv, _⟩⟩ := h
  · omega
  · exact ⟨g, cap, hv⟩
theorem heap_new' (w : World) (o : Obj) (b : Nat) (hb : b = w.heap.size) : (w.alloc o).heap[b]? = some o := by subst hb; exact heap_new w o
theorem cel_new' (w : World) (c : Cel) (q : Int) (h : c.p = q) (t : TypeId) : CelAt (w.alloc (.cells #[.int .i32 c.r, .int .i64 q, .int .i64 c.n.f, .int .i64 c.n.b, .bool c.n.bo, .bool c.n.un, .bool c.n.re] t)) w.heap.size 0 c := by
  subst h
  exact ⟨cell_of_block (heap_new w _) 0, cell_of_block (heap_new w _) 1, cell_of_block (heap_new w _) 2, cell_of_block (heap_new w _) 3, cell_of_block (heap_new w _) 4, cell_of_block (heap_new w _) 5, cell_of_block (heap_new w _) 6⟩
end Go.Proofs.YtjlfibhbfdckpaaGreatDoor

/- Grids of cells: scrolling, sizing. -/
namespace Go.Proofs.YtjlfibhbfdckpaaGreatDoor
open Wd (wd)
/-- Lines move up by n. -/
def scrollG (top bot n : Int) (p : Pn) (G : Nat → Nat → Cel) : Nat → Nat → Cel := fun x y =>
  if top ≤ y ∧ (y : Int) ≤ bot then (if top ≤ y + n ∧ (y : Int) + n ≤ bot then G x (y + n).toNat else blk p) else G x y
/-- The first m cells, line behind line. -/
def cellsTo (W : Nat) (G : Nat → Nat → Cel) (m : Nat) : List Cel := (List.range m).map fun i => G (i % W) (i / W)
theorem Wf.scroll {W H : Nat} {G : Nat → Nat → Cel} (h : Wf W H G) (top bot n : Int) (p : Pn) (ht : 0 ≤ top) (hb : bot < H) : Wf W H (scrollG top bot n p G) := by
  have key : ∀ x y, x < W → y < H → (∃ y', y' < H ∧ (∀ x', scrollG top bot n p G x' y = G x' y')) ∨ (∀ x', scrollG top bot n p G x' y = Go.Proofs.YtjlfibhbfdckpaaGreatDoor.blk p) := by
    intro x y hx hy
    unfold scrollG
    by_cases h1 : top ≤ y ∧ (y : Int) ≤ bot
    · by_cases h2 : top ≤ y + n ∧ (y : Int) + n ≤ bot
      · left; exact ⟨((y : Int) + n).toNat, by omega, fun x' => by rw [if_pos h1, if_pos h2]⟩
      · right; intro x'; rw [if_pos h1, if_neg h2]
    · left; exact ⟨y, hy, fun x' => by rw [if_neg h1]⟩
  refine ⟨fun x y hx hy => ?_, fun x y hx hy hp => ?_, fun x y hx hy hp => ?_⟩
  · rcases key x y hx hy with ⟨y', hy', e⟩ | e
    · rw [e]; exact h.part x y' hx hy'
    · rw [e]; exact .inl ⟨rfl, wd_32⟩
  · rcases key x y hx hy with ⟨y', hy', e⟩ | e
    · rw [e] at hp; rw [e, e]; exact h.head x y' hx hy' hp
    · rw [e] at hp; simp [Go.Proofs.YtjlfibhbfdckpaaGreatDoor.blk] at hp
  · rcases key x y hx hy with ⟨y', hy', e⟩ | e
    · rw [e] at hp; rw [e, e]; exact h.tail x y' hx hy' hp
    · rw [e] at hp; simp [Go.Proofs.YtjlfibhbfdckpaaGreatDoor.blk] at hp
end Go.Proofs.YtjlfibhbfdckpaaGreatDoor

/- Grids of cells: what is broken by sizing. -/
namespace Go.Proofs.YtjlfibhbfdckpaaGreatDoor
open Wd (wd)
/-- Wf, but heads may have been cut off at the last column. -/
structure Aw (W H : Nat) (G : Nat → Nat → Cel) : Prop where
  head : ∀ x y, x + 1 < W → y < H → (G x y).p = 1 → (G (x + 1) y).p = 2
  tail : ∀ x y, x < W → y < H → (G x y).p = 2 → 1 ≤ x ∧ (G (x - 1) y).p = 1
/-- The first m cells have been looked at. -/
def bk (W : Nat) (G : Nat → Nat → Cel) (m : Nat) : Nat → Nat → Cel := fun a b => if b * W + a < m ∧ a + 1 = W ∧ (G a b).p = 1 then blk (G a b).n else G a b
/-- Heads at the last column are broken. -/
def lastG (W : Nat) (G : Nat → Nat → Cel) : Nat → Nat → Cel := fun a b => if a + 1 = W ∧ (G a b).p = 1 then blk (G a b).n else G a b
/-- Another size. -/
def sizedG (W H W' : Nat) (G : Nat → Nat → Cel) : Nat → Nat → Cel := lastG W' (fun a b => if a < W ∧ b < H then G a b else blk Pn.plain)
theorem Wf.sized {W H W' H' : Nat} {G : Nat → Nat → Cel} (h : Wf W H G) : Wf W' H' (sizedG W H W' G) := by
  unfold sizedG lastG
  refine ⟨fun x y hx hy => ?_, fun x y hx hy hp => ?_, fun x y hx hy hp => ?_⟩
  · by_cases c : x < W ∧ y < H
    · simp only [if_pos c]
      split
      · exact .inl ⟨rfl, wd_32⟩
      · exact h.part x y c.1 c.2
    · simp only [if_neg c]
      split <;> exact .inl ⟨rfl, wd_32⟩
  · by_cases c : x < W ∧ y < H
    · simp only [if_pos c] at hp ⊢
      by_cases q : x + 1 = W' ∧ (G x y).p = 1
      · rw [if_pos q] at hp; simp [Go.Proofs.YtjlfibhbfdckpaaGreatDoor.blk] at hp
      · rw [if_neg q] at hp ⊢
        obtain ⟨a, b⟩ := h.head x y c.1 c.2 hp
        refine ⟨by omega, ?_⟩
        simp only [if_pos (show x + 1 < W ∧ y < H from ⟨a, c.2⟩), b]
        simp
    · simp only [if_neg c] at hp; simp [Go.Proofs.YtjlfibhbfdckpaaGreatDoor.blk] at hp
  · by_cases c : x < W ∧ y < H
    · simp only [if_pos c] at hp ⊢
      by_cases q : x + 1 = W' ∧ (G x y).p = 1
      · rw [if_pos q] at hp; simp [Go.Proofs.YtjlfibhbfdckpaaGreatDoor.blk] at hp
      · rw [if_neg q] at hp ⊢
        obtain ⟨a, b⟩ := h.tail x y c.1 c.2 hp
        refine ⟨a, ?_⟩
        simp only [if_pos (show x - 1 < W ∧ y < H from ⟨by omega, c.2⟩), b]
        have : ¬ (x - 1 + 1 = W') := by omega
        simp [this]
    · simp only [if_neg c] at hp; simp [Go.Proofs.YtjlfibhbfdckpaaGreatDoor.blk] at hp
theorem wf_plain (W H : Nat) : Wf W H (fun _ _ => blk Pn.plain) :=
  ⟨fun _ _ _ _ => .inl ⟨rfl, wd_32⟩, fun _ _ _ _ h => by simp [blk] at h, fun _ _ _ _ h => by simp [blk] at h⟩
end Go.Proofs.YtjlfibhbfdckpaaGreatDoor

/- Grids of cells: copying into another size. -/
namespace Go.Proofs.YtjlfibhbfdckpaaGreatDoor
/-- The lines ahead of y, and the columns ahead of x in it, have been copied. -/
def cp (W H : Nat) (G : Nat → Nat → Cel) (x y : Nat) : Nat → Nat → Cel := fun a b => if (b < y ∨ (b = y ∧ a < x)) ∧ a < W ∧ b < H then G a b else blk Pn.plain
theorem Aw.congr {W H : Nat} {G K : Nat → Nat → Cel} (h : Aw W H G) (e : EqOn W H G K) : Aw W H K := by
  refine ⟨fun x y hx hy hp => ?_, fun x y hx hy hp => ?_⟩
  · rw [← e x y (by omega) hy] at hp; rw [← e _ _ hx hy]; exact h.head x y hx hy hp
  · rw [← e x y hx hy] at hp
    obtain ⟨a, b⟩ := h.tail x y hx hy hp
    exact ⟨a, by rw [← e _ _ (by omega) hy]; exact b⟩
end Go.Proofs.YtjlfibhbfdckpaaGreatDoor

/- The document's screen: its state. -/
namespace Go.Proofs.YtjlfibhbfdckpaaGreatDoor
open Wd (wd)
structure Rs where
  W : Nat
  H : Nat
  x : Int
  y : Int
  pend : Bool
  pen : Pn
  top : Int
  bot : Int
  B : ByteArray
  odd : Int
  G : Nat → Nat → Cel
/-- What holds of a screen. -/
structure Rs.Ok (s : Rs) : Prop where
  w1 : 1 ≤ s.W
  w2 : s.W ≤ 40
  h1 : 1 ≤ s.H
  h2 : s.H ≤ 20
  x0 : 0 ≤ s.x
  x1 : s.x < s.W
  y0 : 0 ≤ s.y
  y1 : s.y < s.H
  t0 : 0 ≤ s.top
  tb : s.top ≤ s.bot
  b1 : s.bot < s.H
  pd : s.pend = true → s.x = (s.W : Int) - 1
  wf : Wf s.W s.H s.G
def clampI (v : Int) (m : Nat) : Int := if v < 0 then 0 else if (m : Int) - 1 < v then (m : Int) - 1 else v
theorem clampI_in (v : Int) (m : Nat) (h : 1 ≤ m) : 0 ≤ clampI v m ∧ clampI v m < m := by 
  unfold clampI
  by_cases h1 : v < 0
  · rw [if_pos h1]; omega
  · rw [if_neg h1]
    by_cases h2 : (m : Int) - 1 < v
    · rw [if_pos h2]; omega
    · rw [if_neg h2]; omega
def goesR (s : Rs) (x y : Int) : Rs := { s with x := clampI x s.W, y := clampI y s.H, pend := false }
def backR (s : Rs) : Pn := ⟨0, s.pen.b, false, false, false⟩
def linefeedR (s : Rs) : Rs := if s.y = s.bot then { s with G := scrollG s.top s.bot 1 (backR s) s.G, pend := false } else goesR s s.x (s.y + 1)
/-- The struct's cells. -/
abbrev scrArr (bc : Nat) (s : Rs) : Array Value := #[.pointer (some ⟨bc, 0, none⟩), .int .i64 s.W, .int .i64 s.H, .int .i64 s.x, .int .i64 s.y, .bool s.pend, .int .i64 s.pen.f, .int .i64 s.pen.b, .bool s.pen.bo, .bool s.pen.un, .bool s.pen.re, .int .i64 s.top, .int .i64 s.bot, .bool false, .string s.B, .int .i64 s.odd]
/-- The document's screen lies in blocks bs, bc, g. -/
structure RefAt (w : World) (bs bc g cap N : Nat) (s : Rs) : Prop where
  blk : w.heap[bs]? = some (.cells (scrArr bc s) 104)
  cels : Cels w bc g cap s.W s.H N s.G
  ne1 : bs ≠ bc
  ne2 : bs ≠ g
section
variable {w w' : World} {bs bc g cap N : Nat} {s : Rs}
theorem RefAt.lt (h : RefAt w bs bc g cap N s) : bs < w.heap.size := (Array.getElem?_eq_some_iff.1 h.blk).1
theorem RefAt.same (h : RefAt w bs bc g cap N s) (h1 : w'.heap[bs]? = w.heap[bs]?) (h2 : w'.heap[bc]? = w.heap[bc]?) (h3 : w'.heap[g]? = w.heap[g]?) : RefAt w' bs bc g cap N s :=
  ⟨by rw [h1]; exact h.blk, h.cels.same h2 h3, h.ne1, h.ne2⟩
theorem RefAt.below (h : RefAt w bs bc g cap N s) (hb : Go.RowKit.Below w.heap.size w w') : RefAt w' bs bc g cap N s :=
  h.same (hb.block _ h.lt) (hb.block _ h.cels.lt) (hb.block _ h.cels.glt)
theorem RefAt.free (h : RefAt w bs bc g cap N s) : ∀ o, w.frozen? ⟨bs, o, none⟩ = false := frozen_of_block h.blk
theorem RefAt.drew (h : RefAt w bs bc g cap N s) : RefAt w.drew bs bc g cap N s := h.same rfl rfl rfl
theorem RefAt.store (h : RefAt w bs bc g cap N s) (o : Nat) (v : Value) (s' : Rs) (hs : (scrArr bc s).setIfInBounds o v = scrArr bc s') (hW : s'.W = s.W) (hH : s'.H = s.H) (hG : s'.G = s.G) : RefAt (w.setCell ⟨bs, o, none⟩ v) bs bc g cap N s' := by
  refine ⟨?_, ?_, h.ne1, h.ne2⟩
  · rw [heap_set_same h.blk, hs]
  · rw [hW, hH, hG]
    exact h.cels.same (Go.RowKit.Below.heap_setCell _ _ _ _ (fun e => h.ne1 e.symm)) (Go.RowKit.Below.heap_setCell _ _ _ _ (fun e => h.ne2 e.symm))
/-- The cells change, and nothing else. -/
theorem RefAt.cells {g' cap' : Nat} (h : RefAt w bs bc g cap N s) (s' : Rs) (hb : w'.heap[bs]? = w.heap[bs]?) (hc : Cels w' bc g' cap' s'.W s'.H N s'.G) (hs : scrArr bc s' = scrArr bc s) (hg : bs ≠ g') : RefAt w' bs bc g' cap' N s' :=
  ⟨by rw [hb, hs]; exact h.blk, hc, h.ne1, hg⟩
theorem RefAt.f0 (h : RefAt w bs bc g cap N s) : w.cell? ⟨bs, 0, none⟩ = some (.pointer (some ⟨bc, 0, none⟩)) := cell_of_block h.blk 0
theorem RefAt.f1 (h : RefAt w bs bc g cap N s) : w.cell? ⟨bs, 1, none⟩ = some (.int .i64 s.W) := cell_of_block h.blk 1
theorem RefAt.f2 (h : RefAt w bs bc g cap N s) : w.cell? ⟨bs, 2, none⟩ = some (.int .i64 s.H) := cell_of_block h.blk 2
theorem RefAt.f3 (h : RefAt w bs bc g cap N s) : w.cell? ⟨bs, 3, none⟩ = some (.int .i64 s.x) := cell_of_block h.blk 3
theorem RefAt.f4 (h : RefAt w bs bc g cap N s) : w.cell? ⟨bs, 4, none⟩ = some (.int .i64 s.y) := cell_of_block h.blk 4
theorem RefAt.f5 (h : RefAt w bs bc g cap N s) : w.cell? ⟨bs, 5, none⟩ = some (.bool s.pend) := cell_of_block h.blk 5
theorem RefAt.f6 (h : RefAt w bs bc g cap N s) : w.cell? ⟨bs, 6, none⟩ = some (.int .i64 s.pen.f) := cell_of_block h.blk 6
theorem RefAt.f7 (h : RefAt w bs bc g cap N s) : w.cell? ⟨bs, 7, none⟩ = some (.int .i64 s.pen.b) := cell_of_block h.blk 7
theorem RefAt.f8 (h : RefAt w bs bc g cap N s) : w.cell? ⟨bs, 8, none⟩ = some (.bool s.pen.bo) := cell_of_block h.blk 8
theorem RefAt.f9 (h : RefAt w bs bc g cap N s) : w.cell? ⟨bs, 9, none⟩ = some (.bool s.pen.un) := cell_of_block h.blk 9
theorem RefAt.f10 (h : RefAt w bs bc g cap N s) : w.cell? ⟨bs, 10, none⟩ = some (.bool s.pen.re) := cell_of_block h.blk 10
theorem RefAt.f11 (h : RefAt w bs bc g cap N s) : w.cell? ⟨bs, 11, none⟩ = some (.int .i64 s.top) := cell_of_block h.blk 11
theorem RefAt.f12 (h : RefAt w bs bc g cap N s) : w.cell? ⟨bs, 12, none⟩ = some (.int .i64 s.bot) := cell_of_block h.blk 12
theorem RefAt.f13 (h : RefAt w bs bc g cap N s) : w.cell? ⟨bs, 13, none⟩ = some (.bool false) := cell_of_block h.blk 13
theorem RefAt.f14 (h : RefAt w bs bc g cap N s) : w.cell? ⟨bs, 14, none⟩ = some (.string s.B) := cell_of_block h.blk 14
theorem RefAt.f15 (h : RefAt w bs bc g cap N s) : w.cell? ⟨bs, 15, none⟩ = some (.int .i64 s.odd) := cell_of_block h.blk 15
theorem RefAt.setX (h : RefAt w bs bc g cap N s) (v : Int) : RefAt (w.setCell ⟨bs, 3, none⟩ (.int .i64 v)) bs bc g cap N { s with x := v } := h.store 3 _ { s with x := v } rfl rfl rfl rfl
theorem RefAt.setY (h : RefAt w bs bc g cap N s) (v : Int) : RefAt (w.setCell ⟨bs, 4, none⟩ (.int .i64 v)) bs bc g cap N { s with y := v } := h.store 4 _ { s with y := v } rfl rfl rfl rfl
theorem RefAt.setPend (h : RefAt w bs bc g cap N s) (v : Bool) : RefAt (w.setCell ⟨bs, 5, none⟩ (.bool v)) bs bc g cap N { s with pend := v } := h.store 5 _ { s with pend := v } rfl rfl rfl rfl
theorem RefAt.setTop (h : RefAt w bs bc g cap N s) (v : Int) : RefAt (w.setCell ⟨bs, 11, none⟩ (.int .i64 v)) bs bc g cap N { s with top := v } := h.store 11 _ { s with top := v } rfl rfl rfl rfl
theorem RefAt.setBot (h : RefAt w bs bc g cap N s) (v : Int) : RefAt (w.setCell ⟨bs, 12, none⟩ (.int .i64 v)) bs bc g cap N { s with bot := v } := h.store 12 _ { s with bot := v } rfl rfl rfl rfl
theorem RefAt.setB (h : RefAt w bs bc g cap N s) (v : ByteArray) : RefAt (w.setCell ⟨bs, 14, none⟩ (.string v)) bs bc g cap N { s with B := v } := h.store 14 _ { s with B := v } rfl rfl rfl rfl
theorem RefAt.drewN (h : RefAt w bs bc g cap N s) (n : Nat) : RefAt (w.drewN n) bs bc g cap N s := h.same rfl rfl rfl
end
/-- What a call leaves: a result, and the screen. -/
def RPost (bs bc g : Nat) (w : World) (s : Rs) (r : Value) (e : Ending) (w' : World) : Prop :=
  ∃ g' cap' N', e = .returned r ∧ RefAt w' bs bc g' cap' N' s ∧ Keep (fun i => i = bs ∨ i = bc ∨ i = g) w w' ∧ (g' = g ∨ w.heap.size ≤ g')
end Go.Proofs.YtjlfibhbfdckpaaGreatDoor

/- The document's screen: put. -/
namespace Go.Proofs.YtjlfibhbfdckpaaGreatDoor
open Wd (wd)
/-- The letter that is put, and its width, on a screen of W columns. -/
def effR (W : Nat) (r : Int) : Int := if wd r = 2 ∧ W = 1 then 32 else r
def effW (W : Nat) (r : Int) : Int := if wd r = 2 ∧ W = 1 then 1 else wd r
/-- Does the letter begin a line? -/
def wraps (s : Rs) (k : Int) : Bool := s.pend || (decide (k = 2) && decide (s.x = (s.W : Int) - 1))
def brokenR (s : Rs) (k : Int) : Rs := if wraps s k = true then linefeedR { s with x := 0 } else s
def writeR (s : Rs) (r : Int) : Rs := { s with G := writeG s.W s.H s.G s.x s.y r s.pen }
def stepR (s : Rs) (k : Int) : Rs := if (s.W : Int) ≤ s.x + k then { s with x := (s.W : Int) - 1, pend := true } else { s with x := s.x + k }
def putR (s : Rs) (r : Int) : Rs :=
  if wd r = 0 then { s with odd := Go.RowKit.wrap64 (s.odd + 1) } else stepR (writeR (brokenR s (effW s.W r)) (effR s.W r)) (effW s.W r)
theorem ok_x0' {s : Rs} (h : s.Ok) : Rs.Ok { ({ s with x := 0 } : Rs) with pend := false } := ⟨h.w1, h.w2, h.h1, h.h2, Int.le_refl 0, by have := h.w1; show (0 : Int) < s.W; omega, h.y0, h.y1, h.t0, h.tb, h.b1, (fun q => by cases q), h.wf⟩
theorem Rs.Ok.goes {s : Rs} (h : s.Ok) (x y : Int) : (goesR s x y).Ok := by
  have a := clampI_in x s.W h.w1
  have b := clampI_in y s.H h.h1
  exact ⟨h.w1, h.w2, h.h1, h.h2, a.1, a.2, b.1, b.2, h.t0, h.tb, h.b1, (fun q => by cases q), h.wf⟩
theorem ok_scroll {s : Rs} (h : s.Ok) (n : Int) (p : Pn) : Rs.Ok { s with G := scrollG s.top s.bot n p s.G } :=
  ⟨h.w1, h.w2, h.h1, h.h2, h.x0, h.x1, h.y0, h.y1, h.t0, h.tb, h.b1, h.pd, h.wf.scroll _ _ _ _ h.t0 h.b1⟩
theorem ok_pend {s : Rs} (h : s.Ok) : Rs.Ok { s with pend := false } :=
  ⟨h.w1, h.w2, h.h1, h.h2, h.x0, h.x1, h.y0, h.y1, h.t0, h.tb, h.b1, (fun q => by cases q), h.wf⟩
/-- The cursor at column 0, whatever is pending. -/
theorem ok_lf {s : Rs} (h : s.Ok) : (linefeedR { s with x := 0 }).Ok := by
  have hx : (0 : Int) < s.W := by have := h.w1; omega
  unfold linefeedR
  split
  · exact ⟨h.w1, h.w2, h.h1, h.h2, Int.le_refl 0, hx, h.y0, h.y1, h.t0, h.tb, h.b1, (fun q => by cases q), h.wf.scroll _ _ _ _ h.t0 h.b1⟩
  · have a := clampI_in 0 s.W h.w1
    have b := clampI_in (s.y + 1) s.H h.h1
    exact ⟨h.w1, h.w2, h.h1, h.h2, a.1, a.2, b.1, b.2, h.t0, h.tb, h.b1, (fun q => by cases q), h.wf⟩
theorem Rs.Ok.lf {s : Rs} (h : s.Ok) : (linefeedR s).Ok := by
  unfold linefeedR
  split
  · exact ok_pend (ok_scroll h 1 (backR s))
  · exact h.goes _ _
theorem Rs.Ok.broken {s : Rs} (h : s.Ok) (k : Int) : (brokenR s k).Ok := by
  unfold brokenR
  split
  · exact ok_lf h
  · exact h
end Go.Proofs.YtjlfibhbfdckpaaGreatDoor

/- The document's screen: pens. -/
namespace Go.Proofs.YtjlfibhbfdckpaaGreatDoor
/-- What a number of m does to a pen. -/
def penN (p : Pn) (n : Int) : Pn :=
  if n = 0 then Pn.plain else if n = 1 then { p with bo := true } else if n = 22 then { p with bo := false }
  else if n = 4 then { p with un := true } else if n = 24 then { p with un := false }
  else if n = 7 then { p with re := true } else if n = 27 then { p with re := false }
  else if n = 39 then { p with f := 0 } else if n = 49 then { p with b := 0 }
  else if 30 ≤ n ∧ n ≤ 37 then { p with f := n - 29 } else if 40 ≤ n ∧ n ≤ 47 then { p with b := n - 39 } else p
def penR (s : Rs) (n : Int) : Rs := { s with pen := penN s.pen n }
theorem Rs.Ok.penR {s : Rs} (h : s.Ok) (n : Int) : (penR s n).Ok := ⟨h.w1, h.w2, h.h1, h.h2, h.x0, h.x1, h.y0, h.y1, h.t0, h.tb, h.b1, h.pd, h.wf⟩
end Go.Proofs.YtjlfibhbfdckpaaGreatDoor

/- The document's screen: erasing. -/
namespace Go.Proofs.YtjlfibhbfdckpaaGreatDoor
open Wd (wd)
/-- Which cells are erased. -/
def eraB (how : Int) (all : Bool) (X Y : Int) : Nat → Nat → Bool := fun a b =>
  (decide (how = 2) || (decide (how = 0) && (decide (Y < b) || (decide ((b : Int) = Y) && decide (X ≤ a)))) || (decide (how = 1) && (decide ((b : Int) < Y) || (decide ((b : Int) = Y) && decide ((a : Int) ≤ X))))) && (all || decide ((b : Int) = Y))
/-- The first m cells have been looked at. -/
def eraTo (s : Rs) (how : Int) (all : Bool) (m : Nat) : Nat → Nat → Cel := wrt s.G (fun a b => eraB how all s.x s.y a b && decide (b * s.W + a < m)) (fun _ _ => blk (backR s))
def eraR (s : Rs) (how : Int) (all : Bool) : Rs := { s with G := wrt s.G (eraB how all s.x s.y) (fun _ _ => blk (backR s)) }
theorem Rs.Ok.era {s : Rs} (h : s.Ok) (how : Int) (all : Bool) : (eraR s how all).Ok := ⟨h.w1, h.w2, h.h1, h.h2, h.x0, h.x1, h.y0, h.y1, h.t0, h.tb, h.b1, h.pd, h.wf.blk _ _⟩
end Go.Proofs.YtjlfibhbfdckpaaGreatDoor

/- The numbers of a sequence: plain mathematics, and rows of integers. -/
namespace Go.Proofs.YtjlfibhbfdckpaaGreatDoor
open Go.RowKit
/-- The last number of a list is another one. -/
def setLast (l : List Int) (v : Int) : List Int := l.set (l.length - 1) v
def lastOf (l : List Int) : Int := l.getD (l.length - 1) 0
def capN (n : Int) : Int := if 9999 < n then 9999 else n
def begunL (l : List Int) : List Int := if l = [] then [0] else l
/-- One byte of a sequence; none: it is bad. -/
def numStep (l : List Int) (c : Int) : Option (List Int) :=
  if c = 59 then some (begunL l ++ [0]) else if 48 ≤ c ∧ c ≤ 57 then some (setLast (begunL l) (capN (10 * lastOf (begunL l) + (c - 48)))) else none
def numsTo : List UInt8 → List Int → Option (List Int)
  | [], l => some l
  | c :: r, l => match numStep l c.toNat with
    | none => none
    | some k => numsTo r k
def nums (b : ByteArray) : Option (List Int) := numsTo b.data.toList []
theorem numsTo_append (a b : List UInt8) (l : List Int) : numsTo (a ++ b) l = match numsTo a l with
    | none => none
    | some k => numsTo b k := by
  induction a generalizing l with
  | nil => rfl
  | cons c r ih =>
    simp only [List.cons_append, numsTo]
    cases numStep l c.toNat with
    | none => rfl
    | some k => exact ih k
theorem numsTo_snoc (a : List UInt8) (c : UInt8) (l k : List Int) (h : numsTo a l = some k) : numsTo (a ++ [c]) l = numStep k c.toNat := by
  rw [numsTo_append, h]
  simp only [numsTo]
  cases numStep k c.toNat <;> rfl
theorem take_snoc (s : ByteArray) (k : Nat) (h : k < s.size) : s.data.toList.take (k + 1) = s.data.toList.take k ++ [s[k]] := by
  rw [List.take_succ_eq_append_getElem (by simpa using h)]; rfl
/-- Numbers stay small. -/
def Small (l : List Int) : Prop := ∀ i, 0 ≤ l.getD i 0 ∧ l.getD i 0 ≤ 9999
theorem small_nil : Small [] := fun i => by simp
theorem small_begun {l : List Int} (h : Small l) : Small (begunL l) := by
  unfold begunL
  split
  · intro i; cases i <;> simp
  · exact h
theorem small_snoc {l : List Int} (h : Small l) : Small (l ++ [0]) := by
  intro i
  have := h i
  simp only [List.getD_eq_getElem?_getD] at *
  by_cases hi : i < l.length
  · rw [List.getElem?_append_left hi]; exact this
  · rw [List.getElem?_append_right (by omega)]
    cases i - l.length <;> simp
theorem small_set {l : List Int} (h : Small l) (j : Nat) (v : Int) (h0 : 0 ≤ v) (h1 : v ≤ 9999) : Small (l.set j v) := by
  intro i
  have := h i
  simp only [List.getD_eq_getElem?_getD, List.getElem?_set] at *
  by_cases e : j = i
  · subst e
    by_cases hj : j < l.length
    · simp [hj, h0, h1]
    · simp [hj]
  · simp [e]; exact this
/-- Integers as values. -/
def ivals (l : List Int) : List Value := l.map (fun n => Value.int .i64 n)
end Go.Proofs.YtjlfibhbfdckpaaGreatDoor

/- The document's screen: sequences. -/
namespace Go.Proofs.YtjlfibhbfdckpaaGreatDoor
open Go.RowKit
def oddR (s : Rs) : Rs := { s with odd := wrap64 (s.odd + 1) }
def one1 (n : Int) : Int := if n = 0 then 1 else n
def lowR2 (H : Nat) (k : Int) : Int := if k = 0 ∨ (H : Int) < k then H else k
def marginsR (s : Rs) (n k : Int) : Rs := if n < lowR2 s.H k ∨ (s.H = 1 ∧ n = 1) then goesR { s with top := n - 1, bot := lowR2 s.H k - 1 } 0 0 else s
def pensR (s : Rs) (l : List Int) : Rs := { s with pen := l.foldl penN s.pen }
/-- A sequence that is not bad is done. -/
def doneR (s : Rs) (l : List Int) (last : Int) : Rs :=
  let first := l.getD 0 0
  let second := l.getD 1 0
  let n := one1 first
  if last = 65 then goesR s s.x (s.y - n) else if last = 66 then goesR s s.x (s.y + n) else if last = 67 then goesR s (s.x + n) s.y else if last = 68 then goesR s (s.x - n) s.y
  else if last = 72 then goesR s (one1 second - 1) (n - 1) else if last = 75 then eraR s first false else if last = 74 then eraR s first true
  else if last = 88 then { s with G := wrt s.G (rg s.x (s.x + n) s.y.toNat) (fun _ _ => blk (backR s)) }
  else if last = 83 then { s with G := scrollG s.top s.bot n (backR s) s.G } else if last = 84 then { s with G := scrollG s.top s.bot (-n) (backR s) s.G }
  else if last = 114 then marginsR s n second else if last = 109 then pensR s (begunL l) else oddR s
def seqR (s : Rs) (b : ByteArray) (last : Int) : Rs := match nums b with
  | none => oddR s
  | some l => if l.length ≤ 8 then doneR s l last else oddR s
end Go.Proofs.YtjlfibhbfdckpaaGreatDoor

/- Letters in bytes: plain mathematics. -/
namespace Go.Proofs.YtjlfibhbfdckpaaGreatDoor
/-- How many bytes a letter has that begins so. -/
def longR (c : Int) : Int := if 194 ≤ c ∧ c ≤ 223 then 2 else if 224 ≤ c ∧ c ≤ 239 then 3 else if 240 ≤ c ∧ c ≤ 244 then 4 else 0
/-- Within which bounds a letter goes on that has begun with one byte. -/
def lowR (a : Int) : Int := if a = 224 then 160 else if a = 240 then 144 else 128
def highR (a : Int) : Int := if a = 237 then 159 else if a = 244 then 143 else 191
/-- Can a letter that has come so far go on with a byte? -/
def goesOnB (b : List UInt8) (c : Int) : Bool := match b with
  | [a] => decide (lowR a.toNat ≤ c) && decide (c ≤ highR a.toNat)
  | _ => decide (128 ≤ c) && decide (c ≤ 191)
/-- The code point of a letter's bytes. -/
def letterR (b : List UInt8) : Int := match b with
  | [a, b] => 64 * ((a.toNat : Int) - 192) + b.toNat - 128
  | [a, b, c] => 64 * (64 * ((a.toNat : Int) - 224) + b.toNat - 128) + c.toNat - 128
  | [a, b, c, d] => 64 * (64 * (64 * ((a.toNat : Int) - 240) + b.toNat - 128) + c.toNat - 128) + d.toNat - 128
  | _ => 0
end Go.Proofs.YtjlfibhbfdckpaaGreatDoor

/- The document's screen: bytes. -/
namespace Go.Proofs.YtjlfibhbfdckpaaGreatDoor
/-- A byte in the ground state, while no letter is begun. -/
def groundR (s : Rs) (c : UInt8) : Rs :=
  if (c.toNat : Int) = 13 then goesR s 0 s.y else if (c.toNat : Int) = 10 then linefeedR s else if (c.toNat : Int) = 8 then goesR s (s.x - 1) s.y
  else if (c.toNat : Int) = 27 then { s with B := ⟨#[27]⟩ } else if 32 ≤ (c.toNat : Int) ∧ (c.toNat : Int) ≤ 126 then putR s c.toNat
  else if 0 < longR c.toNat then { s with B := ⟨#[c]⟩ } else oddR s
end Go.Proofs.YtjlfibhbfdckpaaGreatDoor

/- The document's screen: what holds stays so. -/
namespace Go.Proofs.YtjlfibhbfdckpaaGreatDoor
open Wd (wd)
theorem Rs.Ok.cong {s t : Rs} (h : s.Ok) (hW : t.W = s.W) (hH : t.H = s.H) (hx : t.x = s.x) (hy : t.y = s.y) (hp : t.pend = s.pend) (ht : t.top = s.top) (hb : t.bot = s.bot) (hG : t.G = s.G) : t.Ok :=
  ⟨by rw [hW]; exact h.w1, by rw [hW]; exact h.w2, by rw [hH]; exact h.h1, by rw [hH]; exact h.h2, by rw [hx]; exact h.x0, by rw [hx, hW]; exact h.x1, by rw [hy]; exact h.y0, by rw [hy, hH]; exact h.y1, by rw [ht]; exact h.t0, by rw [ht, hb]; exact h.tb, by rw [hb, hH]; exact h.b1, by rw [hp, hx, hW]; exact h.pd, by rw [hW, hH, hG]; exact h.wf⟩
theorem Rs.Ok.odd {s : Rs} (h : s.Ok) : (oddR s).Ok := h.cong rfl rfl rfl rfl rfl rfl rfl rfl
theorem Rs.Ok.setB {s : Rs} (h : s.Ok) (b : ByteArray) : Rs.Ok { s with B := b } := h.cong rfl rfl rfl rfl rfl rfl rfl rfl
theorem Rs.Ok.cells {s : Rs} (h : s.Ok) {G : Nat → Nat → Cel} (hG : Wf s.W s.H G) : Rs.Ok { s with G := G } :=
  ⟨h.w1, h.w2, h.h1, h.h2, h.x0, h.x1, h.y0, h.y1, h.t0, h.tb, h.b1, h.pd, hG⟩
theorem lf_W (s : Rs) : (linefeedR s).W = s.W := by unfold linefeedR; split <;> rfl
theorem broken_W (s : Rs) (k : Int) : (brokenR s k).W = s.W := by
  unfold brokenR; split
  · exact lf_W _
  · rfl
theorem lf_pend (s : Rs) : (linefeedR s).pend = false := by unfold linefeedR; split <;> rfl
theorem lf_x (s : Rs) : (linefeedR s).x = s.x ∨ (linefeedR s).x = clampI s.x s.W := by
  unfold linefeedR; split
  · exact .inl rfl
  · exact .inr rfl
/-- Behind the wrap a letter fits, and nothing is pending. -/
theorem broken_fits {s : Rs} (h : s.Ok) (k : Int) (hk : k = 1 ∨ (k = 2 ∧ s.W ≠ 1)) : (brokenR s k).pend = false ∧ (brokenR s k).x + k ≤ s.W := by
  have w1 := h.w1
  unfold brokenR
  cases hw : wraps s k with
  | true =>
    rw [if_pos rfl]
    refine ⟨lf_pend _, ?_⟩
    have hx : (linefeedR { s with x := 0 }).x = 0 := by
      rcases lf_x { s with x := 0 } with e | e
      · exact e
      · rw [e]; show clampI 0 s.W = 0
        unfold clampI; rw [if_neg (by omega), if_neg (by omega)]
    rw [hx]
    omega
  | false =>
    rw [if_neg (by decide)]
    simp [wraps] at hw
    refine ⟨hw.1, ?_⟩
    have := h.x1
    rcases hk with rfl | ⟨rfl, _⟩
    · omega
    · have := hw.2 rfl; omega
theorem Rs.Ok.put {s : Rs} (h : s.Ok) (r : Int) : (putR s r).Ok := by
  unfold putR
  split
  · exact h.cong rfl rfl rfl rfl rfl rfl rfl rfl
  · rename_i hr
    have hkr : (effW s.W r = 1 ∧ wd (effR s.W r) = 1) ∨ (effW s.W r = 2 ∧ wd (effR s.W r) = 2 ∧ s.W ≠ 1) := by
      unfold effW effR
      by_cases c : wd r = 2 ∧ s.W = 1
      · rw [if_pos c, if_pos c]; exact .inl ⟨rfl, wd_32⟩
      · rw [if_neg c, if_neg c]
        rcases Wd.wd_cases r with q | q | q
        · exact absurd q hr
        · exact .inl ⟨q, q⟩
        · exact .inr ⟨q, q, fun e => c ⟨q, e⟩⟩
    generalize effW s.W r = k at *
    generalize effR s.W r = r' at *
    have hb := h.broken k
    have hf := broken_fits h k (by omega)
    have hW := broken_W s k
    generalize brokenR s k = t at *
    rw [← hW] at hf
    have x0 := hb.x0
    have x1 := hb.x1
    have y0 := hb.y0
    have y1 := hb.y1
    obtain ⟨x, hx⟩ := Int.eq_ofNat_of_zero_le x0
    obtain ⟨y, hy⟩ := Int.eq_ofNat_of_zero_le y0
    have hwf : Wf t.W t.H (writeG t.W t.H t.G t.x t.y r' t.pen) := by
      rw [hx, hy]
      rcases hkr with ⟨rfl, q⟩ | ⟨rfl, q, _⟩
      · exact (hb.wf.wrWhole (P := pt x y) (v := fun _ _ => ⟨r', 0, t.pen⟩) (fun _ _ _ _ _ => ⟨rfl, q⟩)).congr (writeG_one hb.wf (by omega) (by omega) r' t.pen q).symm
      · exact (hb.wf.wide (x := x) (y := y) (by omega) r' t.pen q).congr (writeG_two hb.wf (by omega) (by omega) r' t.pen q).symm
    have hw : (writeR t r').Ok := hb.cells hwf
    unfold stepR
    split
    · exact ⟨hw.w1, hw.w2, hw.h1, hw.h2, by have := hw.w1; show (0 : Int) ≤ (t.W : Int) - 1; have : 1 ≤ t.W := this; omega, by show (t.W : Int) - 1 < t.W; omega, hw.y0, hw.y1, hw.t0, hw.tb, hw.b1, fun _ => rfl, hw.wf⟩
    · rename_i hn
      have hn' : ¬ (t.W : Int) ≤ t.x + k := hn
      exact ⟨hw.w1, hw.w2, hw.h1, hw.h2, by show (0 : Int) ≤ t.x + k; omega, by show t.x + k < (t.W : Int); omega, hw.y0, hw.y1, hw.t0, hw.tb, hw.b1, (fun q => by
        have : t.pend = true := q
        rw [hf.1] at this; cases this), hw.wf⟩
theorem Rs.Ok.margins {s : Rs} (h : s.Ok) (n k : Int) (hn : 1 ≤ n) (hk : 0 ≤ k) : (marginsR s n k).Ok := by
  unfold marginsR
  split
  · rename_i hc
    have h1 := h.h1
    have a := clampI_in 0 s.W h.w1
    have b := clampI_in 0 s.H h.h1
    have hl : lowR2 s.H k ≤ s.H ∧ 1 ≤ lowR2 s.H k := by
      unfold lowR2
      split
      · omega
      · omega
    exact ⟨h.w1, h.w2, h.h1, h.h2, a.1, a.2, b.1, b.2, by show (0 : Int) ≤ n - 1; omega, by show n - 1 ≤ lowR2 s.H k - 1; omega, by show lowR2 s.H k - 1 < s.H; omega, (fun q => by cases q), h.wf⟩
  · exact h
theorem Rs.Ok.done {s : Rs} (h : s.Ok) (l : List Int) (hs : Small l) (last : Int) : (doneR s l last).Ok := by
  have n1 : 1 ≤ one1 (l.getD 0 0) := by
    have := (hs 0).1
    unfold one1; split <;> omega
  unfold doneR
  simp only
  by_cases c1 : last = 65
  · rw [if_pos c1]; exact h.goes _ _
  rw [if_neg c1]
  by_cases c2 : last = 66
  · rw [if_pos c2]; exact h.goes _ _
  rw [if_neg c2]
  by_cases c3 : last = 67
  · rw [if_pos c3]; exact h.goes _ _
  rw [if_neg c3]
  by_cases c4 : last = 68
  · rw [if_pos c4]; exact h.goes _ _
  rw [if_neg c4]
  by_cases c5 : last = 72
  · rw [if_pos c5]; exact h.goes _ _
  rw [if_neg c5]
  by_cases c6 : last = 75
  · rw [if_pos c6]; exact h.era _ _
  rw [if_neg c6]
  by_cases c7 : last = 74
  · rw [if_pos c7]; exact h.era _ _
  rw [if_neg c7]
  by_cases c8 : last = 88
  · rw [if_pos c8]; exact h.cells (h.wf.blk _ _)
  rw [if_neg c8]
  by_cases c9 : last = 83
  · rw [if_pos c9]; exact ok_scroll h _ _
  rw [if_neg c9]
  by_cases c10 : last = 84
  · rw [if_pos c10]; exact ok_scroll h _ _
  rw [if_neg c10]
  by_cases c11 : last = 114
  · rw [if_pos c11]; exact h.margins _ _ n1 (hs 1).1
  rw [if_neg c11]
  by_cases c12 : last = 109
  · rw [if_pos c12]; exact h.cong rfl rfl rfl rfl rfl rfl rfl rfl
  rw [if_neg c12]; exact h.odd
theorem numStep_small {l k : List Int} (h : Small l) (c : Int) (e : numStep l c = some k) : Small k := by
  unfold numStep at e
  split at e
  · cases e; exact small_snoc (small_begun h)
  · split at e
    · rename_i hc
      cases e
      have := (small_begun h) ((begunL l).length - 1)
      have h1 : 0 ≤ lastOf (begunL l) := this.1
      refine small_set (small_begun h) _ _ ?_ ?_
      · unfold capN; split <;> omega
      · unfold capN; split <;> omega
    · cases e
theorem numsTo_small (b : List UInt8) (l k : List Int) (h : Small l) (e : numsTo b l = some k) : Small k := by
  induction b generalizing l with
  | nil => cases e; exact h
  | cons c r ih =>
    simp only [numsTo] at e
    cases hs : numStep l c.toNat with
    | none => rw [hs] at e; cases e
    | some m => rw [hs] at e; exact ih m (numStep_small h _ hs) e
theorem Rs.Ok.seq {s : Rs} (h : s.Ok) (b : ByteArray) (last : Int) : (seqR s b last).Ok := by
  unfold seqR
  cases hn : nums b with
  | none => exact h.odd
  | some l =>
    simp only
    split
    · exact h.done l (numsTo_small _ _ _ small_nil hn) last
    · exact h.odd
theorem Rs.Ok.ground {s : Rs} (h : s.Ok) (c : UInt8) : (groundR s c).Ok := by
  unfold groundR
  split
  · exact h.goes _ _
  · split
    · exact h.lf
    · split
      · exact h.goes _ _
      · split
        · exact h.setB _
        · split
          · exact h.put _
          · split
            · exact h.setB _
            · exact h.odd
end Go.Proofs.YtjlfibhbfdckpaaGreatDoor

/- The document's screen: a byte comes. -/
namespace Go.Proofs.YtjlfibhbfdckpaaGreatDoor
/-- A letter goes on, or ends. -/
def letR (s : Rs) (a : UInt8) (l : List UInt8) (c : UInt8) : Rs :=
  if goesOnB (a :: l) c.toNat = false then groundR (oddR { s with B := ⟨#[]⟩ }) c
  else if longR a.toNat = ((l.length + 2 : Nat) : Int) then putR { s with B := ⟨#[]⟩ } (letterR (a :: l ++ [c])) else { s with B := ⟨(a :: l ++ [c]).toArray⟩ }
def escR (s : Rs) (c : UInt8) : Rs :=
  if (c.toNat : Int) = 91 then { s with B := ⟨#[27, 91]⟩ } else if (c.toNat : Int) = 27 then oddR s else oddR { s with B := ⟨#[]⟩ }
/-- In a sequence of which l has come. -/
def inSeqR (s : Rs) (l : List UInt8) (c : UInt8) : Rs :=
  if (c.toNat : Int) = 27 then oddR { s with B := ⟨#[27]⟩ } else if 64 ≤ (c.toNat : Int) ∧ (c.toNat : Int) ≤ 126 then seqR { s with B := ⟨#[]⟩ } ⟨l.toArray⟩ c.toNat
  else { s with B := ⟨(27 :: 91 :: l ++ [c]).toArray⟩ }
def oneR (s : Rs) (c : UInt8) : Rs := match s.B.data.toList with
  | [] => groundR s c
  | a :: l => if a = 27 then (match l with
    | [] => escR s c
    | _ :: r => inSeqR s r c) else letR s a l c
/-- What has come so far. -/
def BOk (b : ByteArray) : Prop := b = ⟨#[]⟩ ∨ b = ⟨#[27]⟩ ∨ (∃ l : List UInt8, b = ⟨(27 :: 91 :: l).toArray⟩)
  ∨ (∃ a : UInt8, b = ⟨#[a]⟩ ∧ 194 ≤ a.toNat ∧ a.toNat ≤ 244) ∨ (∃ a b' : UInt8, b = ⟨#[a, b']⟩ ∧ 224 ≤ a.toNat ∧ a.toNat ≤ 244 ∧ 128 ≤ b'.toNat ∧ b'.toNat ≤ 191)
  ∨ (∃ a b' d : UInt8, b = ⟨#[a, b', d]⟩ ∧ 240 ≤ a.toNat ∧ a.toNat ≤ 244 ∧ 128 ≤ b'.toNat ∧ b'.toNat ≤ 191 ∧ 128 ≤ d.toNat ∧ d.toNat ≤ 191)
theorem lf_B (s : Rs) : (linefeedR s).B = s.B := by unfold linefeedR; split <;> rfl
theorem put_B (s : Rs) (r : Int) : (putR s r).B = s.B := by
  unfold putR
  split
  · rfl
  · have hb : ∀ k, (brokenR s k).B = s.B := fun k => by
      unfold brokenR; split
      · rw [lf_B]
      · rfl
    have hst : ∀ (t : Rs) k, (stepR t k).B = t.B := fun t k => by unfold stepR; split <;> rfl
    rw [hst]
    exact hb _
theorem done_B (s : Rs) (l : List Int) (last : Int) : (doneR s l last).B = s.B := by
  unfold doneR
  simp only
  by_cases c0 : last = 65
  · rw [if_pos c0]; rfl
  rw [if_neg c0]
  by_cases c1 : last = 66
  · rw [if_pos c1]; rfl
  rw [if_neg c1]
  by_cases c2 : last = 67
  · rw [if_pos c2]; rfl
  rw [if_neg c2]
  by_cases c3 : last = 68
  · rw [if_pos c3]; rfl
  rw [if_neg c3]
  by_cases c4 : last = 72
  · rw [if_pos c4]; rfl
  rw [if_neg c4]
  by_cases c5 : last = 75
  · rw [if_pos c5]; rfl
  rw [if_neg c5]
  by_cases c6 : last = 74
  · rw [if_pos c6]; rfl
  rw [if_neg c6]
  by_cases c7 : last = 88
  · rw [if_pos c7]
  rw [if_neg c7]
  by_cases c8 : last = 83
  · rw [if_pos c8]
  rw [if_neg c8]
  by_cases c9 : last = 84
  · rw [if_pos c9]
  rw [if_neg c9]
  by_cases c10 : last = 114
  · rw [if_pos c10]; unfold marginsR; split <;> rfl
  rw [if_neg c10]
  by_cases c11 : last = 109
  · rw [if_pos c11]; rfl
  rw [if_neg c11]; rfl
theorem lowR_ge (a : Int) : 128 ≤ lowR a := by
  unfold lowR
  split
  · omega
  · split <;> omega
theorem highR_le (a : Int) : highR a ≤ 191 := by
  unfold highR
  split
  · omega
  · split <;> omega
theorem longR_val (a : Int) : (longR a = 2 ∧ 194 ≤ a ∧ a ≤ 223) ∨ (longR a = 3 ∧ 224 ≤ a ∧ a ≤ 239) ∨ (longR a = 4 ∧ 240 ≤ a ∧ a ≤ 244) ∨ (longR a = 0 ∧ (a < 194 ∨ 244 < a)) := by
  unfold longR
  by_cases h1 : 194 ≤ a ∧ a ≤ 223
  · rw [if_pos h1]; exact .inl ⟨rfl, h1⟩
  · rw [if_neg h1]
    by_cases h2 : 224 ≤ a ∧ a ≤ 239
    · rw [if_pos h2]; exact .inr (.inl ⟨rfl, h2⟩)
    · rw [if_neg h2]
      by_cases h3 : 240 ≤ a ∧ a ≤ 244
      · rw [if_pos h3]; exact .inr (.inr (.inl ⟨rfl, h3⟩))
      · rw [if_neg h3]; exact .inr (.inr (.inr ⟨rfl, by omega⟩))
theorem Rs.Ok.one {s : Rs} (h : s.Ok) (c : UInt8) : (oneR s c).Ok := by
  unfold oneR
  split
  · exact h.ground c
  · split
    · split
      · unfold escR
        split
        · exact h.setB _
        · split
          · exact h.odd
          · exact (h.setB _).odd
      · unfold inSeqR
        split
        · exact (h.setB _).odd
        · split
          · exact (h.setB _).seq _ _
          · exact h.setB _
    · unfold letR
      split
      · exact ((h.setB _).odd).ground c
      · split
        · exact (h.setB _).put _
        · exact h.setB _
def feedR (s : Rs) (l : List UInt8) : Rs := l.foldl oneR s
end Go.Proofs.YtjlfibhbfdckpaaGreatDoor
