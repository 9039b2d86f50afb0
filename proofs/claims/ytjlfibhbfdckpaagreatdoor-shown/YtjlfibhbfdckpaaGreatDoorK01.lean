/- Texts of the proof, one behind the other: Mem, WdPlain, Gr, Gr2. -/
import Derived.WalkKit
import Derived.Below
import Derived.WalkSmall
import Derived.Deep.MidRow
import Derived.Laws.BitsLemmas
/- Cells and pens in memory. -/
namespace Go.Proofs.YtjlfibhbfdckpaaGreatDoor
open Go.RowKit
structure Pn where
  f : Int
  b : Int
  bo : Bool
  un : Bool
  re : Bool
structure Cel where
  r : Int
  p : Int
  n : Pn
def Pn.plain : Pn := ⟨0, 0, false, false, false⟩
abbrev Pn.agg (n : Pn) : Value := .agg #[.int .i64 n.f, .int .i64 n.b, .bool n.bo, .bool n.un, .bool n.re]
abbrev Cel.vals (c : Cel) : List Value := [.int .i32 c.r, .int .i64 c.p, .int .i64 c.n.f, .int .i64 c.n.b, .bool c.n.bo, .bool c.n.un, .bool c.n.re]
abbrev Cel.agg (c : Cel) : Value := .agg #[.int .i32 c.r, .int .i64 c.p, .int .i64 c.n.f, .int .i64 c.n.b, .bool c.n.bo, .bool c.n.un, .bool c.n.re]
/-- A blank with a pen. -/
def blk (n : Pn) : Cel := ⟨32, 0, n⟩
theorem wrap_id (n : Int) (h0 : -9223372036854775808 ≤ n) (h1 : n ≤ 9223372036854775807) : IntKind.i64.wrap n = n := by
  rw [IntKind.wrap_i64]; omega
theorem heap_new (w : World) (o : Obj) : (w.alloc o).heap[w.heap.size]? = some o := by
  show (w.heap.push o)[w.heap.size]? = some o
  simp
theorem cell_of_block {w : World} {b : Nat} {C : Array Value} {t : TypeId} {fr : Nat × Nat} (hb : w.heap[b]? = some (.cells C t fr)) (o : Nat) : w.cell? ⟨b, o, none⟩ = C[o]? := by
  unfold World.cell?; simp [hb]
theorem frozen_of_block {w : World} {b : Nat} {C : Array Value} {t : TypeId} (hb : w.heap[b]? = some (.cells C t)) (o : Nat) : w.frozen? ⟨b, o, none⟩ = false := by
  unfold World.frozen?; simp [hb]
/-- A cell lies in block g from offset o on. -/
def CelAt (w : World) (g o : Nat) (c : Cel) : Prop := w.cell? ⟨g, o, none⟩ = some (.int .i32 c.r) ∧ w.cell? ⟨g, o + 1, none⟩ = some (.int .i64 c.p) ∧ w.cell? ⟨g, o + 2, none⟩ = some (.int .i64 c.n.f) ∧ w.cell? ⟨g, o + 3, none⟩ = some (.int .i64 c.n.b) ∧ w.cell? ⟨g, o + 4, none⟩ = some (.bool c.n.bo) ∧ w.cell? ⟨g, o + 5, none⟩ = some (.bool c.n.un) ∧ w.cell? ⟨g, o + 6, none⟩ = some (.bool c.n.re)
/-- What is kept: all blocks but those of F. -/
structure Keep (F : Nat → Prop) (w w' : World) : Prop where
  os : w'.os = w.os
  tape : w'.tape = w.tape
  output : w'.output = w.output
  size : w.heap.size ≤ w'.heap.size
  block : ∀ k, k < w.heap.size → ¬ F k → w'.heap[k]? = w.heap[k]?
theorem Keep.refl (F : Nat → Prop) (w : World) : Keep F w w := ⟨rfl, rfl, rfl, Nat.le_refl _, fun _ _ _ => rfl⟩
theorem Keep.trans {F G : Nat → Prop} {a b c : World} (h : Keep F a b) (k : Keep G b c) (hG : ∀ i, i < a.heap.size → G i → F i) : Keep F a c :=
  ⟨k.os.trans h.os, k.tape.trans h.tape, k.output.trans h.output, Nat.le_trans h.size k.size, fun i hi hF =>
    (k.block i (Nat.lt_of_lt_of_le hi h.size) (fun hg => hF (hG i hi hg))).trans (h.block i hi hF)⟩
theorem Keep.below {w w' : World} (F : Nat → Prop) (h : Below w.heap.size w w') : Keep F w w' := ⟨h.os, h.tape, h.output, h.size, fun k hk _ => h.block k hk⟩
theorem Keep.thenBelow {F : Nat → Prop} {a b c : World} (h : Keep F a b) (k : Below b.heap.size b c) : Keep F a c :=
  h.trans (Keep.below F k) (fun _ _ h => h)
theorem Keep.drew {F : Nat → Prop} {a b : World} (h : Keep F a b) : Keep F a b.drew := ⟨h.os, h.tape, h.output, h.size, h.block⟩
theorem Keep.drewN {F : Nat → Prop} {a b : World} (h : Keep F a b) (n : Nat) : Keep F a (b.drewN n) := ⟨h.os, h.tape, h.output, h.size, h.block⟩
theorem Keep.setCell {F : Nat → Prop} {a b : World} (h : Keep F a b) (p : Addr) (u : Value) (hp : p.block < a.heap.size → F p.block) : Keep F a (b.setCell p u) := by
  refine ⟨h.os, h.tape, h.output, ?_, fun k hk hF => ?_⟩
  · have : (b.setCell p u).heap.size = b.heap.size := by simp [World.setCell]
    rw [this]; exact h.size
  · have hne : k ≠ p.block := fun e => hF (e ▸ hp (e ▸ hk))
    rw [Below.heap_setCell b p u k hne]; exact h.block k hk hF
theorem Keep.alloc {F : Nat → Prop} {a b : World} (h : Keep F a b) (o : Obj) : Keep F a (b.alloc o) := by
  have hb : Below b.heap.size b (b.alloc o) := (Below.refl _ _).alloc (Nat.le_refl _) o
  exact h.thenBelow hb
theorem Keep.mono {F G : Nat → Prop} {a b : World} (h : Keep F a b) (hF : ∀ i, F i → G i) : Keep G a b := ⟨h.os, h.tape, h.output, h.size, fun k hk hG => h.block k hk (fun hf => hG (hF k hf))⟩
theorem Keep.toBelow {F : Nat → Prop} {a b : World} {B : Nat} (h : Keep F a b) (hB : B ≤ a.heap.size) (hF : ∀ i, i < B → ¬ F i) : Below B a b :=
  ⟨h.os, h.tape, h.output, h.size, fun k hk => h.block k (Nat.lt_of_lt_of_le hk hB) (hF k hk)⟩
theorem cell_same {w w' : World} {b : Nat} (h : w'.heap[b]? = w.heap[b]?) (o : Nat) : w'.cell? ⟨b, o, none⟩ = w.cell? ⟨b, o, none⟩ := by
  unfold World.cell?; simp [h]
theorem frozen_same {w w' : World} {b : Nat} (h : w'.heap[b]? = w.heap[b]?) (o : Nat) : w'.frozen? ⟨b, o, none⟩ = w.frozen? ⟨b, o, none⟩ := by
  unfold World.frozen?; simp [h]
/-- The cells of a grid of W columns and H lines lie in block g, line behind line. -/
structure Grid (w : World) (g W H : Nat) (G : Nat → Nat → Cel) : Prop where
  cel : ∀ x y, x < W → y < H → CelAt w g ((y * W + x) * 7) (G x y)
  free : ∀ o, w.frozen? ⟨g, o, none⟩ = false
theorem Grid.same {w w' : World} {g W H : Nat} {G : Nat → Nat → Cel} (h : Grid w g W H G) (hb : w'.heap[g]? = w.heap[g]?) : Grid w' g W H G :=
  ⟨fun x y hx hy => by have := h.cel x y hx hy; simpa [CelAt, cell_same hb] using this, fun o => by rw [frozen_same hb]; exact h.free o⟩
theorem CelAt.lt {w : World} {g o : Nat} {c : Cel} (h : CelAt w g o c) : g < w.heap.size := World.block_lt_of_cell? _ _ h.1
theorem place_inj {W x y x' y' : Nat} (hx : x < W) (hx' : x' < W) (h : y * W + x = y' * W + x') : x = x' ∧ y = y' := by
  have hy : y = y' := by
    have a : (y * W + x) / W = y := by rw [Nat.mul_comm, Nat.mul_add_div (by omega)]; simp [Nat.div_eq_of_lt hx]
    have b : (y' * W + x') / W = y' := by rw [Nat.mul_comm, Nat.mul_add_div (by omega)]; simp [Nat.div_eq_of_lt hx']
    rw [← a, ← b, h]
  subst hy
  exact ⟨by omega, rfl⟩
theorem place_lt {W H x y : Nat} (hx : x < W) (hy : y < H) : y * W + x < H * W := by
  have : (y + 1) * W ≤ H * W := Nat.mul_le_mul_right W hy
  rw [Nat.add_mul] at this
  omega
/-- A cell is stored. -/
def put7 (w : World) (g o : Nat) (c : Cel) : World :=
  ((((((w.setCell ⟨g, o, none⟩ (.int .i32 c.r)).setCell ⟨g, o + 1, none⟩ (.int .i64 c.p)).setCell ⟨g, o + 2, none⟩ (.int .i64 c.n.f)).setCell ⟨g, o + 3, none⟩ (.int .i64 c.n.b)).setCell ⟨g, o + 4, none⟩ (.bool c.n.bo)).setCell ⟨g, o + 5, none⟩ (.bool c.n.un)).setCell ⟨g, o + 6, none⟩ (.bool c.n.re)
theorem Keep.put7 {F : Nat → Prop} {a b : World} (h : Keep F a b) (g o : Nat) (c : Cel) (hp : g < a.heap.size → F g) : Keep F a (put7 b g o c) :=
  ((((((h.setCell _ _ hp).setCell _ _ hp).setCell _ _ hp).setCell _ _ hp).setCell _ _ hp).setCell _ _ hp).setCell _ _ hp
theorem set_size (w : World) (a : Addr) (v : Value) : (w.setCell a v).heap.size = w.heap.size := by simp [World.setCell]
theorem put7_size (w : World) (g o : Nat) (c : Cel) : (put7 w g o c).heap.size = w.heap.size := by simp only [put7, set_size]
theorem put7_other (w : World) (g o k : Nat) (c : Cel) (h : k ≠ g) : (put7 w g o c).heap[k]? = w.heap[k]? := by
  unfold put7
  rw [Below.heap_setCell _ _ _ _ h, Below.heap_setCell _ _ _ _ h, Below.heap_setCell _ _ _ _ h, Below.heap_setCell _ _ _ _ h, Below.heap_setCell _ _ _ _ h, Below.heap_setCell _ _ _ _ h, Below.heap_setCell _ _ _ _ h]
theorem set_far (w : World) (g o q : Nat) (v : Value) (h : q ≠ o) : (w.setCell ⟨g, o, none⟩ v).cell? ⟨g, q, none⟩ = w.cell? ⟨g, q, none⟩ :=
  World.cell?_setCell_other _ _ _ _ (by intro e; cases e; exact h rfl)
theorem set_same (w : World) (g o : Nat) (v u : Value) (h : w.cell? ⟨g, o, none⟩ = some u) : (w.setCell ⟨g, o, none⟩ v).cell? ⟨g, o, none⟩ = some v :=
  World.cell?_setCell_same _ _ _ h
theorem set_frozen (w : World) (a b : Addr) (v : Value) : (w.setCell a v).frozen? b = w.frozen? b := World.frozen?_setCell w a b v
/-- The grid with one cell more turned. -/
def upd (G : Nat → Nat → Cel) (x y : Nat) (c : Cel) : Nat → Nat → Cel := fun a b => if a = x ∧ b = y then c else G a b
theorem put7_far {w : World} {g o q : Nat} {c : Cel} (h : q < o ∨ o + 7 ≤ q) : (put7 w g o c).cell? ⟨g, q, none⟩ = w.cell? ⟨g, q, none⟩ := by
  unfold put7
  rw [set_far _ _ _ _ _ (by omega), set_far _ _ _ _ _ (by omega), set_far _ _ _ _ _ (by omega), set_far _ _ _ _ _ (by omega), set_far _ _ _ _ _ (by omega), set_far _ _ _ _ _ (by omega), set_far _ _ _ _ _ (by omega)]
theorem put7_at {w : World} {g o : Nat} {c d : Cel} (h : CelAt w g o d) : CelAt (put7 w g o c) g o c := by
  obtain ⟨h0, h1, h2, h3, h4, h5, h6⟩ := h
  unfold put7
  refine ⟨?_, ?_, ?_, ?_, ?_, ?_, ?_⟩
  · rw [set_far _ _ _ _ _ (by omega), set_far _ _ _ _ _ (by omega), set_far _ _ _ _ _ (by omega), set_far _ _ _ _ _ (by omega), set_far _ _ _ _ _ (by omega), set_far _ _ _ _ _ (by omega)]; refine set_same _ _ _ _ (.int .i32 d.r) ?_; exact h0
  · rw [set_far _ _ _ _ _ (by omega), set_far _ _ _ _ _ (by omega), set_far _ _ _ _ _ (by omega), set_far _ _ _ _ _ (by omega), set_far _ _ _ _ _ (by omega)]; refine set_same _ _ _ _ (.int .i64 d.p) ?_; rw [set_far _ _ _ _ _ (by omega)]; exact h1
  · rw [set_far _ _ _ _ _ (by omega), set_far _ _ _ _ _ (by omega), set_far _ _ _ _ _ (by omega), set_far _ _ _ _ _ (by omega)]; refine set_same _ _ _ _ (.int .i64 d.n.f) ?_; rw [set_far _ _ _ _ _ (by omega), set_far _ _ _ _ _ (by omega)]; exact h2
  · rw [set_far _ _ _ _ _ (by omega), set_far _ _ _ _ _ (by omega), set_far _ _ _ _ _ (by omega)]; refine set_same _ _ _ _ (.int .i64 d.n.b) ?_; rw [set_far _ _ _ _ _ (by omega), set_far _ _ _ _ _ (by omega), set_far _ _ _ _ _ (by omega)]; exact h3
  · rw [set_far _ _ _ _ _ (by omega), set_far _ _ _ _ _ (by omega)]; refine set_same _ _ _ _ (.bool d.n.bo) ?_; rw [set_far _ _ _ _ _ (by omega), set_far _ _ _ _ _ (by omega), set_far _ _ _ _ _ (by omega), set_far _ _ _ _ _ (by omega)]; exact h4
  · rw [set_far _ _ _ _ _ (by omega)]; refine set_same _ _ _ _ (.bool d.n.un) ?_; rw [set_far _ _ _ _ _ (by omega), set_far _ _ _ _ _ (by omega), set_far _ _ _ _ _ (by omega), set_far _ _ _ _ _ (by omega), set_far _ _ _ _ _ (by omega)]; exact h5
  · refine set_same _ _ _ _ (.bool d.n.re) ?_; rw [set_far _ _ _ _ _ (by omega), set_far _ _ _ _ _ (by omega), set_far _ _ _ _ _ (by omega), set_far _ _ _ _ _ (by omega), set_far _ _ _ _ _ (by omega), set_far _ _ _ _ _ (by omega)]; exact h6
theorem Grid.put {w : World} {g W H : Nat} {G : Nat → Nat → Cel} (h : Grid w g W H G) {x y : Nat} (hx : x < W) (hy : y < H) (c : Cel) : Grid (put7 w g ((y * W + x) * 7) c) g W H (upd G x y c) := by
  refine ⟨fun a b ha hb => ?_, fun o => ?_⟩
  · unfold upd
    by_cases e : a = x ∧ b = y
    · rw [if_pos e]; obtain ⟨rfl, rfl⟩ := e; exact put7_at (h.cel _ _ ha hb)
    · rw [if_neg e]
      have hne : b * W + a ≠ y * W + x := fun e' => e (place_inj ha hx e')
      have := h.cel a b ha hb
      simp only [CelAt] at this ⊢
      rw [put7_far (by omega), put7_far (by omega), put7_far (by omega), put7_far (by omega), put7_far (by omega), put7_far (by omega), put7_far (by omega)]
      exact this
  · unfold put7; simp only [set_frozen]; exact h.free o
theorem isSome_set (w : World) (a : Addr) (v : Value) (x : Addr) : ((w.setCell a v).cell? x).isSome = (w.cell? x).isSome := by
  by_cases e : a = x
  · subst e
    cases h : w.cell? a with
    | some u => rw [World.cell?_setCell_same _ _ _ h]; rfl
    | none =>
      unfold World.cell? at h ⊢
      unfold World.setCell
      simp only [Array.getElem?_modify, ↓reduceIte]
      cases hb : w.heap[a.block]? with
      | none => simp
      | some o => cases o <;> simp_all
  · rw [World.cell?_setCell_other _ _ _ _ e]
theorem CelAt.same {w w' : World} {g o : Nat} {c : Cel} (h : CelAt w g o c) (hb : w'.heap[g]? = w.heap[g]?) : CelAt w' g o c := by
  simp only [CelAt, cell_same hb]; exact h
theorem CelAt.below {w w' : World} {B g o : Nat} {c : Cel} (h : CelAt w g o c) (hb : Below B w w') (hg : g < B) : CelAt w' g o c := h.same (hb.block _ hg)
theorem CelAt.put {w : World} {g o b q : Nat} {c d : Cel} (h : CelAt w b q c) (hne : b ≠ g) : CelAt (put7 w g o d) b q c := h.same (put7_other _ _ _ _ _ hne)
theorem _root_.Go.RowKit.Below.cells {B : Nat} {w w' : World} (h : Below B w w') {b : Nat} (hb : b < B) : ∀ o, w'.cell? ⟨b, o, none⟩ = w.cell? ⟨b, o, none⟩ := fun o => h.cell (p := ⟨b, o, none⟩) hb
theorem _root_.Go.RowKit.Below.marks {B : Nat} {w w' : World} (h : Below B w w') {b : Nat} (hb : b < B) : ∀ o, w'.frozen? ⟨b, o, none⟩ = w.frozen? ⟨b, o, none⟩ := fun o => h.frozen (p := ⟨b, o, none⟩) hb
/-- The document's cells: a struct of three cells in block bc, the row in block g. -/
structure Cels (w : World) (bc g cap W H N : Nat) (G : Nat → Nat → Cel) : Prop where
  blk : w.heap[bc]? = some (.cells #[.int .i64 W, .int .i64 H, .slice (some ⟨g, 0, none⟩) N cap] 122)
  grid : Grid w g W H G
  hN : N = H * W
  ne : bc ≠ g
  w1 : 1 ≤ W
  w2 : W ≤ 40
  h1 : 1 ≤ H
  h2 : H ≤ 20
theorem Cels.nle {w : World} {bc g cap W H N : Nat} {G : Nat → Nat → Cel} (h : Cels w bc g cap W H N G) : N ≤ 800 := by
  rw [h.hN]; exact Nat.mul_le_mul h.h2 h.w2
theorem Cels.lt {w : World} {bc g cap W H N : Nat} {G : Nat → Nat → Cel} (h : Cels w bc g cap W H N G) : bc < w.heap.size := by
  have := h.blk
  exact (Array.getElem?_eq_some_iff.1 this).1
theorem Cels.glt {w : World} {bc g cap W H N : Nat} {G : Nat → Nat → Cel} (h : Cels w bc g cap W H N G) : g < w.heap.size := (h.grid.cel 0 0 h.w1 h.h1).lt
theorem Cels.same {w w' : World} {bc g cap W H N : Nat} {G : Nat → Nat → Cel} (h : Cels w bc g cap W H N G) (h1 : w'.heap[bc]? = w.heap[bc]?) (h2 : w'.heap[g]? = w.heap[g]?) : Cels w' bc g cap W H N G :=
  ⟨by rw [h1]; exact h.blk, h.grid.same h2, h.hN, h.ne, h.w1, h.w2, h.h1, h.h2⟩
theorem Cels.below {w w' : World} {bc g cap W H N : Nat} {G : Nat → Nat → Cel} (h : Cels w bc g cap W H N G) (hb : Below w.heap.size w w') : Cels w' bc g cap W H N G :=
  h.same (hb.block _ h.lt) (hb.block _ h.glt)
theorem Cels.put {w : World} {bc g cap W H N : Nat} {G : Nat → Nat → Cel} (h : Cels w bc g cap W H N G) {x y : Nat} (hx : x < W) (hy : y < H) (c : Cel) : Cels (put7 w g ((y * W + x) * 7) c) bc g cap W H N (upd G x y c) :=
  ⟨by rw [put7_other _ _ _ _ _ h.ne]; exact h.blk, h.grid.put hx hy c, h.hN, h.ne, h.w1, h.w2, h.h1, h.h2⟩
theorem Cels.c0 {w : World} {bc g cap W H N : Nat} {G : Nat → Nat → Cel} (h : Cels w bc g cap W H N G) : w.cell? ⟨bc, 0, none⟩ = some (.int .i64 W) := by rw [cell_of_block h.blk]; rfl
theorem Cels.c1 {w : World} {bc g cap W H N : Nat} {G : Nat → Nat → Cel} (h : Cels w bc g cap W H N G) : w.cell? ⟨bc, 1, none⟩ = some (.int .i64 H) := by rw [cell_of_block h.blk]; rfl
theorem Cels.c2 {w : World} {bc g cap W H N : Nat} {G : Nat → Nat → Cel} (h : Cels w bc g cap W H N G) : w.cell? ⟨bc, 2, none⟩ = some (.slice (some ⟨g, 0, none⟩) N cap) := by rw [cell_of_block h.blk]; rfl
theorem Cels.drew {w : World} {bc g cap W H N : Nat} {G : Nat → Nat → Cel} (h : Cels w bc g cap W H N G) : Cels w.drew bc g cap W H N G := h.same rfl rfl
theorem below_drew' {w w' : World} (h : Below w.drew.heap.size w.drew w') : Below w.heap.size w w' := ⟨h.os, h.tape, h.output, h.size, h.block⟩
/-- A pen lies in block b from offset o on. -/
def PenAt (w : World) (b o : Nat) (n : Pn) : Prop := w.cell? ⟨b, o, none⟩ = some (.int .i64 n.f) ∧ w.cell? ⟨b, o + 1, none⟩ = some (.int .i64 n.b) ∧ w.cell? ⟨b, o + 2, none⟩ = some (.bool n.bo) ∧ w.cell? ⟨b, o + 3, none⟩ = some (.bool n.un) ∧ w.cell? ⟨b, o + 4, none⟩ = some (.bool n.re)
theorem PenAt.lt {w : World} {b o : Nat} {n : Pn} (h : PenAt w b o n) : b < w.heap.size := World.block_lt_of_cell? _ _ h.1
theorem PenAt.same {w w' : World} {b o : Nat} {n : Pn} (h : PenAt w b o n) (hb : w'.heap[b]? = w.heap[b]?) : PenAt w' b o n := by
  simp only [PenAt, cell_same hb]; exact h
theorem PenAt.keep {F : Nat → Prop} {w w' : World} {b o : Nat} {n : Pn} (h : PenAt w b o n) (k : Keep F w w') (hF : ¬ F b) : PenAt w' b o n := h.same (k.block _ h.lt hF)
theorem CelAt.keep {F : Nat → Prop} {w w' : World} {b o : Nat} {n : Cel} (h : CelAt w b o n) (k : Keep F w w') (hF : ¬ F b) : CelAt w' b o n := h.same (k.block _ h.lt hF)
theorem pen_new (w : World) (n : Pn) (t : TypeId) : PenAt (w.alloc (.cells #[.int .i64 n.f, .int .i64 n.b, .bool n.bo, .bool n.un, .bool n.re] t)) w.heap.size 0 n := by
  refine ⟨?_, ?_, ?_, ?_, ?_⟩ <;> (rw [cell_of_block (heap_new w _)]; rfl)
theorem size_alloc (w : World) (o : Obj) : (w.alloc o).heap.size = w.heap.size + 1 := by
  show (w.heap.push o).size = _
  simp
end Go.Proofs.YtjlfibhbfdckpaaGreatDoor

/- The width of a letter: plain mathematics. -/
namespace Go.Proofs.YtjlfibhbfdckpaaGreatDoor.Wd
/-- Is n from a to b? -/
def inB (n a b : Int) : Bool := decide (a ≤ n) && decide (n ≤ b)
theorem inB_iff {n a b : Int} : inB n a b = true ↔ a ≤ n ∧ n ≤ b := by simp [inB]
def validB (n : Int) : Bool := inB n 0 55295 || inB n 57344 1114111
def zeroB (n : Int) : Bool := !validB n || decide (n < 32) || inB n 127 159 || inB n 768 879 || inB n 8203 8207
def wideB (n : Int) : Bool := inB n 4352 4447 || inB n 11904 42191 || inB n 44032 55203 || inB n 63744 64255 || inB n 65072 65103 || inB n 65280 65376 || inB n 65504 65510 || inB n 127744 128591 || inB n 131072 262141
/-- The width. -/
def wd (n : Int) : Int := if zeroB n then 0 else if wideB n then 2 else 1
theorem wd_cases (n : Int) : wd n = 0 ∨ wd n = 1 ∨ wd n = 2 := by
  unfold wd
  cases zeroB n <;> cases wideB n <;> simp
theorem valid_cases (n : Int) : (0 ≤ n ∧ n < 55296 ∧ validB n = true) ∨ (57343 < n ∧ n ≤ 1114111 ∧ validB n = true) ∨ (n < 0 ∧ validB n = false) ∨ (55296 ≤ n ∧ n ≤ 57343 ∧ validB n = false) ∨ (1114111 < n ∧ validB n = false) := by
  have a := @inB_iff n 0 55295
  have b := @inB_iff n 57344 1114111
  unfold validB
  cases h1 : inB n 0 55295 <;> cases h2 : inB n 57344 1114111 <;> simp [h1, h2] at a b ⊢ <;> omega
theorem zero_cases (n : Int) : (validB n = false ∧ zeroB n = true) ∨ (validB n = true ∧ n < 32 ∧ zeroB n = true) ∨ (validB n = true ∧ 32 ≤ n ∧ inB n 127 159 = true ∧ zeroB n = true)
    ∨ (validB n = true ∧ 32 ≤ n ∧ inB n 127 159 = false ∧ inB n 768 879 = true ∧ zeroB n = true) ∨ (validB n = true ∧ 32 ≤ n ∧ inB n 127 159 = false ∧ inB n 768 879 = false ∧ inB n 8203 8207 = true ∧ zeroB n = true)
    ∨ (validB n = true ∧ 32 ≤ n ∧ inB n 127 159 = false ∧ inB n 768 879 = false ∧ inB n 8203 8207 = false ∧ zeroB n = false) := by
  unfold zeroB
  by_cases h0 : n < 32
  · cases validB n <;> simp [h0]
  · have h0' : 32 ≤ n := by omega
    cases validB n <;> cases inB n 127 159 <;> cases inB n 768 879 <;> cases inB n 8203 8207 <;> simp [h0, h0']
theorem wide_cases (n : Int) : (inB n 4352 4447 = true ∧ wideB n = true)
    ∨ (inB n 4352 4447 = false ∧ inB n 11904 42191 = true ∧ wideB n = true)
    ∨ (inB n 4352 4447 = false ∧ inB n 11904 42191 = false ∧ inB n 44032 55203 = true ∧ wideB n = true)
    ∨ (inB n 4352 4447 = false ∧ inB n 11904 42191 = false ∧ inB n 44032 55203 = false ∧ inB n 63744 64255 = true ∧ wideB n = true)
    ∨ (inB n 4352 4447 = false ∧ inB n 11904 42191 = false ∧ inB n 44032 55203 = false ∧ inB n 63744 64255 = false ∧ inB n 65072 65103 = true ∧ wideB n = true)
    ∨ (inB n 4352 4447 = false ∧ inB n 11904 42191 = false ∧ inB n 44032 55203 = false ∧ inB n 63744 64255 = false ∧ inB n 65072 65103 = false ∧ inB n 65280 65376 = true ∧ wideB n = true)
    ∨ (inB n 4352 4447 = false ∧ inB n 11904 42191 = false ∧ inB n 44032 55203 = false ∧ inB n 63744 64255 = false ∧ inB n 65072 65103 = false ∧ inB n 65280 65376 = false ∧ inB n 65504 65510 = true ∧ wideB n = true)
    ∨ (inB n 4352 4447 = false ∧ inB n 11904 42191 = false ∧ inB n 44032 55203 = false ∧ inB n 63744 64255 = false ∧ inB n 65072 65103 = false ∧ inB n 65280 65376 = false ∧ inB n 65504 65510 = false ∧ inB n 127744 128591 = true ∧ wideB n = true)
    ∨ (inB n 4352 4447 = false ∧ inB n 11904 42191 = false ∧ inB n 44032 55203 = false ∧ inB n 63744 64255 = false ∧ inB n 65072 65103 = false ∧ inB n 65280 65376 = false ∧ inB n 65504 65510 = false ∧ inB n 127744 128591 = false ∧ inB n 131072 262141 = true ∧ wideB n = true)
    ∨ (inB n 4352 4447 = false ∧ inB n 11904 42191 = false ∧ inB n 44032 55203 = false ∧ inB n 63744 64255 = false ∧ inB n 65072 65103 = false ∧ inB n 65280 65376 = false ∧ inB n 65504 65510 = false ∧ inB n 127744 128591 = false ∧ inB n 131072 262141 = false ∧ wideB n = false) := by
  cases h0 : inB n 4352 4447 with
  | true => simp [wideB, h0]
  | false =>
   cases h1 : inB n 11904 42191 with
   | true => simp [wideB, h0, h1]
   | false =>
    cases h2 : inB n 44032 55203 with
    | true => simp [wideB, h0, h1, h2]
    | false =>
     cases h3 : inB n 63744 64255 with
     | true => simp [wideB, h0, h1, h2, h3]
     | false =>
      cases h4 : inB n 65072 65103 with
      | true => simp [wideB, h0, h1, h2, h3, h4]
      | false =>
       cases h5 : inB n 65280 65376 with
       | true => simp [wideB, h0, h1, h2, h3, h4, h5]
       | false =>
        cases h6 : inB n 65504 65510 with
        | true => simp [wideB, h0, h1, h2, h3, h4, h5, h6]
        | false =>
         cases h7 : inB n 127744 128591 with
         | true => simp [wideB, h0, h1, h2, h3, h4, h5, h6, h7]
         | false =>
          cases h8 : inB n 131072 262141 with
          | true => simp [wideB, h0, h1, h2, h3, h4, h5, h6, h7, h8]
          | false =>
           simp [wideB, h0, h1, h2, h3, h4, h5, h6, h7, h8]
/-- The document's two tables. -/
def zeroL : List (Int × Int) := [(127, 159), (768, 879), (8203, 8207), (55296, 57343)]
def wideL : List (Int × Int) := [(4352, 4447), (11904, 42191), (44032, 55203), (63744, 64255), (65072, 65103), (65280, 65376), (65504, 65510), (127744, 128591), (131072, 262141)]
def anyB (n : Int) (l : List (Int × Int)) : Bool := l.any fun p => inB n p.1 p.2
end Go.Proofs.YtjlfibhbfdckpaaGreatDoor.Wd

/- Grids of cells: plain mathematics. -/
namespace Go.Proofs.YtjlfibhbfdckpaaGreatDoor
open Wd (wd)
/-- Is there such a cell? -/
def inG (W H : Nat) (x y : Int) : Bool := decide (0 ≤ x) && decide (x < W) && decide (0 ≤ y) && decide (y < H)
theorem inG_iff {W H : Nat} {x y : Int} : inG W H x y = true ↔ 0 ≤ x ∧ x < W ∧ 0 ≤ y ∧ y < H := by simp [inG, and_assoc]
/-- A cell is another one; its other half, if it has one, is broken. -/
def setG (W H : Nat) (G : Nat → Nat → Cel) (x y : Int) (k : Cel) : Nat → Nat → Cel :=
  if inG W H x y = true then
    upd (if (G x.toNat y.toNat).p = 1 then upd G (x.toNat + 1) y.toNat (blk (G x.toNat y.toNat).n) else if (G x.toNat y.toNat).p = 2 then upd G (x.toNat - 1) y.toNat (blk (G x.toNat y.toNat).n) else G) x.toNat y.toNat k
  else G
/-- What a grid is: heads have tails, tails heads, letters are of their width. -/
structure Wf (W H : Nat) (G : Nat → Nat → Cel) : Prop where
  part : ∀ x y, x < W → y < H → ((G x y).p = 0 ∧ wd (G x y).r = 1) ∨ ((G x y).p = 1 ∧ wd (G x y).r = 2) ∨ ((G x y).p = 2 ∧ wd (G x y).r = 2)
  head : ∀ x y, x < W → y < H → (G x y).p = 1 → x + 1 < W ∧ G (x + 1) y = ⟨(G x y).r, 2, (G x y).n⟩
  tail : ∀ x y, x < W → y < H → (G x y).p = 2 → 1 ≤ x ∧ G (x - 1) y = ⟨(G x y).r, 1, (G x y).n⟩
/-- The cells of P are written; halves that lose their other half are broken. -/
def wrt (G : Nat → Nat → Cel) (P : Nat → Nat → Bool) (v : Nat → Nat → Cel) : Nat → Nat → Cel := fun a b =>
  if P a b = true then v a b else if ((G a b).p = 1 ∧ P (a + 1) b = true) ∨ ((G a b).p = 2 ∧ 1 ≤ a ∧ P (a - 1) b = true) then blk (G a b).n else G a b
/-- One cell. -/
def pt (x y : Nat) : Nat → Nat → Bool := fun a b => decide (a = x) && decide (b = y)
theorem pt_iff {x y a b : Nat} : pt x y a b = true ↔ a = x ∧ b = y := by simp [pt]
def EqOn (W H : Nat) (G K : Nat → Nat → Cel) : Prop := ∀ x y, x < W → y < H → G x y = K x y
theorem EqOn.symm {W H : Nat} {G K : Nat → Nat → Cel} (h : EqOn W H G K) : EqOn W H K G := fun x y hx hy => (h x y hx hy).symm
theorem EqOn.trans {W H : Nat} {G K L : Nat → Nat → Cel} (h : EqOn W H G K) (k : EqOn W H K L) : EqOn W H G L := fun x y hx hy => (h x y hx hy).trans (k x y hx hy)
theorem Cels.congr {w : World} {bc g cap W H N : Nat} {G K : Nat → Nat → Cel} (h : Cels w bc g cap W H N G) (e : EqOn W H G K) : Cels w bc g cap W H N K :=
  ⟨h.blk, ⟨fun x y hx hy => by rw [← e x y hx hy]; exact h.grid.cel x y hx hy, h.grid.free⟩, h.hN, h.ne, h.w1, h.w2, h.h1, h.h2⟩
theorem Wf.congr {W H : Nat} {G K : Nat → Nat → Cel} (h : Wf W H G) (e : EqOn W H G K) : Wf W H K := by
  refine ⟨fun x y hx hy => ?_, fun x y hx hy hp => ?_, fun x y hx hy hp => ?_⟩
  · rw [← e x y hx hy]; exact h.part x y hx hy
  · rw [← e x y hx hy] at hp ⊢
    obtain ⟨a, b⟩ := h.head x y hx hy hp
    exact ⟨a, by rw [← e _ _ a hy]; exact b⟩
  · rw [← e x y hx hy] at hp ⊢
    obtain ⟨a, b⟩ := h.tail x y hx hy hp
    exact ⟨a, by rw [← e _ _ (by omega) hy]; exact b⟩
theorem wd_32 : wd 32 = 1 := by decide
theorem blk_n (n : Pn) : (blk n).n = n := rfl
/-- Writing twice. -/
theorem wr_wr (G : Nat → Nat → Cel) (P Q : Nat → Nat → Bool) (v u : Nat → Nat → Cel) (hv : ∀ a b, P a b = true → Q a b = false → (v a b).p = 0) :
    wrt (wrt G P v) Q u = wrt G (fun a b => P a b || Q a b) (fun a b => if Q a b = true then u a b else v a b) := by
  funext a b
  unfold wrt
  by_cases hQ : Q a b = true
  · simp [hQ]
  · have hQ' : Q a b = false := by simpa using hQ
    by_cases hP : P a b = true
    · have := hv a b hP hQ'
      simp [hQ', hP, this]
    · have hP' : P a b = false := by simpa using hP
      simp only [hQ', hP', Bool.false_eq_true, if_false, Bool.or_false, Bool.or_eq_true]
      by_cases h1 : ((G a b).p = 1 ∧ P (a + 1) b = true) ∨ ((G a b).p = 2 ∧ 1 ≤ a ∧ P (a - 1) b = true)
      · rw [if_pos h1]
        have h2 : ((G a b).p = 1 ∧ (P (a + 1) b = true ∨ Q (a + 1) b = true)) ∨ ((G a b).p = 2 ∧ 1 ≤ a ∧ (P (a - 1) b = true ∨ Q (a - 1) b = true)) := by
          rcases h1 with ⟨p, q⟩ | ⟨p, q, r⟩
          · exact .inl ⟨p, .inl q⟩
          · exact .inr ⟨p, q, .inl r⟩
        rw [if_pos h2]
        simp [blk]
      · rw [if_neg h1]
        by_cases h3 : ((G a b).p = 1 ∧ Q (a + 1) b = true) ∨ ((G a b).p = 2 ∧ 1 ≤ a ∧ Q (a - 1) b = true)
        · have h2 : ((G a b).p = 1 ∧ (P (a + 1) b = true ∨ Q (a + 1) b = true)) ∨ ((G a b).p = 2 ∧ 1 ≤ a ∧ (P (a - 1) b = true ∨ Q (a - 1) b = true)) := by
            rcases h3 with ⟨p, q⟩ | ⟨p, q, r⟩
            · exact .inl ⟨p, .inr q⟩
            · exact .inr ⟨p, q, .inr r⟩
          rw [if_pos h3, if_pos h2]
        · have h2 : ¬ (((G a b).p = 1 ∧ (P (a + 1) b = true ∨ Q (a + 1) b = true)) ∨ ((G a b).p = 2 ∧ 1 ≤ a ∧ (P (a - 1) b = true ∨ Q (a - 1) b = true))) := by
            rintro (⟨p, q | q⟩ | ⟨p, q, r | r⟩)
            · exact h1 (.inl ⟨p, q⟩)
            · exact h3 (.inl ⟨p, q⟩)
            · exact h1 (.inr ⟨p, q, r⟩)
            · exact h3 (.inr ⟨p, q, r⟩)
          rw [if_neg h3, if_neg h2]
/-- Written cells that make whole letters keep a grid one. -/
theorem Wf.wr_of {W H : Nat} {G : Nat → Nat → Cel} (h : Wf W H G) {P : Nat → Nat → Bool} {v : Nat → Nat → Cel}
    (hp : ∀ x y, x < W → y < H → P x y = true → ((v x y).p = 0 ∧ wd (v x y).r = 1) ∨ ((v x y).p = 1 ∧ wd (v x y).r = 2) ∨ ((v x y).p = 2 ∧ wd (v x y).r = 2))
    (hh : ∀ x y, x < W → y < H → P x y = true → (v x y).p = 1 → x + 1 < W ∧ P (x + 1) y = true ∧ v (x + 1) y = ⟨(v x y).r, 2, (v x y).n⟩)
    (ht : ∀ x y, x < W → y < H → P x y = true → (v x y).p = 2 → 1 ≤ x ∧ P (x - 1) y = true ∧ v (x - 1) y = ⟨(v x y).r, 1, (v x y).n⟩) : Wf W H (wrt G P v) := by
  refine ⟨fun x y hx hy => ?_, fun x y hx hy hq => ?_, fun x y hx hy hq => ?_⟩
  · unfold Go.Proofs.YtjlfibhbfdckpaaGreatDoor.wrt
    split
    · exact hp x y hx hy ‹_›
    · split
      · exact .inl ⟨rfl, wd_32⟩
      · exact h.part x y hx hy
  · unfold Go.Proofs.YtjlfibhbfdckpaaGreatDoor.wrt at hq ⊢
    by_cases hP : P x y = true
    · rw [if_pos hP] at hq ⊢
      obtain ⟨a, b, c⟩ := hh x y hx hy hP hq
      exact ⟨a, by rw [if_pos b]; exact c⟩
    · rw [if_neg hP] at hq ⊢
      split at hq
      · simp [blk] at hq
      · rename_i hn
        rw [if_neg hn]
        obtain ⟨a, b⟩ := h.head x y hx hy hq
        have hP1 : ¬ P (x + 1) y = true := fun e => hn (.inl ⟨hq, e⟩)
        refine ⟨a, ?_⟩
        rw [if_neg hP1, if_neg, b]
        rw [b]
        simp [hP]
  · unfold Go.Proofs.YtjlfibhbfdckpaaGreatDoor.wrt at hq ⊢
    by_cases hP : P x y = true
    · rw [if_pos hP] at hq ⊢
      obtain ⟨a, b, c⟩ := ht x y hx hy hP hq
      exact ⟨a, by rw [if_pos b]; exact c⟩
    · rw [if_neg hP] at hq ⊢
      split at hq
      · simp [blk] at hq
      · rename_i hn
        rw [if_neg hn]
        obtain ⟨a, b⟩ := h.tail x y hx hy hq
        have hP1 : ¬ P (x - 1) y = true := fun e => hn (.inr ⟨hq, a, e⟩)
        refine ⟨a, ?_⟩
        have e1 : x - 1 + 1 = x := by omega
        rw [if_neg hP1, if_neg, b]
        rw [b, e1]
        simp [hP]
/-- Whole cells alone. -/
theorem Wf.wrWhole {W H : Nat} {G : Nat → Nat → Cel} (h : Wf W H G) {P : Nat → Nat → Bool} {v : Nat → Nat → Cel} (hv : ∀ x y, x < W → y < H → P x y = true → (v x y).p = 0 ∧ wd (v x y).r = 1) : Wf W H (wrt G P v) :=
  h.wr_of (fun x y hx hy hP => .inl (hv x y hx hy hP)) (fun x y hx hy hP h1 => by have := (hv x y hx hy hP).1; omega) (fun x y hx hy hP h1 => by have := (hv x y hx hy hP).1; omega)
/-- The document's set is a writing of one cell. -/
theorem setG_wr {W H : Nat} {G : Nat → Nat → Cel} (h : Wf W H G) {x y : Nat} (hx : x < W) (hy : y < H) (k : Cel) : EqOn W H (setG W H G x y k) (wrt G (pt x y) (fun _ _ => k)) := by
  intro a b ha hb
  have hin : inG W H x y = true := inG_iff.2 (by omega)
  unfold setG wrt
  rw [if_pos hin]
  simp only [Int.toNat_natCast, pt_iff]
  unfold upd
  by_cases e : a = x ∧ b = y
  · rw [if_pos e, if_pos e]
  · rw [if_neg e, if_neg e]
    by_cases p1 : (G x y).p = 1
    · obtain ⟨q1, q2⟩ := h.head x y hx hy p1
      rw [if_pos p1]
      by_cases e2 : a = x + 1 ∧ b = y
      · obtain ⟨rfl, rfl⟩ := e2
        rw [if_pos ⟨rfl, rfl⟩, if_pos (.inr ⟨by rw [q2], by omega, by omega, rfl⟩), q2]
      · rw [if_neg e2, if_neg]
        rintro (⟨r1, r2, r3⟩ | ⟨r1, r2, r3, r4⟩)
        · subst r3
          obtain ⟨s1, s2⟩ := h.head a b ha hb r1
          rw [r2] at s2
          rw [s2] at p1
          exact absurd p1 (by simp)
        · exact e2 ⟨by omega, r4⟩
    · rw [if_neg p1]
      by_cases p2 : (G x y).p = 2
      · obtain ⟨q1, q2⟩ := h.tail x y hx hy p2
        rw [if_pos p2]
        by_cases e2 : a = x - 1 ∧ b = y
        · obtain ⟨rfl, rfl⟩ := e2
          rw [if_pos ⟨rfl, rfl⟩, if_pos (.inl ⟨by rw [q2], by omega, rfl⟩), q2]
        · rw [if_neg e2, if_neg]
          rintro (⟨r1, r2, r3⟩ | ⟨r1, r2, r3, r4⟩)
          · exact e2 ⟨by omega, r3⟩
          · subst r4
            obtain ⟨s1, s2⟩ := h.tail a b ha hb r1
            rw [r3] at s2
            rw [s2] at p2
            exact absurd p2 (by simp)
      · rw [if_neg p2, if_neg]
        rintro (⟨r1, r2, r3⟩ | ⟨r1, r2, r3, r4⟩)
        · subst r3
          obtain ⟨s1, s2⟩ := h.head a b ha hb r1
          rw [r2] at s2
          rw [s2] at p2
          exact p2 rfl
        · subst r4
          obtain ⟨s1, s2⟩ := h.tail a b ha hb r1
          rw [r3] at s2
          rw [s2] at p1
          exact p1 rfl
theorem Wf.half {W H : Nat} {G : Nat → Nat → Cel} (h : Wf W H G) (x y : Int) : inG W H x y = true → ((G x.toNat y.toNat).p = 1 → x + 1 < W) ∧ ((G x.toNat y.toNat).p = 2 → 1 ≤ x) := by
  intro hin
  obtain ⟨a, b, c, d⟩ := inG_iff.1 hin
  refine ⟨fun hp => ?_, fun hp => ?_⟩
  · have := (h.head x.toNat y.toNat (by omega) (by omega) hp).1; omega
  · have := (h.tail x.toNat y.toNat (by omega) (by omega) hp).1; omega
/-- The cells of a line from one column to another (not that one). -/
def rg (f t : Int) (y : Nat) : Nat → Nat → Bool := fun a b => decide (b = y) && decide (f ≤ a) && decide ((a : Int) < t)
theorem rg_iff {f t : Int} {y a b : Nat} : rg f t y a b = true ↔ b = y ∧ f ≤ a ∧ (a : Int) < t := by simp [rg, and_assoc]
theorem wr_congr {G : Nat → Nat → Cel} {P Q : Nat → Nat → Bool} {v : Nat → Nat → Cel} (h : ∀ a b, P a b = Q a b) : wrt G P v = wrt G Q v := by
  have : P = Q := by funext a b; exact h a b
  rw [this]
theorem wr_none (G : Nat → Nat → Cel) (P : Nat → Nat → Bool) (v : Nat → Nat → Cel) (h : ∀ a b, P a b = false) : wrt G P v = G := by
  funext a b; simp [wrt, h]
theorem Wf.blk {W H : Nat} {G : Nat → Nat → Cel} (h : Wf W H G) (P : Nat → Nat → Bool) (n : Pn) : Wf W H (wrt G P (fun _ _ => blk n)) :=
  h.wrWhole (fun _ _ _ _ _ => ⟨rfl, wd_32⟩)
end Go.Proofs.YtjlfibhbfdckpaaGreatDoor

/- Grids of cells: more plain mathematics. -/
namespace Go.Proofs.YtjlfibhbfdckpaaGreatDoor
open Wd (wd)
/-- What is written outside the grid does not matter. -/
theorem wr_dom {W H : Nat} {G : Nat → Nat → Cel} (h : Wf W H G) {P Q : Nat → Nat → Bool} {v u : Nat → Nat → Cel} (e : ∀ a b, a < W → b < H → P a b = Q a b) (ev : ∀ a b, a < W → b < H → P a b = true → v a b = u a b) : EqOn W H (wrt G P v) (wrt G Q u) := by
  intro a b ha hb
  unfold wrt
  rw [e a b ha hb]
  by_cases hQ : Q a b = true
  · rw [if_pos hQ, if_pos hQ]; exact ev a b ha hb (by rw [e a b ha hb]; exact hQ)
  · rw [if_neg hQ, if_neg hQ]
    have c : (((G a b).p = 1 ∧ P (a + 1) b = true) ∨ ((G a b).p = 2 ∧ 1 ≤ a ∧ P (a - 1) b = true)) ↔ (((G a b).p = 1 ∧ Q (a + 1) b = true) ∨ ((G a b).p = 2 ∧ 1 ≤ a ∧ Q (a - 1) b = true)) := by
      constructor
      · rintro (⟨p, q⟩ | ⟨p, q, r⟩)
        · exact .inl ⟨p, by rw [← e _ _ (h.head a b ha hb p).1 hb]; exact q⟩
        · exact .inr ⟨p, q, by rw [← e _ _ (by omega) hb]; exact r⟩
      · rintro (⟨p, q⟩ | ⟨p, q, r⟩)
        · exact .inl ⟨p, by rw [e _ _ (h.head a b ha hb p).1 hb]; exact q⟩
        · exact .inr ⟨p, q, by rw [e _ _ (by omega) hb]; exact r⟩
    by_cases hc : ((G a b).p = 1 ∧ P (a + 1) b = true) ∨ ((G a b).p = 2 ∧ 1 ≤ a ∧ P (a - 1) b = true)
    · rw [if_pos hc, if_pos (c.1 hc)]
    · rw [if_neg hc, if_neg (fun x => hc (c.2 x))]
/-- The document's write. -/
def writeG (W H : Nat) (G : Nat → Nat → Cel) (x y : Int) (r : Int) (n : Pn) : Nat → Nat → Cel :=
  if wd r = 1 then setG W H G x y ⟨r, 0, n⟩
  else if inG W H x y = true ∧ inG W H (x + 1) y = true then upd (upd (setG W H (setG W H G x y (blk n)) (x + 1) y (blk n)) x.toNat y.toNat ⟨r, 1, n⟩) (x.toNat + 1) y.toNat ⟨r, 2, n⟩
  else setG W H (setG W H G x y (blk n)) (x + 1) y (blk n)
theorem Wf.set {W H : Nat} {G : Nat → Nat → Cel} (h : Wf W H G) (x y : Int) (k : Cel) (hp : k.p = 0) (hr : wd k.r = 1) : Wf W H (setG W H G x y k) := by
  cases hin : inG W H x y with
  | false => simp [setG, hin]; exact h
  | true =>
    obtain ⟨a, b, c, d⟩ := inG_iff.1 hin
    obtain ⟨x, rfl⟩ := Int.eq_ofNat_of_zero_le a
    obtain ⟨y, rfl⟩ := Int.eq_ofNat_of_zero_le c
    exact (h.wrWhole (P := pt x y) (v := fun _ _ => k) (fun _ _ _ _ _ => ⟨hp, hr⟩)).congr (setG_wr h (by omega) (by omega) k).symm
theorem Wf.setBlk {W H : Nat} {G : Nat → Nat → Cel} (h : Wf W H G) (x y : Int) (n : Pn) : Wf W H (setG W H G x y (Go.Proofs.YtjlfibhbfdckpaaGreatDoor.blk n)) := h.set x y _ rfl wd_32
theorem EqOn.upd {W H : Nat} {G K : Nat → Nat → Cel} (h : EqOn W H G K) (x y : Nat) (c : Cel) : EqOn W H (upd G x y c) (upd K x y c) := fun a b ha hb => by
  unfold Go.Proofs.YtjlfibhbfdckpaaGreatDoor.upd; split
  · rfl
  · exact h a b ha hb
theorem upd_wrt (G : Nat → Nat → Cel) (P : Nat → Nat → Bool) (v : Nat → Nat → Cel) (x y : Nat) (c : Cel) (hP : P x y = true) : upd (wrt G P v) x y c = wrt G P (upd v x y c) := by
  funext a b
  unfold upd wrt
  by_cases e : a = x ∧ b = y
  · obtain ⟨rfl, rfl⟩ := e; simp [hP]
  · simp [e]
theorem writeG_one {W H : Nat} {G : Nat → Nat → Cel} (h : Wf W H G) {x y : Nat} (hx : x < W) (hy : y < H) (r : Int) (n : Pn) (hr : wd r = 1) : EqOn W H (writeG W H G x y r n) (wrt G (pt x y) (fun _ _ => ⟨r, 0, n⟩)) := by
  unfold writeG; rw [if_pos hr]; exact setG_wr h hx hy _
/-- Two cells beside one another. -/
def pt2 (x y : Nat) : Nat → Nat → Bool := fun a b => pt x y a b || pt (x + 1) y a b
def wide (x : Nat) (r : Int) (n : Pn) : Nat → Nat → Cel := fun a _ => if a = x then ⟨r, 1, n⟩ else ⟨r, 2, n⟩
theorem writeG_two {W H : Nat} {G : Nat → Nat → Cel} (h : Wf W H G) {x y : Nat} (hx : x + 1 < W) (hy : y < H) (r : Int) (n : Pn) (hr : wd r = 2) : EqOn W H (writeG W H G x y r n) (wrt G (pt2 x y) (wide x r n)) := by
  have i1 : inG W H x y = true := inG_iff.2 (by omega)
  have i2 : inG W H ((x : Int) + 1) y = true := inG_iff.2 (by omega)
  unfold writeG
  rw [if_neg (by omega), if_pos ⟨i1, i2⟩]
  simp only [Int.toNat_natCast]
  have h1 := setG_wr h (x := x) (y := y) (by omega) hy (Go.Proofs.YtjlfibhbfdckpaaGreatDoor.blk n)
  have w1 : Wf W H (setG W H G x y (Go.Proofs.YtjlfibhbfdckpaaGreatDoor.blk n)) := h.setBlk _ _ _
  have h2 := setG_wr w1 (x := x + 1) (y := y) hx hy (Go.Proofs.YtjlfibhbfdckpaaGreatDoor.blk n)
  have e2 : EqOn W H (wrt (setG W H G x y (Go.Proofs.YtjlfibhbfdckpaaGreatDoor.blk n)) (pt (x + 1) y) (fun _ _ => Go.Proofs.YtjlfibhbfdckpaaGreatDoor.blk n)) (wrt (wrt G (pt x y) (fun _ _ => Go.Proofs.YtjlfibhbfdckpaaGreatDoor.blk n)) (pt (x + 1) y) (fun _ _ => Go.Proofs.YtjlfibhbfdckpaaGreatDoor.blk n)) := by
    intro a b ha hb
    unfold wrt
    have := h1 a b ha hb
    unfold wrt at this
    rw [this]
  rw [wr_wr _ _ _ _ _ (fun _ _ _ _ => rfl)] at e2
  have e3 := ((h2.trans e2).upd x y ⟨r, 1, n⟩).upd (x + 1) y ⟨r, 2, n⟩
  rw [upd_wrt _ _ _ _ _ _ (by simp [pt]), upd_wrt _ _ _ _ _ _ (by simp [pt])] at e3
  refine e3.trans (wr_dom h (fun _ _ _ _ => rfl) (fun a b _ _ hp => ?_))
  simp [pt] at hp
  unfold upd wide
  rcases hp with ⟨rfl, rfl⟩ | ⟨rfl, rfl⟩
  · simp
  · simp
theorem Wf.wide {W H : Nat} {G : Nat → Nat → Cel} (h : Wf W H G) {x y : Nat} (hx : x + 1 < W) (r : Int) (n : Pn) (hr : wd r = 2) : Wf W H (wrt G (pt2 x y) (Go.Proofs.YtjlfibhbfdckpaaGreatDoor.wide x r n)) := by
  refine h.wr_of (fun a b _ _ hp => ?_) (fun a b _ _ hp hq => ?_) (fun a b _ _ hp hq => ?_)
  · unfold Go.Proofs.YtjlfibhbfdckpaaGreatDoor.wide; split
    · exact .inr (.inl ⟨rfl, hr⟩)
    · exact .inr (.inr ⟨rfl, hr⟩)
  · unfold Go.Proofs.YtjlfibhbfdckpaaGreatDoor.wide at hq ⊢
    split at hq
    · subst a
      simp [pt2, pt] at hp ⊢
      exact ⟨hx, hp⟩
    · simp at hq
  · unfold Go.Proofs.YtjlfibhbfdckpaaGreatDoor.wide at hq ⊢
    split at hq
    · simp at hq
    · simp [pt2, pt] at hp
      rename_i hne
      obtain ⟨rfl, rfl⟩ : a = x + 1 ∧ b = y := by omega
      simp [pt2, pt]
end Go.Proofs.YtjlfibhbfdckpaaGreatDoor
