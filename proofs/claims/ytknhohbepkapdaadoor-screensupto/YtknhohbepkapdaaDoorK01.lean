/- Texts of the proof, one behind the other: Mem, WdPlain, PgA. -/
import Derived.WalkKit
import Derived.Below
import Derived.WalkSmall
import Derived.Deep.MidRow
import Derived.Laws.BitsLemmas
import Derived.Test.YtknhohbepkapdaaDoorChecked
import Derived.WalkSpells
import Derived.WalkLawsBesides
/- Cells and pens in memory. -/
namespace Go.Proofs.YtknhohbepkapdaaDoor
open Go.RowKit
structure Pn where
  f : Int
  b : Int
  bo : Bool
  un : Bool
  re : Bool
structure Cel where
  r : Int
  p : Int
  n : Pn
def Pn.plain : Pn := ⟨0, 0, false, false, false⟩
abbrev Pn.agg (n : Pn) : Value := .agg #[.int .i64 n.f, .int .i64 n.b, .bool n.bo, .bool n.un, .bool n.re]
abbrev Cel.vals (c : Cel) : List Value := [.int .i32 c.r, .int .i64 c.p, .int .i64 c.n.f, .int .i64 c.n.b, .bool c.n.bo, .bool c.n.un, .bool c.n.re]
abbrev Cel.agg (c : Cel) : Value := .agg #[.int .i32 c.r, .int .i64 c.p, .int .i64 c.n.f, .int .i64 c.n.b, .bool c.n.bo, .bool c.n.un, .bool c.n.re]
/-- A blank with a pen. -/
def blk (n : Pn) : Cel := ⟨32, 0, n⟩
theorem wrap_id (n : Int) (h0 : -9223372036854775808 ≤ n) (h1 : n ≤ 9223372036854775807) : IntKind.i64.wrap n = n := by
  rw [IntKind.wrap_i64]; omega
theorem heap_new (w : World) (o : Obj) : (w.alloc o).heap[w.heap.size]? = some o := by
  show (w.heap.push o)[w.heap.size]? = some o
  simp
theorem cell_of_block {w : World} {b : Nat} {C : Array Value} {t : TypeId} {fr : Nat × Nat} (hb : w.heap[b]? = some (.cells C t fr)) (o : Nat) : w.cell? ⟨b, o, none⟩ = C[o]? := by
  unfold World.cell?; simp [hb]
theorem frozen_of_block {w : World} {b : Nat} {C : Array Value} {t : TypeId} (hb : w.heap[b]? = some (.cells C t)) (o : Nat) : w.frozen? ⟨b, o, none⟩ = false := by
  unfold World.frozen?; simp [hb]
theorem there_new (w : World) (o : Nat) (a : Array Value) (t : TypeId) (n : Nat) (h : o + n ≤ a.size) : (w.alloc (.cells a t)).there w.heap.size o n := by
  intro j hj
  rw [cell_of_block (heap_new w _), frozen_of_block (heap_new w _)]
  exact ⟨by simp; omega, rfl⟩
theorem range_new (w : World) (a : List Value) (t : TypeId) : (w.alloc (.cells a.toArray t)).rangeAt w.heap.size 0 a := by
  intro j v hv
  rw [cell_of_block (heap_new w _)]
  simpa using hv
theorem rangeAt_below {w w' : World} {B b o : Nat} {cs : List Value} (h : Below B w w') (hb : b < B) (hr : w.rangeAt b o cs) : w'.rangeAt b o cs := fun j v hv => by
  rw [h.cell (p := ⟨b, o + j, none⟩) hb]; exact hr j v hv
theorem there_below {w w' : World} {B b o n : Nat} (h : Below B w w') (hb : b < B) (hr : w.there b o n) : w'.there b o n := fun j hj => by
  rw [h.cell (p := ⟨b, o + j, none⟩) hb, h.frozen (p := ⟨b, o + j, none⟩) hb]; exact hr j hj
theorem cel_ext {a b : Cel} (h : a.vals = b.vals) : a = b := by
  obtain ⟨r, p, f, g, x, y, z⟩ := a
  obtain ⟨r', p', f', g', x', y', z'⟩ := b
  simp at h
  simp [h]
/-- A cell lies in block g from offset o on. -/
def CelAt (w : World) (g o : Nat) (c : Cel) : Prop := w.cell? ⟨g, o, none⟩ = some (.int .i32 c.r) ∧ w.cell? ⟨g, o + 1, none⟩ = some (.int .i64 c.p) ∧ w.cell? ⟨g, o + 2, none⟩ = some (.int .i64 c.n.f) ∧ w.cell? ⟨g, o + 3, none⟩ = some (.int .i64 c.n.b) ∧ w.cell? ⟨g, o + 4, none⟩ = some (.bool c.n.bo) ∧ w.cell? ⟨g, o + 5, none⟩ = some (.bool c.n.un) ∧ w.cell? ⟨g, o + 6, none⟩ = some (.bool c.n.re)
/-- What is kept: all blocks but those of F. -/
structure Keep (F : Nat → Prop) (w w' : World) : Prop where
  os : w'.os = w.os
  tape : w'.tape = w.tape
  output : w'.output = w.output
  size : w.heap.size ≤ w'.heap.size
  block : ∀ k, k < w.heap.size → ¬ F k → w'.heap[k]? = w.heap[k]?
theorem Keep.refl (F : Nat → Prop) (w : World) : Keep F w w := ⟨rfl, rfl, rfl, Nat.le_refl _, fun _ _ _ => rfl⟩
theorem Keep.trans {F G : Nat → Prop} {a b c : World} (h : Keep F a b) (k : Keep G b c) (hG : ∀ i, i < a.heap.size → G i → F i) : Keep F a c :=
  ⟨k.os.trans h.os, k.tape.trans h.tape, k.output.trans h.output, Nat.le_trans h.size k.size, fun i hi hF =>
    (k.block i (Nat.lt_of_lt_of_le hi h.size) (fun hg => hF (hG i hi hg))).trans (h.block i hi hF)⟩
theorem Keep.below {w w' : World} (F : Nat → Prop) (h : Below w.heap.size w w') : Keep F w w' := ⟨h.os, h.tape, h.output, h.size, fun k hk _ => h.block k hk⟩
theorem Keep.thenBelow {F : Nat → Prop} {a b c : World} (h : Keep F a b) (k : Below b.heap.size b c) : Keep F a c :=
  h.trans (Keep.below F k) (fun _ _ h => h)
theorem Keep.drew {F : Nat → Prop} {a b : World} (h : Keep F a b) : Keep F a b.drew := ⟨h.os, h.tape, h.output, h.size, h.block⟩
theorem Keep.drewN {F : Nat → Prop} {a b : World} (h : Keep F a b) (n : Nat) : Keep F a (b.drewN n) := ⟨h.os, h.tape, h.output, h.size, h.block⟩
theorem Keep.setCell {F : Nat → Prop} {a b : World} (h : Keep F a b) (p : Addr) (u : Value) (hp : p.block < a.heap.size → F p.block) : Keep F a (b.setCell p u) := by
  refine ⟨h.os, h.tape, h.output, ?_, fun k hk hF => ?_⟩
  · have : (b.setCell p u).heap.size = b.heap.size := by simp [World.setCell]
    rw [this]; exact h.size
  · have hne : k ≠ p.block := fun e => hF (e ▸ hp (e ▸ hk))
    rw [Below.heap_setCell b p u k hne]; exact h.block k hk hF
theorem Keep.alloc {F : Nat → Prop} {a b : World} (h : Keep F a b) (o : Obj) : Keep F a (b.alloc o) := by
  have hb : Below b.heap.size b (b.alloc o) := (Below.refl _ _).alloc (Nat.le_refl _) o
  exact h.thenBelow hb
theorem Keep.mono {F G : Nat → Prop} {a b : World} (h : Keep F a b) (hF : ∀ i, F i → G i) : Keep G a b := ⟨h.os, h.tape, h.output, h.size, fun k hk hG => h.block k hk (fun hf => hG (hF k hf))⟩
theorem Keep.toBelow {F : Nat → Prop} {a b : World} {B : Nat} (h : Keep F a b) (hB : B ≤ a.heap.size) (hF : ∀ i, i < B → ¬ F i) : Below B a b :=
  ⟨h.os, h.tape, h.output, h.size, fun k hk => h.block k (Nat.lt_of_lt_of_le hk hB) (hF k hk)⟩
theorem cell_same {w w' : World} {b : Nat} (h : w'.heap[b]? = w.heap[b]?) (o : Nat) : w'.cell? ⟨b, o, none⟩ = w.cell? ⟨b, o, none⟩ := by
  unfold World.cell?; simp [h]
theorem frozen_same {w w' : World} {b : Nat} (h : w'.heap[b]? = w.heap[b]?) (o : Nat) : w'.frozen? ⟨b, o, none⟩ = w.frozen? ⟨b, o, none⟩ := by
  unfold World.frozen?; simp [h]
/-- The cells of a grid of W columns and H lines lie in block g, line behind line. -/
structure Grid (w : World) (g W H : Nat) (G : Nat → Nat → Cel) : Prop where
  cel : ∀ x y, x < W → y < H → CelAt w g ((y * W + x) * 7) (G x y)
  free : ∀ o, w.frozen? ⟨g, o, none⟩ = false
theorem Grid.same {w w' : World} {g W H : Nat} {G : Nat → Nat → Cel} (h : Grid w g W H G) (hb : w'.heap[g]? = w.heap[g]?) : Grid w' g W H G :=
  ⟨fun x y hx hy => by have := h.cel x y hx hy; simpa [CelAt, cell_same hb] using this, fun o => by rw [frozen_same hb]; exact h.free o⟩
theorem CelAt.lt {w : World} {g o : Nat} {c : Cel} (h : CelAt w g o c) : g < w.heap.size := World.block_lt_of_cell? _ _ h.1
theorem place_inj {W x y x' y' : Nat} (hx : x < W) (hx' : x' < W) (h : y * W + x = y' * W + x') : x = x' ∧ y = y' := by
  have hy : y = y' := by
    have a : (y * W + x) / W = y := by rw [Nat.mul_comm, Nat.mul_add_div (by omega)]; simp [Nat.div_eq_of_lt hx]
    have b : (y' * W + x') / W = y' := by rw [Nat.mul_comm, Nat.mul_add_div (by omega)]; simp [Nat.div_eq_of_lt hx']
    rw [← a, ← b, h]
  subst hy
  exact ⟨by omega, rfl⟩
theorem place_lt {W H x y : Nat} (hx : x < W) (hy : y < H) : y * W + x < H * W := by
  have : (y + 1) * W ≤ H * W := Nat.mul_le_mul_right W hy
  rw [Nat.add_mul] at this
  omega
/-- A cell is stored. -/
def put7 (w : World) (g o : Nat) (c : Cel) : World :=
  ((((((w.setCell ⟨g, o, none⟩ (.int .i32 c.r)).setCell ⟨g, o + 1, none⟩ (.int .i64 c.p)).setCell ⟨g, o + 2, none⟩ (.int .i64 c.n.f)).setCell ⟨g, o + 3, none⟩ (.int .i64 c.n.b)).setCell ⟨g, o + 4, none⟩ (.bool c.n.bo)).setCell ⟨g, o + 5, none⟩ (.bool c.n.un)).setCell ⟨g, o + 6, none⟩ (.bool c.n.re)
theorem Keep.put7 {F : Nat → Prop} {a b : World} (h : Keep F a b) (g o : Nat) (c : Cel) (hp : g < a.heap.size → F g) : Keep F a (put7 b g o c) :=
  ((((((h.setCell _ _ hp).setCell _ _ hp).setCell _ _ hp).setCell _ _ hp).setCell _ _ hp).setCell _ _ hp).setCell _ _ hp
theorem set_size (w : World) (a : Addr) (v : Value) : (w.setCell a v).heap.size = w.heap.size := by simp [World.setCell]
theorem put7_size (w : World) (g o : Nat) (c : Cel) : (put7 w g o c).heap.size = w.heap.size := by simp only [put7, set_size]
theorem put7_other (w : World) (g o k : Nat) (c : Cel) (h : k ≠ g) : (put7 w g o c).heap[k]? = w.heap[k]? := by
  unfold put7
  rw [Below.heap_setCell _ _ _ _ h, Below.heap_setCell _ _ _ _ h, Below.heap_setCell _ _ _ _ h, Below.heap_setCell _ _ _ _ h, Below.heap_setCell _ _ _ _ h, Below.heap_setCell _ _ _ _ h, Below.heap_setCell _ _ _ _ h]
theorem set_far (w : World) (g o q : Nat) (v : Value) (h : q ≠ o) : (w.setCell ⟨g, o, none⟩ v).cell? ⟨g, q, none⟩ = w.cell? ⟨g, q, none⟩ :=
  World.cell?_setCell_other _ _ _ _ (by intro e; cases e; exact h rfl)
theorem set_same (w : World) (g o : Nat) (v u : Value) (h : w.cell? ⟨g, o, none⟩ = some u) : (w.setCell ⟨g, o, none⟩ v).cell? ⟨g, o, none⟩ = some v :=
  World.cell?_setCell_same _ _ _ h
theorem set_frozen (w : World) (a b : Addr) (v : Value) : (w.setCell a v).frozen? b = w.frozen? b := World.frozen?_setCell w a b v
/-- The grid with one cell more turned. -/
def upd (G : Nat → Nat → Cel) (x y : Nat) (c : Cel) : Nat → Nat → Cel := fun a b => if a = x ∧ b = y then c else G a b
theorem put7_far {w : World} {g o q : Nat} {c : Cel} (h : q < o ∨ o + 7 ≤ q) : (put7 w g o c).cell? ⟨g, q, none⟩ = w.cell? ⟨g, q, none⟩ := by
  unfold put7
  rw [set_far _ _ _ _ _ (by omega), set_far _ _ _ _ _ (by omega), set_far _ _ _ _ _ (by omega), set_far _ _ _ _ _ (by omega), set_far _ _ _ _ _ (by omega), set_far _ _ _ _ _ (by omega), set_far _ _ _ _ _ (by omega)]
theorem put7_at {w : World} {g o : Nat} {c d : Cel} (h : CelAt w g o d) : CelAt (put7 w g o c) g o c := by
  obtain ⟨h0, h1, h2, h3, h4, h5, h6⟩ := h
  unfold put7
  refine ⟨?_, ?_, ?_, ?_, ?_, ?_, ?_⟩
  · rw [set_far _ _ _ _ _ (by omega), set_far _ _ _ _ _ (by omega), set_far _ _ _ _ _ (by omega), set_far _ _ _ _ _ (by omega), set_far _ _ _ _ _ (by omega), set_far _ _ _ _ _ (by omega)]; refine set_same _ _ _ _ (.int .i32 d.r) ?_; exact h0
  · rw [set_far _ _ _ _ _ (by omega), set_far _ _ _ _ _ (by omega), set_far _ _ _ _ _ (by omega), set_far _ _ _ _ _ (by omega), set_far _ _ _ _ _ (by omega)]; refine set_same _ _ _ _ (.int .i64 d.p) ?_; rw [set_far _ _ _ _ _ (by omega)]; exact h1
  · rw [set_far _ _ _ _ _ (by omega), set_far _ _ _ _ _ (by omega), set_far _ _ _ _ _ (by omega), set_far _ _ _ _ _ (by omega)]; refine set_same _ _ _ _ (.int .i64 d.n.f) ?_; rw [set_far _ _ _ _ _ (by omega), set_far _ _ _ _ _ (by omega)]; exact h2
  · rw [set_far _ _ _ _ _ (by omega), set_far _ _ _ _ _ (by omega), set_far _ _ _ _ _ (by omega)]; refine set_same _ _ _ _ (.int .i64 d.n.b) ?_; rw [set_far _ _ _ _ _ (by omega), set_far _ _ _ _ _ (by omega), set_far _ _ _ _ _ (by omega)]; exact h3
  · rw [set_far _ _ _ _ _ (by omega), set_far _ _ _ _ _ (by omega)]; refine set_same _ _ _ _ (.bool d.n.bo) ?_; rw [set_far _ _ _ _ _ (by omega), set_far _ _ _ _ _ (by omega), set_far _ _ _ _ _ (by omega), set_far _ _ _ _ _ (by omega)]; exact h4
  · rw [set_far _ _ _ _ _ (by omega)]; refine set_same _ _ _ _ (.bool d.n.un) ?_; rw [set_far _ _ _ _ _ (by omega), set_far _ _ _ _ _ (by omega), set_far _ _ _ _ _ (by omega), set_far _ _ _ _ _ (by omega), set_far _ _ _ _ _ (by omega)]; exact h5
  · refine set_same _ _ _ _ (.bool d.n.re) ?_; rw [set_far _ _ _ _ _ (by omega), set_far _ _ _ _ _ (by omega), set_far _ _ _ _ _ (by omega), set_far _ _ _ _ _ (by omega), set_far _ _ _ _ _ (by omega), set_far _ _ _ _ _ (by omega)]; exact h6
theorem Grid.put {w : World} {g W H : Nat} {G : Nat → Nat → Cel} (h : Grid w g W H G) {x y : Nat} (hx : x < W) (hy : y < H) (c : Cel) : Grid (put7 w g ((y * W + x) * 7) c) g W H (upd G x y c) := by
  refine ⟨fun a b ha hb => ?_, fun o => ?_⟩
  · unfold upd
    by_cases e : a = x ∧ b = y
    · rw [if_pos e]; obtain ⟨rfl, rfl⟩ := e; exact put7_at (h.cel _ _ ha hb)
    · rw [if_neg e]
      have hne : b * W + a ≠ y * W + x := fun e' => e (place_inj ha hx e')
      have := h.cel a b ha hb
      simp only [CelAt] at this ⊢
      rw [put7_far (by omega), put7_far (by omega), put7_far (by omega), put7_far (by omega), put7_far (by omega), put7_far (by omega), put7_far (by omega)]
      exact this
  · unfold put7; simp only [set_frozen]; exact h.free o
theorem isSome_set (w : World) (a : Addr) (v : Value) (x : Addr) : ((w.setCell a v).cell? x).isSome = (w.cell? x).isSome := by
  by_cases e : a = x
  · subst e
    cases h : w.cell? a with
    | some u => rw [World.cell?_setCell_same _ _ _ h]; rfl
    | none =>
      unfold World.cell? at h ⊢
      unfold World.setCell
      simp only [Array.getElem?_modify, ↓reduceIte]
      cases hb : w.heap[a.block]? with
      | none => simp
      | some o => cases o <;> simp_all
  · rw [World.cell?_setCell_other _ _ _ _ e]
theorem CelAt.same {w w' : World} {g o : Nat} {c : Cel} (h : CelAt w g o c) (hb : w'.heap[g]? = w.heap[g]?) : CelAt w' g o c := by
  simp only [CelAt, cell_same hb]; exact h
theorem CelAt.below {w w' : World} {B g o : Nat} {c : Cel} (h : CelAt w g o c) (hb : Below B w w') (hg : g < B) : CelAt w' g o c := h.same (hb.block _ hg)
theorem CelAt.put {w : World} {g o b q : Nat} {c d : Cel} (h : CelAt w b q c) (hne : b ≠ g) : CelAt (put7 w g o d) b q c := h.same (put7_other _ _ _ _ _ hne)
theorem _root_.Go.RowKit.Below.cells {B : Nat} {w w' : World} (h : Below B w w') {b : Nat} (hb : b < B) : ∀ o, w'.cell? ⟨b, o, none⟩ = w.cell? ⟨b, o, none⟩ := fun o => h.cell (p := ⟨b, o, none⟩) hb
theorem _root_.Go.RowKit.Below.marks {B : Nat} {w w' : World} (h : Below B w w') {b : Nat} (hb : b < B) : ∀ o, w'.frozen? ⟨b, o, none⟩ = w.frozen? ⟨b, o, none⟩ := fun o => h.frozen (p := ⟨b, o, none⟩) hb
/-- The document's cells: a struct of three cells in block bc, the row in block g. -/
structure Cels (w : World) (bc g cap W H N : Nat) (G : Nat → Nat → Cel) : Prop where
  blk : w.heap[bc]? = some (.cells #[.int .i64 W, .int .i64 H, .slice (some ⟨g, 0, none⟩) N cap] 87)
  grid : Grid w g W H G
  hN : N = H * W
  ne : bc ≠ g
  w1 : 1 ≤ W
  w2 : W ≤ 40
  h1 : 1 ≤ H
  h2 : H ≤ 20
theorem Cels.nle {w : World} {bc g cap W H N : Nat} {G : Nat → Nat → Cel} (h : Cels w bc g cap W H N G) : N ≤ 800 := by
  rw [h.hN]; exact Nat.mul_le_mul h.h2 h.w2
theorem Cels.lt {w : World} {bc g cap W H N : Nat} {G : Nat → Nat → Cel} (h : Cels w bc g cap W H N G) : bc < w.heap.size := by
  have := h.blk
  exact (Array.getElem?_eq_some_iff.1 this).1
theorem Cels.glt {w : World} {bc g cap W H N : Nat} {G : Nat → Nat → Cel} (h : Cels w bc g cap W H N G) : g < w.heap.size := (h.grid.cel 0 0 h.w1 h.h1).lt
theorem Cels.same {w w' : World} {bc g cap W H N : Nat} {G : Nat → Nat → Cel} (h : Cels w bc g cap W H N G) (h1 : w'.heap[bc]? = w.heap[bc]?) (h2 : w'.heap[g]? = w.heap[g]?) : Cels w' bc g cap W H N G :=
  ⟨by rw [h1]; exact h.blk, h.grid.same h2, h.hN, h.ne, h.w1, h.w2, h.h1, h.h2⟩
theorem Cels.below {w w' : World} {bc g cap W H N : Nat} {G : Nat → Nat → Cel} (h : Cels w bc g cap W H N G) (hb : Below w.heap.size w w') : Cels w' bc g cap W H N G :=
  h.same (hb.block _ h.lt) (hb.block _ h.glt)
theorem Cels.put {w : World} {bc g cap W H N : Nat} {G : Nat → Nat → Cel} (h : Cels w bc g cap W H N G) {x y : Nat} (hx : x < W) (hy : y < H) (c : Cel) : Cels (put7 w g ((y * W + x) * 7) c) bc g cap W H N (upd G x y c) :=
  ⟨by rw [put7_other _ _ _ _ _ h.ne]; exact h.blk, h.grid.put hx hy c, h.hN, h.ne, h.w1, h.w2, h.h1, h.h2⟩
theorem Cels.c0 {w : World} {bc g cap W H N : Nat} {G : Nat → Nat → Cel} (h : Cels w bc g cap W H N G) : w.cell? ⟨bc, 0, none⟩ = some (.int .i64 W) := by rw [cell_of_block h.blk]; rfl
theorem Cels.c1 {w : World} {bc g cap W H N : Nat} {G : Nat → Nat → Cel} (h : Cels w bc g cap W H N G) : w.cell? ⟨bc, 1, none⟩ = some (.int .i64 H) := by rw [cell_of_block h.blk]; rfl
theorem Cels.c2 {w : World} {bc g cap W H N : Nat} {G : Nat → Nat → Cel} (h : Cels w bc g cap W H N G) : w.cell? ⟨bc, 2, none⟩ = some (.slice (some ⟨g, 0, none⟩) N cap) := by rw [cell_of_block h.blk]; rfl
theorem Cels.drew {w : World} {bc g cap W H N : Nat} {G : Nat → Nat → Cel} (h : Cels w bc g cap W H N G) : Cels w.drew bc g cap W H N G := h.same rfl rfl
theorem below_drew' {w w' : World} (h : Below w.drew.heap.size w.drew w') : Below w.heap.size w w' := ⟨h.os, h.tape, h.output, h.size, h.block⟩
/-- A pen lies in block b from offset o on. -/
def PenAt (w : World) (b o : Nat) (n : Pn) : Prop := w.cell? ⟨b, o, none⟩ = some (.int .i64 n.f) ∧ w.cell? ⟨b, o + 1, none⟩ = some (.int .i64 n.b) ∧ w.cell? ⟨b, o + 2, none⟩ = some (.bool n.bo) ∧ w.cell? ⟨b, o + 3, none⟩ = some (.bool n.un) ∧ w.cell? ⟨b, o + 4, none⟩ = some (.bool n.re)
theorem PenAt.lt {w : World} {b o : Nat} {n : Pn} (h : PenAt w b o n) : b < w.heap.size := World.block_lt_of_cell? _ _ h.1
theorem PenAt.same {w w' : World} {b o : Nat} {n : Pn} (h : PenAt w b o n) (hb : w'.heap[b]? = w.heap[b]?) : PenAt w' b o n := by
  simp only [PenAt, cell_same hb]; exact h
theorem PenAt.keep {F : Nat → Prop} {w w' : World} {b o : Nat} {n : Pn} (h : PenAt w b o n) (k : Keep F w w') (hF : ¬ F b) : PenAt w' b o n := h.same (k.block _ h.lt hF)
theorem CelAt.keep {F : Nat → Prop} {w w' : World} {b o : Nat} {n : Cel} (h : CelAt w b o n) (k : Keep F w w') (hF : ¬ F b) : CelAt w' b o n := h.same (k.block _ h.lt hF)
theorem pen_new (w : World) (n : Pn) (t : TypeId) : PenAt (w.alloc (.cells #[.int .i64 n.f, .int .i64 n.b, .bool n.bo, .bool n.un, .bool n.re] t)) w.heap.size 0 n := by
  refine ⟨?_, ?_, ?_, ?_, ?_⟩ <;> (rw [cell_of_block (heap_new w _)]; rfl)
theorem Keep.belowTop {F : Nat → Prop} {w w' : World} {o : Obj} (h : Keep F (w.alloc o) w') : Keep F w w' :=
  (Keep.below F ((Below.refl _ _).alloc (Nat.le_refl _) o)).trans h (fun _ _ h => h)
theorem size_alloc (w : World) (o : Obj) : (w.alloc o).heap.size = w.heap.size + 1 := by
  show (w.heap.push o).size = _
  simp
end Go.Proofs.YtknhohbepkapdaaDoor

/- The width of a letter: plain mathematics. -/
namespace Go.Proofs.YtknhohbepkapdaaDoor.Wd
/-- Is n from a to b? -/
def inB (n a b : Int) : Bool := decide (a ≤ n) && decide (n ≤ b)
theorem inB_t {n a b : Int} (h1 : a ≤ n) (h2 : n ≤ b) : inB n a b = true := by simp [inB, h1, h2]
theorem inB_l {n a b : Int} (h1 : n < a) : inB n a b = false := by simp [inB]; omega
theorem inB_r {n a b : Int} (h1 : b < n) : inB n a b = false := by simp [inB]; omega
theorem inB_iff {n a b : Int} : inB n a b = true ↔ a ≤ n ∧ n ≤ b := by simp [inB]
theorem inB_not {n a b : Int} : inB n a b = false ↔ n < a ∨ b < n := by simp [inB]; omega
def validB (n : Int) : Bool := inB n 0 55295 || inB n 57344 1114111
def zeroB (n : Int) : Bool := !validB n || decide (n < 32) || inB n 127 159 || inB n 768 879 || inB n 8203 8207
def wideB (n : Int) : Bool := inB n 4352 4447 || inB n 11904 42191 || inB n 44032 55203 || inB n 63744 64255 || inB n 65072 65103 || inB n 65280 65376 || inB n 65504 65510 || inB n 127744 128591 || inB n 131072 262141
/-- The width. -/
def wd (n : Int) : Int := if zeroB n then 0 else if wideB n then 2 else 1
theorem wd_cases (n : Int) : wd n = 0 ∨ wd n = 1 ∨ wd n = 2 := by
  unfold wd
  cases zeroB n <;> cases wideB n <;> simp
theorem valid_cases (n : Int) : (0 ≤ n ∧ n < 55296 ∧ validB n = true) ∨ (57343 < n ∧ n ≤ 1114111 ∧ validB n = true) ∨ (n < 0 ∧ validB n = false) ∨ (55296 ≤ n ∧ n ≤ 57343 ∧ validB n = false) ∨ (1114111 < n ∧ validB n = false) := by
  have a := @inB_iff n 0 55295
  have b := @inB_iff n 57344 1114111
  unfold validB
  cases h1 : inB n 0 55295 <;> cases h2 : inB n 57344 1114111 <;> simp [h1, h2] at a b ⊢ <;> omega
theorem zero_cases (n : Int) : (validB n = false ∧ zeroB n = true) ∨ (validB n = true ∧ n < 32 ∧ zeroB n = true) ∨ (validB n = true ∧ 32 ≤ n ∧ inB n 127 159 = true ∧ zeroB n = true)
    ∨ (validB n = true ∧ 32 ≤ n ∧ inB n 127 159 = false ∧ inB n 768 879 = true ∧ zeroB n = true) ∨ (validB n = true ∧ 32 ≤ n ∧ inB n 127 159 = false ∧ inB n 768 879 = false ∧ inB n 8203 8207 = true ∧ zeroB n = true)
    ∨ (validB n = true ∧ 32 ≤ n ∧ inB n 127 159 = false ∧ inB n 768 879 = false ∧ inB n 8203 8207 = false ∧ zeroB n = false) := by
  unfold zeroB
  by_cases h0 : n < 32
  · cases validB n <;> simp [h0]
  · have h0' : 32 ≤ n := by omega
    cases validB n <;> cases inB n 127 159 <;> cases inB n 768 879 <;> cases inB n 8203 8207 <;> simp [h0, h0']
theorem wide_cases (n : Int) : (inB n 4352 4447 = true ∧ wideB n = true)
    ∨ (inB n 4352 4447 = false ∧ inB n 11904 42191 = true ∧ wideB n = true)
    ∨ (inB n 4352 4447 = false ∧ inB n 11904 42191 = false ∧ inB n 44032 55203 = true ∧ wideB n = true)
    ∨ (inB n 4352 4447 = false ∧ inB n 11904 42191 = false ∧ inB n 44032 55203 = false ∧ inB n 63744 64255 = true ∧ wideB n = true)
    ∨ (inB n 4352 4447 = false ∧ inB n 11904 42191 = false ∧ inB n 44032 55203 = false ∧ inB n 63744 64255 = false ∧ inB n 65072 65103 = true ∧ wideB n = true)
    ∨ (inB n 4352 4447 = false ∧ inB n 11904 42191 = false ∧ inB n 44032 55203 = false ∧ inB n 63744 64255 = false ∧ inB n 65072 65103 = false ∧ inB n 65280 65376 = true ∧ wideB n = true)
    ∨ (inB n 4352 4447 = false ∧ inB n 11904 42191 = false ∧ inB n 44032 55203 = false ∧ inB n 63744 64255 = false ∧ inB n 65072 65103 = false ∧ inB n 65280 65376 = false ∧ inB n 65504 65510 = true ∧ wideB n = true)
    ∨ (inB n 4352 4447 = false ∧ inB n 11904 42191 = false ∧ inB n 44032 55203 = false ∧ inB n 63744 64255 = false ∧ inB n 65072 65103 = false ∧ inB n 65280 65376 = false ∧ inB n 65504 65510 = false ∧ inB n 127744 128591 = true ∧ wideB n = true)
    ∨ (inB n 4352 4447 = false ∧ inB n 11904 42191 = false ∧ inB n 44032 55203 = false ∧ inB n 63744 64255 = false ∧ inB n 65072 65103 = false ∧ inB n 65280 65376 = false ∧ inB n 65504 65510 = false ∧ inB n 127744 128591 = false ∧ inB n 131072 262141 = true ∧ wideB n = true)
    ∨ (inB n 4352 4447 = false ∧ inB n 11904 42191 = false ∧ inB n 44032 55203 = false ∧ inB n 63744 64255 = false ∧ inB n 65072 65103 = false ∧ inB n 65280 65376 = false ∧ inB n 65504 65510 = false ∧ inB n 127744 128591 = false ∧ inB n 131072 262141 = false ∧ wideB n = false) := by
  cases h0 : inB n 4352 4447 with
  | true => simp [wideB, h0]
  | false =>
   cases h1 : inB n 11904 42191 with
   | true => simp [wideB, h0, h1]
   | false =>
    cases h2 : inB n 44032 55203 with
    | true => simp [wideB, h0, h1, h2]
    | false =>
     cases h3 : inB n 63744 64255 with
     | true => simp [wideB, h0, h1, h2, h3]
     | false =>
      cases h4 : inB n 65072 65103 with
      | true => simp [wideB, h0, h1, h2, h3, h4]
      | false =>
       cases h5 : inB n 65280 65376 with
       | true => simp [wideB, h0, h1, h2, h3, h4, h5]
       | false =>
        cases h6 : inB n 65504 65510 with
        | true => simp [wideB, h0, h1, h2, h3, h4, h5, h6]
        | false =>
         cases h7 : inB n 127744 128591 with
         | true => simp [wideB, h0, h1, h2, h3, h4, h5, h6, h7]
         | false =>
          cases h8 : inB n 131072 262141 with
          | true => simp [wideB, h0, h1, h2, h3, h4, h5, h6, h7, h8]
          | false =>
           simp [wideB, h0, h1, h2, h3, h4, h5, h6, h7, h8]
/-- The document's two tables. -/
def zeroL : List (Int × Int) := [(127, 159), (768, 879), (8203, 8207), (55296, 57343)]
def wideL : List (Int × Int) := [(4352, 4447), (11904, 42191), (44032, 55203), (63744, 64255), (65072, 65103), (65280, 65376), (65504, 65510), (127744, 128591), (131072, 262141)]
def anyB (n : Int) (l : List (Int × Int)) : Bool := l.any fun p => inB n p.1 p.2
theorem wide_any (n : Int) : anyB n wideL = wideB n := by
  simp [anyB, wideL, wideB, Bool.or_assoc]
theorem zero_any (n : Int) : zeroB n = (decide (n < 32) || decide (1114111 < n) || anyB n zeroL) := by
  rw [Bool.eq_iff_iff]
  simp [anyB, zeroL, zeroB, validB, inB]
  omega
theorem any_step (n : Int) (l : List (Int × Int)) (k : Nat) (a b : Int) (h : l[k]? = some (a, b)) (h1 : anyB n (l.take k) = false) (h2 : inB n a b = false) : anyB n (l.take (k + 1)) = false := by
  rw [List.take_add_one, h]
  simp only [anyB, List.any_append, Option.toList, List.any_cons, List.any_nil, Bool.or_false] at *
  simp [h1, h2]
theorem any_hit (n : Int) (l : List (Int × Int)) (k : Nat) (a b : Int) (h : l[k]? = some (a, b)) (h2 : inB n a b = true) : anyB n l = true := by
  simp only [anyB, List.any_eq_true]
  exact ⟨(a, b), List.mem_of_getElem? h, h2⟩
theorem wd_zero (n : Int) (h : anyB n zeroL = true) : wd n = 0 := by simp [wd, zero_any, h]
theorem wd_two (n : Int) (h1 : 32 ≤ n) (h2 : n ≤ 1114111) (h : anyB n zeroL = false) (h3 : anyB n wideL = true) : wd n = 2 := by
  have a : ¬ n < 32 := by omega
  have b : ¬ 1114111 < n := by omega
  rw [wide_any] at h3
  simp [wd, zero_any, h, a, b, h3]
theorem wd_one (n : Int) (h1 : 32 ≤ n) (h2 : n ≤ 1114111) (h : anyB n zeroL = false) (h3 : anyB n wideL = false) : wd n = 1 := by
  have a : ¬ n < 32 := by omega
  have b : ¬ 1114111 < n := by omega
  rw [wide_any] at h3
  simp [wd, zero_any, h, a, b, h3]
end Go.Proofs.YtknhohbepkapdaaDoor.Wd

/- The program's bounds. -/
namespace Go.Proofs.YtknhohbepkapdaaDoor
open Go.RowKit
def leastI (a b : Int) : Int := if b < a then b else a
def greatestI (a b : Int) : Int := if a < b then b else a
def betweenI (n lo hi : Int) : Int := greatestI lo (leastI n hi)
theorem pLeast (a b : Int) (w : World) :
    Calls Tryd.prog 66 #[.int .i64 a, .int .i64 b] w fun e w' => e = .returned (.int .i64 (leastI a b)) ∧ w' = w := by
  by_cases h : b < a
  · rw [show leastI a b = b from if_pos h]
    go_enter Tryd.func66, Tryd.ntmps66
    go_wp2
    go_ret
    exact ⟨rfl, rfl⟩
  · rw [show leastI a b = a from if_neg h]
    go_enter Tryd.func66, Tryd.ntmps66
    go_wp2
    go_ret
    exact ⟨rfl, rfl⟩
theorem pGreatest (a b : Int) (w : World) :
    Calls Tryd.prog 90 #[.int .i64 a, .int .i64 b] w fun e w' => e = .returned (.int .i64 (greatestI a b)) ∧ w' = w := by
  by_cases h : a < b
  · rw [show greatestI a b = b from if_pos h]
    go_enter Tryd.func90, Tryd.ntmps90
    go_wp2
    go_ret
    exact ⟨rfl, rfl⟩
  · rw [show greatestI a b = a from if_neg h]
    go_enter Tryd.func90, Tryd.ntmps90
    go_wp2
    go_ret
    exact ⟨rfl, rfl⟩
theorem pBetween (n lo hi : Int) (w : World) :
    Calls Tryd.prog 69 #[.int .i64 n, .int .i64 lo, .int .i64 hi] w fun e w' => e = .returned (.int .i64 (betweenI n lo hi)) ∧ w' = w := by
  go_enter Tryd.func69, Tryd.ntmps69
  go_wp2_with (first | (go_at_call 66; refine (pLeast _ _ _).mono ?_; rintro e w' ⟨rfl, rfl⟩) | (go_at_call 90; refine (pGreatest _ _ _).mono ?_; rintro e w' ⟨rfl, rfl⟩))
  go_ret
  exact ⟨rfl, rfl⟩
theorem pWithin (n a b : Int) (w : World) :
    Calls Tryd.prog 43 #[.int .i64 n, .int .i64 a, .int .i64 b] w fun e w' => e = .returned (.bool (Wd.inB n a b)) ∧ w' = w := by
  by_cases h1 : a ≤ n <;> by_cases h2 : n ≤ b
  all_goals
    go_enter Tryd.func43, Tryd.ntmps43
    go_wp2
    go_ret
    exact ⟨by simp [Wd.inB, h1, h2], rfl⟩
theorem pWithinByte (n a b : Int) (w : World) :
    Calls Tryd.prog 80 #[.int .u8 n, .int .u8 a, .int .u8 b] w fun e w' => e = .returned (.bool (Wd.inB n a b)) ∧ w' = w := by
  by_cases h1 : a ≤ n <;> by_cases h2 : n ≤ b
  all_goals
    go_enter Tryd.func80, Tryd.ntmps80
    go_wp2
    go_ret
    exact ⟨by simp [Wd.inB, h1, h2], rfl⟩
end Go.Proofs.YtknhohbepkapdaaDoor
