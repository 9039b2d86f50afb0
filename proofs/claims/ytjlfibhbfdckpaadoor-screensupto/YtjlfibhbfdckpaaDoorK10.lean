/- Texts of the proof, one behind the other: PuA, PuB. -/
import Derived.Test.YtjlfibhbfdckpaaDoorK09
import Derived.Shelf.Unicode.DecodeSlow
import Derived.LoopTactic
/- utf8.FullRune of at most four bytes that do not begin with ASCII. -/
namespace Go.Proofs.YtjlfibhbfdckpaaDoor
open Go.RowKit Go.Lib
attribute [local go_sem ↓] Go.wp_at_zero Go.wp_at_succ
/-- What the tables say of a first byte: X in first, lo and hi in acceptRanges at i. -/
structure Fst (w : World) (x0 X i lo hi : Nat) : Prop where
  l0 : x0 < 256
  hX : X < 240
  id : (X : Int) / 16 = i
  i16 : i < 16
  c0 : w.cell? ⟨0, x0, none⟩ = some (.int .u8 X)
  a0 : w.cell? ⟨1, i * 2, none⟩ = some (.int .u8 lo)
  a1 : w.cell? ⟨1, i * 2 + 1, none⟩ = some (.int .u8 hi)
  lh : lo < 256 ∧ hi < 256
theorem uFullBad (b off cap x0 : Nat) (w : World) (l0 : x0 < 256) (hc0 : w.cell? ⟨0, x0, none⟩ = some (.int .u8 241)) (h0 : w.cell? ⟨b, off, none⟩ = some (.int .u8 x0)) :
    Calls Tryd.prog 106 #[.slice (some ⟨b, off, none⟩) 1 cap] w fun e w' => e = .returned (.bool true) ∧ Below w.heap.size w w' := by
  go_enter Tryd.func106, Tryd.ntmps106
  go_wp2
  go_ret
  exact ⟨rfl, Below.refl _ _⟩
set_option maxHeartbeats 4000000 in
set_option maxRecDepth 10000 in
theorem uFullYes (b off cap x0 X i lo hi sz n : Nat) (w : World) (F : Fst w x0 X i lo hi) (hsz : (X : Int) % 8 = sz) (hn : sz ≤ n) (hn0 : 0 < n) (hn4 : n ≤ 4) (h0 : w.cell? ⟨b, off, none⟩ = some (.int .u8 x0)) :
    Calls Tryd.prog 106 #[.slice (some ⟨b, off, none⟩) n cap] w fun e w' => e = .returned (.bool true) ∧ Below w.heap.size w w' := by
  have i16 : (i : Int) < 16 := by have := F.i16; omega
  have i0 : (0 : Int) ≤ i := by omega
  have l0 := F.l0
  have hX := F.hX
  have hid := F.id
  have hc0 := F.c0
  have ha0 := F.a0
  have ha1 := F.a1
  have h1s : 1 < w.heap.size := World.block_lt_of_cell? _ _ ha0
  have hbs : b < w.heap.size := World.block_lt_of_cell? _ _ h0
  have hlo := F.lh.1
  have hhi := F.lh.2
  clear F
  have n1 : (sz : Int) ≤ n := by omega
  have n0 : (0 : Int) < n := by omega
  have n2 : ¬ n = 0 := by omega
  go_enter Tryd.func106, Tryd.ntmps106
  go_wp2
  go_ret
  exact ⟨rfl, Below.refl _ _⟩
set_option maxHeartbeats 4000000 in
set_option maxRecDepth 10000 in
theorem uFull1 (b off cap x0 X i lo hi sz : Nat) (w : World) (F : Fst w x0 X i lo hi) (hsz : (X : Int) % 8 = sz) (hn : 1 < sz) (h0 : w.cell? ⟨b, off, none⟩ = some (.int .u8 x0))  :
    Calls Tryd.prog 106 #[.slice (some ⟨b, off, none⟩) 1 cap] w fun e w' => e = .returned (.bool false) ∧ Below w.heap.size w w' := by
  have i16 : (i : Int) < 16 := by have := F.i16; omega
  have i0 : (0 : Int) ≤ i := by omega
  have l0 := F.l0
  have hX := F.hX
  have hid := F.id
  have hc0 := F.c0
  have ha0 := F.a0
  have ha1 := F.a1
  have h1s : 1 < w.heap.size := World.block_lt_of_cell? _ _ ha0
  have hbs : b < w.heap.size := World.block_lt_of_cell? _ _ h0
  have hlo := F.lh.1
  have hhi := F.lh.2
  clear F
  have n1 : ¬ (sz : Int) ≤ 1 := by omega
  go_enter Tryd.func106, Tryd.ntmps106
  go_wp2_with fail
  have hbl : Below w.heap.size w (w.alloc (.cells #[.int .u8 lo, .int .u8 hi] 129)) := (Below.refl _ _).alloc (Nat.le_refl _) _
  have q0 : (w.alloc (.cells #[.int .u8 lo, .int .u8 hi] 129)).cell? ⟨w.heap.size, 0, none⟩ = some (.int .u8 lo) := by rw [cell_of_block (heap_new w _)]; rfl
  have q1 : (w.alloc (.cells #[.int .u8 lo, .int .u8 hi] 129)).cell? ⟨w.heap.size, 1, none⟩ = some (.int .u8 hi) := by rw [cell_of_block (heap_new w _)]; rfl
  have p0 : (w.alloc (.cells #[.int .u8 lo, .int .u8 hi] 129)).cell? ⟨b, off, none⟩ = some (.int .u8 x0) := by rw [hbl.cells hbs]; exact h0
  have HB : Hid (Below w.heap.size w (w.alloc (.cells #[.int .u8 lo, .int .u8 hi] 129))) := hbl
  generalize w.alloc (.cells #[.int .u8 lo, .int .u8 hi] 129) = wa at *
  clear hbl h0 ha0 ha1 hc0
  go_quiet (fail)
  have HB2 : Hid (Below w.heap.size w (wa.drewN nq)) := HB.out.trans ((below_drewN wa nq).mono HB.out.size)
  replace q0 : (wa.drewN nq).cell? ⟨w.heap.size, 0, none⟩ = some (.int .u8 lo) := q0
  replace q1 : (wa.drewN nq).cell? ⟨w.heap.size, 1, none⟩ = some (.int .u8 hi) := q1
  replace p0 : (wa.drewN nq).cell? ⟨b, off, none⟩ = some (.int .u8 x0) := p0
  generalize wa.drewN nq = wb at *
  clear HB
  go_wp2_with fail
  go_ret
  exact ⟨rfl, HB2.out⟩
set_option maxHeartbeats 4000000 in
set_option maxRecDepth 10000 in
theorem uFull2lo (b off cap x0 x1 X i lo hi sz : Nat) (w : World) (F : Fst w x0 X i lo hi) (hsz : (X : Int) % 8 = sz) (hn : 2 < sz) (h0 : w.cell? ⟨b, off, none⟩ = some (.int .u8 x0)) (h1 : w.cell? ⟨b, off + 1, none⟩ = some (.int .u8 x1)) (hx : x1 < lo) :
    Calls Tryd.prog 106 #[.slice (some ⟨b, off, none⟩) 2 cap] w fun e w' => e = .returned (.bool true) ∧ Below w.heap.size w w' := by
  have i16 : (i : Int) < 16 := by have := F.i16; omega
  have i0 : (0 : Int) ≤ i := by omega
  have l0 := F.l0
  have hX := F.hX
  have hid := F.id
  have hc0 := F.c0
  have ha0 := F.a0
  have ha1 := F.a1
  have h1s : 1 < w.heap.size := World.block_lt_of_cell? _ _ ha0
  have hbs : b < w.heap.size := World.block_lt_of_cell? _ _ h0
  have hlo := F.lh.1
  have hhi := F.lh.2
  clear F
  have n1 : ¬ (sz : Int) ≤ 2 := by omega
  have d1 : (x1 : Int) < lo := by omega
  go_enter Tryd.func106, Tryd.ntmps106
  go_wp2_with fail
  have hbl : Below w.heap.size w (w.alloc (.cells #[.int .u8 lo, .int .u8 hi] 129)) := (Below.refl _ _).alloc (Nat.le_refl _) _
  have q0 : (w.alloc (.cells #[.int .u8 lo, .int .u8 hi] 129)).cell? ⟨w.heap.size, 0, none⟩ = some (.int .u8 lo) := by rw [cell_of_block (heap_new w _)]; rfl
  have q1 : (w.alloc (.cells #[.int .u8 lo, .int .u8 hi] 129)).cell? ⟨w.heap.size, 1, none⟩ = some (.int .u8 hi) := by rw [cell_of_block (heap_new w _)]; rfl
  have p0 : (w.alloc (.cells #[.int .u8 lo, .int .u8 hi] 129)).cell? ⟨b, off, none⟩ = some (.int .u8 x0) := by rw [hbl.cells hbs]; exact h0
  have p1 : (w.alloc (.cells #[.int .u8 lo, .int .u8 hi] 129)).cell? ⟨b, off + 1, none⟩ = some (.int .u8 x1) := by rw [hbl.cells hbs]; exact h1
  have HB : Hid (Below w.heap.size w (w.alloc (.cells #[.int .u8 lo, .int .u8 hi] 129))) := hbl
  generalize w.alloc (.cells #[.int .u8 lo, .int .u8 hi] 129) = wa at *
  clear hbl h0 ha0 ha1 hc0 h1
  go_quiet (fail)
  have HB2 : Hid (Below w.heap.size w (wa.drewN nq)) := HB.out.trans ((below_drewN wa nq).mono HB.out.size)
  replace q0 : (wa.drewN nq).cell? ⟨w.heap.size, 0, none⟩ = some (.int .u8 lo) := q0
  replace q1 : (wa.drewN nq).cell? ⟨w.heap.size, 1, none⟩ = some (.int .u8 hi) := q1
  replace p0 : (wa.drewN nq).cell? ⟨b, off, none⟩ = some (.int .u8 x0) := p0
  replace p1 : (wa.drewN nq).cell? ⟨b, off + 1, none⟩ = some (.int .u8 x1) := p1
  generalize wa.drewN nq = wb at *
  clear HB
  go_wp2_with fail
  go_ret
  exact ⟨rfl, HB2.out⟩
set_option maxHeartbeats 4000000 in
set_option maxRecDepth 10000 in
theorem uFull2hi (b off cap x0 x1 X i lo hi sz : Nat) (w : World) (F : Fst w x0 X i lo hi) (hsz : (X : Int) % 8 = sz) (hn : 2 < sz) (h0 : w.cell? ⟨b, off, none⟩ = some (.int .u8 x0)) (h1 : w.cell? ⟨b, off + 1, none⟩ = some (.int .u8 x1)) (hy : ¬ x1 < lo) (hx : hi < x1) :
    Calls Tryd.prog 106 #[.slice (some ⟨b, off, none⟩) 2 cap] w fun e w' => e = .returned (.bool true) ∧ Below w.heap.size w w' := by
  have i16 : (i : Int) < 16 := by have := F.i16; omega
  have i0 : (0 : Int) ≤ i := by omega
  have l0 := F.l0
  have hX := F.hX
  have hid := F.id
  have hc0 := F.c0
  have ha0 := F.a0
  have ha1 := F.a1
  have h1s : 1 < w.heap.size := World.block_lt_of_cell? _ _ ha0
  have hbs : b < w.heap.size := World.block_lt_of_cell? _ _ h0
  have hlo := F.lh.1
  have hhi := F.lh.2
  clear F
  have n1 : ¬ (sz : Int) ≤ 2 := by omega
  have d1 : ¬ (x1 : Int) < lo := by omega
  have d2 : (hi : Int) < x1 := by omega
  go_enter Tryd.func106, Tryd.ntmps106
  go_wp2_with fail
  have hbl : Below w.heap.size w (w.alloc (.cells #[.int .u8 lo, .int .u8 hi] 129)) := (Below.refl _ _).alloc (Nat.le_refl _) _
  have q0 : (w.alloc (.cells #[.int .u8 lo, .int .u8 hi] 129)).cell? ⟨w.heap.size, 0, none⟩ = some (.int .u8 lo) := by rw [cell_of_block (heap_new w _)]; rfl
  have q1 : (w.alloc (.cells #[.int .u8 lo, .int .u8 hi] 129)).cell? ⟨w.heap.size, 1, none⟩ = some (.int .u8 hi) := by rw [cell_of_block (heap_new w _)]; rfl
  have p0 : (w.alloc (.cells #[.int .u8 lo, .int .u8 hi] 129)).cell? ⟨b, off, none⟩ = some (.int .u8 x0) := by rw [hbl.cells hbs]; exact h0
  have p1 : (w.alloc (.cells #[.int .u8 lo, .int .u8 hi] 129)).cell? ⟨b, off + 1, none⟩ = some (.int .u8 x1) := by rw [hbl.cells hbs]; exact h1
  have HB : Hid (Below w.heap.size w (w.alloc (.cells #[.int .u8 lo, .int .u8 hi] 129))) := hbl
  generalize w.alloc (.cells #[.int .u8 lo, .int .u8 hi] 129) = wa at *
  clear hbl h0 ha0 ha1 hc0 h1
  go_quiet (fail)
  have HB2 : Hid (Below w.heap.size w (wa.drewN nq)) := HB.out.trans ((below_drewN wa nq).mono HB.out.size)
  replace q0 : (wa.drewN nq).cell? ⟨w.heap.size, 0, none⟩ = some (.int .u8 lo) := q0
  replace q1 : (wa.drewN nq).cell? ⟨w.heap.size, 1, none⟩ = some (.int .u8 hi) := q1
  replace p0 : (wa.drewN nq).cell? ⟨b, off, none⟩ = some (.int .u8 x0) := p0
  replace p1 : (wa.drewN nq).cell? ⟨b, off + 1, none⟩ = some (.int .u8 x1) := p1
  generalize wa.drewN nq = wb at *
  clear HB
  go_wp2_with fail
  go_ret
  exact ⟨rfl, HB2.out⟩
set_option maxHeartbeats 4000000 in
set_option maxRecDepth 10000 in
theorem uFull2ok (b off cap x0 x1 X i lo hi sz : Nat) (w : World) (F : Fst w x0 X i lo hi) (hsz : (X : Int) % 8 = sz) (hn : 2 < sz) (h0 : w.cell? ⟨b, off, none⟩ = some (.int .u8 x0)) (h1 : w.cell? ⟨b, off + 1, none⟩ = some (.int .u8 x1)) (hx : lo ≤ x1 ∧ x1 ≤ hi) :
    Calls Tryd.prog 106 #[.slice (some ⟨b, off, none⟩) 2 cap] w fun e w' => e = .returned (.bool false) ∧ Below w.heap.size w w' := by
  have i16 : (i : Int) < 16 := by have := F.i16; omega
  have i0 : (0 : Int) ≤ i := by omega
  have l0 := F.l0
  have hX := F.hX
  have hid := F.id
  have hc0 := F.c0
  have ha0 := F.a0
  have ha1 := F.a1
  have h1s : 1 < w.heap.size := World.block_lt_of_cell? _ _ ha0
  have hbs : b < w.heap.size := World.block_lt_of_cell? _ _ h0
  have hlo := F.lh.1
  have hhi := F.lh.2
  clear F
  have n1 : ¬ (sz : Int) ≤ 2 := by omega
  have d1 : ¬ (x1 : Int) < lo := by omega
  have d2 : ¬ (hi : Int) < x1 := by omega
  go_enter Tryd.func106, Tryd.ntmps106
  go_wp2_with fail
  have hbl : Below w.heap.size w (w.alloc (.cells #[.int .u8 lo, .int .u8 hi] 129)) := (Below.refl _ _).alloc (Nat.le_refl _) _
  have q0 : (w.alloc (.cells #[.int .u8 lo, .int .u8 hi] 129)).cell? ⟨w.heap.size, 0, none⟩ = some (.int .u8 lo) := by rw [cell_of_block (heap_new w _)]; rfl
  have q1 : (w.alloc (.cells #[.int .u8 lo, .int .u8 hi] 129)).cell? ⟨w.heap.size, 1, none⟩ = some (.int .u8 hi) := by rw [cell_of_block (heap_new w _)]; rfl
  have p0 : (w.alloc (.cells #[.int .u8 lo, .int .u8 hi] 129)).cell? ⟨b, off, none⟩ = some (.int .u8 x0) := by rw [hbl.cells hbs]; exact h0
  have p1 : (w.alloc (.cells #[.int .u8 lo, .int .u8 hi] 129)).cell? ⟨b, off + 1, none⟩ = some (.int .u8 x1) := by rw [hbl.cells hbs]; exact h1
  have HB : Hid (Below w.heap.size w (w.alloc (.cells #[.int .u8 lo, .int .u8 hi] 129))) := hbl
  generalize w.alloc (.cells #[.int .u8 lo, .int .u8 hi] 129) = wa at *
  clear hbl h0 ha0 ha1 hc0 h1
  go_quiet (fail)
  have HB2 : Hid (Below w.heap.size w (wa.drewN nq)) := HB.out.trans ((below_drewN wa nq).mono HB.out.size)
  replace q0 : (wa.drewN nq).cell? ⟨w.heap.size, 0, none⟩ = some (.int .u8 lo) := q0
  replace q1 : (wa.drewN nq).cell? ⟨w.heap.size, 1, none⟩ = some (.int .u8 hi) := q1
  replace p0 : (wa.drewN nq).cell? ⟨b, off, none⟩ = some (.int .u8 x0) := p0
  replace p1 : (wa.drewN nq).cell? ⟨b, off + 1, none⟩ = some (.int .u8 x1) := p1
  generalize wa.drewN nq = wb at *
  clear HB
  go_wp2_with fail
  go_ret
  exact ⟨rfl, HB2.out⟩
set_option maxHeartbeats 4000000 in
set_option maxRecDepth 10000 in
theorem uFull3lo (b off cap x0 x1 x2 X i lo hi sz : Nat) (w : World) (F : Fst w x0 X i lo hi) (hsz : (X : Int) % 8 = sz) (hn : 3 < sz) (h0 : w.cell? ⟨b, off, none⟩ = some (.int .u8 x0)) (h1 : w.cell? ⟨b, off + 1, none⟩ = some (.int .u8 x1)) (h2 : w.cell? ⟨b, off + 2, none⟩ = some (.int .u8 x2)) (hx : lo ≤ x1 ∧ x1 ≤ hi) (hy : x2 < 128) :
    Calls Tryd.prog 106 #[.slice (some ⟨b, off, none⟩) 3 cap] w fun e w' => e = .returned (.bool true) ∧ Below w.heap.size w w' := by
  have i16 : (i : Int) < 16 := by have := F.i16; omega
  have i0 : (0 : Int) ≤ i := by omega
  have l0 := F.l0
  have hX := F.hX
  have hid := F.id
  have hc0 := F.c0
  have ha0 := F.a0
  have ha1 := F.a1
  have h1s : 1 < w.heap.size := World.block_lt_of_cell? _ _ ha0
  have hbs : b < w.heap.size := World.block_lt_of_cell? _ _ h0
  have hlo := F.lh.1
  have hhi := F.lh.2
  clear F
  have n1 : ¬ (sz : Int) ≤ 3 := by omega
  have d1 : ¬ (x1 : Int) < lo := by omega
  have d2 : ¬ (hi : Int) < x1 := by omega
  have d3 : (x2 : Int) < 128 := by omega
  go_enter Tryd.func106, Tryd.ntmps106
  go_wp2_with fail
  have hbl : Below w.heap.size w (w.alloc (.cells #[.int .u8 lo, .int .u8 hi] 129)) := (Below.refl _ _).alloc (Nat.le_refl _) _
  have q0 : (w.alloc (.cells #[.int .u8 lo, .int .u8 hi] 129)).cell? ⟨w.heap.size, 0, none⟩ = some (.int .u8 lo) := by rw [cell_of_block (heap_new w _)]; rfl
  have q1 : (w.alloc (.cells #[.int .u8 lo, .int .u8 hi] 129)).cell? ⟨w.heap.size, 1, none⟩ = some (.int .u8 hi) := by rw [cell_of_block (heap_new w _)]; rfl
  have p0 : (w.alloc (.cells #[.int .u8 lo, .int .u8 hi] 129)).cell? ⟨b, off, none⟩ = some (.int .u8 x0) := by rw [hbl.cells hbs]; exact h0
  have p1 : (w.alloc (.cells #[.int .u8 lo, .int .u8 hi] 129)).cell? ⟨b, off + 1, none⟩ = some (.int .u8 x1) := by rw [hbl.cells hbs]; exact h1
  have p2 : (w.alloc (.cells #[.int .u8 lo, .int .u8 hi] 129)).cell? ⟨b, off + 2, none⟩ = some (.int .u8 x2) := by rw [hbl.cells hbs]; exact h2
  have HB : Hid (Below w.heap.size w (w.alloc (.cells #[.int .u8 lo, .int .u8 hi] 129))) := hbl
  generalize w.alloc (.cells #[.int .u8 lo, .int .u8 hi] 129) = wa at *
  clear hbl h0 ha0 ha1 hc0 h1 h2
  go_quiet (fail)
  have HB2 : Hid (Below w.heap.size w (wa.drewN nq)) := HB.out.trans ((below_drewN wa nq).mono HB.out.size)
  replace q0 : (wa.drewN nq).cell? ⟨w.heap.size, 0, none⟩ = some (.int .u8 lo) := q0
  replace q1 : (wa.drewN nq).cell? ⟨w.heap.size, 1, none⟩ = some (.int .u8 hi) := q1
  replace p0 : (wa.drewN nq).cell? ⟨b, off, none⟩ = some (.int .u8 x0) := p0
  replace p1 : (wa.drewN nq).cell? ⟨b, off + 1, none⟩ = some (.int .u8 x1) := p1
  replace p2 : (wa.drewN nq).cell? ⟨b, off + 2, none⟩ = some (.int .u8 x2) := p2
  generalize wa.drewN nq = wb at *
  clear HB
  go_wp2_with fail
  go_ret
  exact ⟨rfl, HB2.out⟩
set_option maxHeartbeats 4000000 in
set_option maxRecDepth 10000 in
theorem uFull3hi (b off cap x0 x1 x2 X i lo hi sz : Nat) (w : World) (F : Fst w x0 X i lo hi) (hsz : (X : Int) % 8 = sz) (hn : 3 < sz) (h0 : w.cell? ⟨b, off, none⟩ = some (.int .u8 x0)) (h1 : w.cell? ⟨b, off + 1, none⟩ = some (.int .u8 x1)) (h2 : w.cell? ⟨b, off + 2, none⟩ = some (.int .u8 x2)) (hx : lo ≤ x1 ∧ x1 ≤ hi) (hy : 191 < x2) :
    Calls Tryd.prog 106 #[.slice (some ⟨b, off, none⟩) 3 cap] w fun e w' => e = .returned (.bool true) ∧ Below w.heap.size w w' := by
  have i16 : (i : Int) < 16 := by have := F.i16; omega
  have i0 : (0 : Int) ≤ i := by omega
  have l0 := F.l0
  have hX := F.hX
  have hid := F.id
  have hc0 := F.c0
  have ha0 := F.a0
  have ha1 := F.a1
  have h1s : 1 < w.heap.size := World.block_lt_of_cell? _ _ ha0
  have hbs : b < w.heap.size := World.block_lt_of_cell? _ _ h0
  have hlo := F.lh.1
  have hhi := F.lh.2
  clear F
  have n1 : ¬ (sz : Int) ≤ 3 := by omega
  have d1 : ¬ (x1 : Int) < lo := by omega
  have d2 : ¬ (hi : Int) < x1 := by omega
  have d3 : ¬ (x2 : Int) < 128 := by omega
  have d4 : (191 : Int) < x2 := by omega
  go_enter Tryd.func106, Tryd.ntmps106
  go_wp2_with fail
  have hbl : Below w.heap.size w (w.alloc (.cells #[.int .u8 lo, .int .u8 hi] 129)) := (Below.refl _ _).alloc (Nat.le_refl _) _
  have q0 : (w.alloc (.cells #[.int .u8 lo, .int .u8 hi] 129)).cell? ⟨w.heap.size, 0, none⟩ = some (.int .u8 lo) := by rw [cell_of_block (heap_new w _)]; rfl
  have q1 : (w.alloc (.cells #[.int .u8 lo, .int .u8 hi] 129)).cell? ⟨w.heap.size, 1, none⟩ = some (.int .u8 hi) := by rw [cell_of_block (heap_new w _)]; rfl
  have p0 : (w.alloc (.cells #[.int .u8 lo, .int .u8 hi] 129)).cell? ⟨b, off, none⟩ = some (.int .u8 x0) := by rw [hbl.cells hbs]; exact h0
  have p1 : (w.alloc (.cells #[.int .u8 lo, .int .u8 hi] 129)).cell? ⟨b, off + 1, none⟩ = some (.int .u8 x1) := by rw [hbl.cells hbs]; exact h1
  have p2 : (w.alloc (.cells #[.int .u8 lo, .int .u8 hi] 129)).cell? ⟨b, off + 2, none⟩ = some (.int .u8 x2) := by rw [hbl.cells hbs]; exact h2
  have HB : Hid (Below w.heap.size w (w.alloc (.cells #[.int .u8 lo, .int .u8 hi] 129))) := hbl
  generalize w.alloc (.cells #[.int .u8 lo, .int .u8 hi] 129) = wa at *
  clear hbl h0 ha0 ha1 hc0 h1 h2
  go_quiet (fail)
  have HB2 : Hid (Below w.heap.size w (wa.drewN nq)) := HB.out.trans ((below_drewN wa nq).mono HB.out.size)
  replace q0 : (wa.drewN nq).cell? ⟨w.heap.size, 0, none⟩ = some (.int .u8 lo) := q0
  replace q1 : (wa.drewN nq).cell? ⟨w.heap.size, 1, none⟩ = some (.int .u8 hi) := q1
  replace p0 : (wa.drewN nq).cell? ⟨b, off, none⟩ = some (.int .u8 x0) := p0
  replace p1 : (wa.drewN nq).cell? ⟨b, off + 1, none⟩ = some (.int .u8 x1) := p1
  replace p2 : (wa.drewN nq).cell? ⟨b, off + 2, none⟩ = some (.int .u8 x2) := p2
  generalize wa.drewN nq = wb at *
  clear HB
  go_wp2_with fail
  go_ret
  exact ⟨rfl, HB2.out⟩
set_option maxHeartbeats 4000000 in
set_option maxRecDepth 10000 in
theorem uFull3ok (b off cap x0 x1 x2 X i lo hi sz : Nat) (w : World) (F : Fst w x0 X i lo hi) (hsz : (X : Int) % 8 = sz) (hn : 3 < sz) (h0 : w.cell? ⟨b, off, none⟩ = some (.int .u8 x0)) (h1 : w.cell? ⟨b, off + 1, none⟩ = some (.int .u8 x1)) (h2 : w.cell? ⟨b, off + 2, none⟩ = some (.int .u8 x2)) (hx : lo ≤ x1 ∧ x1 ≤ hi) (hy : 128 ≤ x2 ∧ x2 ≤ 191) :
    Calls Tryd.prog 106 #[.slice (some ⟨b, off, none⟩) 3 cap] w fun e w' => e = .returned (.bool false) ∧ Below w.heap.size w w' := by
  have i16 : (i : Int) < 16 := by have := F.i16; omega
  have i0 : (0 : Int) ≤ i := by omega
  have l0 := F.l0
  have hX := F.hX
  have hid := F.id
  have hc0 := F.c0
  have ha0 := F.a0
  have ha1 := F.a1
  have h1s : 1 < w.heap.size := World.block_lt_of_cell? _ _ ha0
  have hbs : b < w.heap.size := World.block_lt_of_cell? _ _ h0
  have hlo := F.lh.1
  have hhi := F.lh.2
  clear F
  have n1 : ¬ (sz : Int) ≤ 3 := by omega
  have d1 : ¬ (x1 : Int) < lo := by omega
  have d2 : ¬ (hi : Int) < x1 := by omega
  have d3 : ¬ (x2 : Int) < 128 := by omega
  have d4 : ¬ (191 : Int) < x2 := by omega
  go_enter Tryd.func106, Tryd.ntmps106
  go_wp2_with fail
  have hbl : Below w.heap.size w (w.alloc (.cells #[.int .u8 lo, .int .u8 hi] 129)) := (Below.refl _ _).alloc (Nat.le_refl _) _
  have q0 : (w.alloc (.cells #[.int .u8 lo, .int .u8 hi] 129)).cell? ⟨w.heap.size, 0, none⟩ = some (.int .u8 lo) := by rw [cell_of_block (heap_new w _)]; rfl
  have q1 : (w.alloc (.cells #[.int .u8 lo, .int .u8 hi] 129)).cell? ⟨w.heap.size, 1, none⟩ = some (.int .u8 hi) := by rw [cell_of_block (heap_new w _)]; rfl
  have p0 : (w.alloc (.cells #[.int .u8 lo, .int .u8 hi] 129)).cell? ⟨b, off, none⟩ = some (.int .u8 x0) := by rw [hbl.cells hbs]; exact h0
  have p1 : (w.alloc (.cells #[.int .u8 lo, .int .u8 hi] 129)).cell? ⟨b, off + 1, none⟩ = some (.int .u8 x1) := by rw [hbl.cells hbs]; exact h1
  have p2 : (w.alloc (.cells #[.int .u8 lo, .int .u8 hi] 129)).cell? ⟨b, off + 2, none⟩ = some (.int .u8 x2) := by rw [hbl.cells hbs]; exact h2
  have HB : Hid (Below w.heap.size w (w.alloc (.cells #[.int .u8 lo, .int .u8 hi] 129))) := hbl
  generalize w.alloc (.cells #[.int .u8 lo, .int .u8 hi] 129) = wa at *
  clear hbl h0 ha0 ha1 hc0 h1 h2
  go_quiet (fail)
  have HB2 : Hid (Below w.heap.size w (wa.drewN nq)) := HB.out.trans ((below_drewN wa nq).mono HB.out.size)
  replace q0 : (wa.drewN nq).cell? ⟨w.heap.size, 0, none⟩ = some (.int .u8 lo) := q0
  replace q1 : (wa.drewN nq).cell? ⟨w.heap.size, 1, none⟩ = some (.int .u8 hi) := q1
  replace p0 : (wa.drewN nq).cell? ⟨b, off, none⟩ = some (.int .u8 x0) := p0
  replace p1 : (wa.drewN nq).cell? ⟨b, off + 1, none⟩ = some (.int .u8 x1) := p1
  replace p2 : (wa.drewN nq).cell? ⟨b, off + 2, none⟩ = some (.int .u8 x2) := p2
  generalize wa.drewN nq = wb at *
  clear HB
  go_wp2_with fail
  go_ret
  exact ⟨rfl, HB2.out⟩
end Go.Proofs.YtjlfibhbfdckpaaDoor

/- utf8.DecodeRune of at most four bytes that do not begin with ASCII. -/
namespace Go.Proofs.YtjlfibhbfdckpaaDoor
open Go.RowKit Go.Lib
attribute [local go_sem ↓] Go.wp_at_zero Go.wp_at_succ
set_option maxHeartbeats 1000000 in
set_option maxRecDepth 100000 in
theorem uDecodeOn (b off n cap x0 : Nat) (w : World) (R K : Int) (Q : World → Prop) (hn : 0 < n) (h0 : w.cell? ⟨b, off, none⟩ = some (.int .u8 x0)) (a0 : 128 ≤ x0)
    (cS : Calls Tryd.prog 108 #[.slice (some ⟨b, off, none⟩) n cap] w fun e w' => e = .returned (.tuple #[.int .i32 R, .int .i64 K]) ∧ Q w') :
    Calls Tryd.prog 107 #[.slice (some ⟨b, off, none⟩) n cap] w fun e w' => e = .returned (.tuple #[.int .i32 R, .int .i64 K]) ∧ Q w' := by
  have hn' : (0 : Int) < n := by omega
  have ha : ¬ (x0 : Int) < 128 := by omega
  have HS : Hid (Calls Tryd.prog 108 #[.slice (some ⟨b, off, none⟩) n cap] w fun e w' => e = .returned (.tuple #[.int .i32 R, .int .i64 K]) ∧ Q w') := cS
  clear cS
  go_enter Tryd.func107, Tryd.ntmps107
  go_wp2
  go_loop [8] (fun i => i = .int .i64 0) (fun _ => 0)
  case atStart => rfl
  case round =>
    subst hrel
    go_wp2_with (go_at_call 108; refine HS.out.mono ?_; rintro e w' ⟨rfl, hb⟩)
    go_ret2
    exact ⟨rfl, hb⟩
set_option maxHeartbeats 1000000 in
set_option maxRecDepth 100000 in
theorem uSlowBad (b off cap x0 : Nat) (w : World) (l0 : x0 < 256) (hc0 : w.cell? ⟨0, x0, none⟩ = some (.int .u8 241)) (h0 : w.cell? ⟨b, off, none⟩ = some (.int .u8 x0)) :
    Calls Tryd.prog 108 #[.slice (some ⟨b, off, none⟩) 1 cap] w fun e w' => e = .returned (.tuple #[.int .i32 65533, .int .i64 1]) ∧ Below w.heap.size w w' := by
  go_enter Tryd.func108, Tryd.ntmps108
  go_wp2
  rw [Utf8W.mask241, Utf8W.drop_byte ⟨x0, l0⟩]
  go_ret2
  exact ⟨rfl, Below.refl _ _⟩
set_option maxHeartbeats 4000000 in
set_option maxRecDepth 10000 in
theorem uSlowShort (b off cap x0 X i lo hi sz n : Nat) (w : World) (F : Fst w x0 X i lo hi) (hsz : (X : Int) % 8 = sz) (h0 : w.cell? ⟨b, off, none⟩ = some (.int .u8 x0)) (hn : n < sz) (hn0 : 0 < n) :
    Calls Tryd.prog 108 #[.slice (some ⟨b, off, none⟩) n cap] w fun e w' => e = .returned (.tuple #[.int .i32 65533, .int .i64 1]) ∧ Below w.heap.size w w' := by
  have i16 : (i : Int) < 16 := by have := F.i16; omega
  have i0 : (0 : Int) ≤ i := by omega
  have l0 := F.l0
  have hX := F.hX
  have hid := F.id
  have hc0 := F.c0
  have ha0 := F.a0
  have ha1 := F.a1
  have h1s : 1 < w.heap.size := World.block_lt_of_cell? _ _ ha0
  have hbs : b < w.heap.size := World.block_lt_of_cell? _ _ h0
  have hlo := F.lh.1
  have hhi := F.lh.2
  clear F
  have n1 : (n : Int) < sz := by omega
  have n0 : (0 : Int) < n := by omega
  have n2 : ¬ (n : Int) < 1 := by omega
  have hx240 : ¬ (240 : Int) ≤ X := by omega
  go_enter Tryd.func108, Tryd.ntmps108
  go_wp2
  go_ret2
  exact ⟨rfl, (Below.refl _ _).alloc (Nat.le_refl _) _⟩
set_option maxHeartbeats 4000000 in
set_option maxRecDepth 10000 in
theorem uSlow1lo (b off cap x0 x1 X i lo hi sz n : Nat) (w : World) (F : Fst w x0 X i lo hi) (hsz : (X : Int) % 8 = sz) (h0 : w.cell? ⟨b, off, none⟩ = some (.int .u8 x0)) (h1 : w.cell? ⟨b, off + 1, none⟩ = some (.int .u8 x1)) (hn : sz ≤ n) (hn1 : 1 < n) (hx : x1 < lo) :
    Calls Tryd.prog 108 #[.slice (some ⟨b, off, none⟩) n cap] w fun e w' => e = .returned (.tuple #[.int .i32 65533, .int .i64 1]) ∧ Below w.heap.size w w' := by
  have i16 : (i : Int) < 16 := by have := F.i16; omega
  have i0 : (0 : Int) ≤ i := by omega
  have l0 := F.l0
  have hX := F.hX
  have hid := F.id
  have hc0 := F.c0
  have ha0 := F.a0
  have ha1 := F.a1
  have h1s : 1 < w.heap.size := World.block_lt_of_cell? _ _ ha0
  have hbs : b < w.heap.size := World.block_lt_of_cell? _ _ h0
  have hlo := F.lh.1
  have hhi := F.lh.2
  clear F
  have n1 : ¬ (n : Int) < sz := by omega
  have n0 : (0 : Int) < n := by omega
  have n2 : ¬ (n : Int) < 1 := by omega
  have n3 : (1 : Int) < n := by omega
  have d1 : (x1 : Int) < lo := by omega
  have hx240 : ¬ (240 : Int) ≤ X := by omega
  go_enter Tryd.func108, Tryd.ntmps108
  go_wp2
  go_ret2
  exact ⟨rfl, (Below.refl _ _).alloc (Nat.le_refl _) _⟩
set_option maxHeartbeats 4000000 in
set_option maxRecDepth 10000 in
theorem uSlow1hi (b off cap x0 x1 X i lo hi sz n : Nat) (w : World) (F : Fst w x0 X i lo hi) (hsz : (X : Int) % 8 = sz) (h0 : w.cell? ⟨b, off, none⟩ = some (.int .u8 x0)) (h1 : w.cell? ⟨b, off + 1, none⟩ = some (.int .u8 x1)) (hn : sz ≤ n) (hn1 : 1 < n) (hy : ¬ x1 < lo) (hx : hi < x1) :
    Calls Tryd.prog 108 #[.slice (some ⟨b, off, none⟩) n cap] w fun e w' => e = .returned (.tuple #[.int .i32 65533, .int .i64 1]) ∧ Below w.heap.size w w' := by
  have i16 : (i : Int) < 16 := by have := F.i16; omega
  have i0 : (0 : Int) ≤ i := by omega
  have l0 := F.l0
  have hX := F.hX
  have hid := F.id
  have hc0 := F.c0
  have ha0 := F.a0
  have ha1 := F.a1
  have h1s : 1 < w.heap.size := World.block_lt_of_cell? _ _ ha0
  have hbs : b < w.heap.size := World.block_lt_of_cell? _ _ h0
  have hlo := F.lh.1
  have hhi := F.lh.2
  clear F
  have n1 : ¬ (n : Int) < sz := by omega
  have n0 : (0 : Int) < n := by omega
  have n2 : ¬ (n : Int) < 1 := by omega
  have n3 : (1 : Int) < n := by omega
  have d1 : ¬ (x1 : Int) < lo := by omega
  have d2 : (hi : Int) < x1 := by omega
  have hx240 : ¬ (240 : Int) ≤ X := by omega
  go_enter Tryd.func108, Tryd.ntmps108
  go_wp2
  go_ret2
  exact ⟨rfl, (Below.refl _ _).alloc (Nat.le_refl _) _⟩
set_option maxHeartbeats 4000000 in
set_option maxRecDepth 10000 in
theorem uSlow2 (b off cap x0 x1 X i lo hi : Nat) (w : World) (F : Fst w x0 X i lo hi) (hsz : (X : Int) % 8 = 2) (h0 : w.cell? ⟨b, off, none⟩ = some (.int .u8 x0)) (h1 : w.cell? ⟨b, off + 1, none⟩ = some (.int .u8 x1)) (hx : lo ≤ x1 ∧ x1 ≤ hi) :
    Calls Tryd.prog 108 #[.slice (some ⟨b, off, none⟩) 2 cap] w fun e w' => e = .returned (.tuple #[.int .i32 ((x0 : Int) % 32 * 64 + (x1 : Int) % 64), .int .i64 2]) ∧ Below w.heap.size w w' := by
  have i16 : (i : Int) < 16 := by have := F.i16; omega
  have i0 : (0 : Int) ≤ i := by omega
  have l0 := F.l0
  have hX := F.hX
  have hid := F.id
  have hc0 := F.c0
  have ha0 := F.a0
  have ha1 := F.a1
  have h1s : 1 < w.heap.size := World.block_lt_of_cell? _ _ ha0
  have hbs : b < w.heap.size := World.block_lt_of_cell? _ _ h0
  have hlo := F.lh.1
  have hhi := F.lh.2
  clear F
  have d1 : ¬ (x1 : Int) < lo := by omega
  have d2 : ¬ (hi : Int) < x1 := by omega
  have hx240 : ¬ (240 : Int) ≤ X := by omega
  go_enter Tryd.func108, Tryd.ntmps108
  go_wp2
  go_ret2
  exact ⟨rfl, (Below.refl _ _).alloc (Nat.le_refl _) _⟩
set_option maxHeartbeats 4000000 in
set_option maxRecDepth 10000 in
theorem uSlow3lo (b off cap x0 x1 x2 X i lo hi : Nat) (w : World) (F : Fst w x0 X i lo hi) (hsz : (X : Int) % 8 = 3) (h0 : w.cell? ⟨b, off, none⟩ = some (.int .u8 x0)) (h1 : w.cell? ⟨b, off + 1, none⟩ = some (.int .u8 x1)) (h2 : w.cell? ⟨b, off + 2, none⟩ = some (.int .u8 x2)) (hy : x2 < 128) (hx : lo ≤ x1 ∧ x1 ≤ hi) :
    Calls Tryd.prog 108 #[.slice (some ⟨b, off, none⟩) 3 cap] w fun e w' => e = .returned (.tuple #[.int .i32 65533, .int .i64 1]) ∧ Below w.heap.size w w' := by
  have i16 : (i : Int) < 16 := by have := F.i16; omega
  have i0 : (0 : Int) ≤ i := by omega
  have l0 := F.l0
  have hX := F.hX
  have hid := F.id
  have hc0 := F.c0
  have ha0 := F.a0
  have ha1 := F.a1
  have h1s : 1 < w.heap.size := World.block_lt_of_cell? _ _ ha0
  have hbs : b < w.heap.size := World.block_lt_of_cell? _ _ h0
  have hlo := F.lh.1
  have hhi := F.lh.2
  clear F
  have d1 : ¬ (x1 : Int) < lo := by omega
  have d2 : ¬ (hi : Int) < x1 := by omega
  have d3 : (x2 : Int) < 128 := by omega
  have hx240 : ¬ (240 : Int) ≤ X := by omega
  go_enter Tryd.func108, Tryd.ntmps108
  go_wp2
  go_ret2
  exact ⟨rfl, (Below.refl _ _).alloc (Nat.le_refl _) _⟩
set_option maxHeartbeats 4000000 in
set_option maxRecDepth 10000 in
theorem uSlow3hi (b off cap x0 x1 x2 X i lo hi : Nat) (w : World) (F : Fst w x0 X i lo hi) (hsz : (X : Int) % 8 = 3) (h0 : w.cell? ⟨b, off, none⟩ = some (.int .u8 x0)) (h1 : w.cell? ⟨b, off + 1, none⟩ = some (.int .u8 x1)) (h2 : w.cell? ⟨b, off + 2, none⟩ = some (.int .u8 x2)) (hy : 191 < x2) (hx : lo ≤ x1 ∧ x1 ≤ hi) :
    Calls Tryd.prog 108 #[.slice (some ⟨b, off, none⟩) 3 cap] w fun e w' => e = .returned (.tuple #[.int .i32 65533, .int .i64 1]) ∧ Below w.heap.size w w' := by
  have i16 : (i : Int) < 16 := by have := F.i16; omega
  have i0 : (0 : Int) ≤ i := by omega
  have l0 := F.l0
  have hX := F.hX
  have hid := F.id
  have hc0 := F.c0
  have ha0 := F.a0
  have ha1 := F.a1
  have h1s : 1 < w.heap.size := World.block_lt_of_cell? _ _ ha0
  have hbs : b < w.heap.size := World.block_lt_of_cell? _ _ h0
  have hlo := F.lh.1
  have hhi := F.lh.2
  clear F
  have d1 : ¬ (x1 : Int) < lo := by omega
  have d2 : ¬ (hi : Int) < x1 := by omega
  have d3 : ¬ (x2 : Int) < 128 := by omega
  have d4 : (191 : Int) < x2 := by omega
  have hx240 : ¬ (240 : Int) ≤ X := by omega
  go_enter Tryd.func108, Tryd.ntmps108
  go_wp2
  go_ret2
  exact ⟨rfl, (Below.refl _ _).alloc (Nat.le_refl _) _⟩
set_option maxHeartbeats 4000000 in
set_option maxRecDepth 10000 in
theorem uSlow3 (b off cap x0 x1 x2 X i lo hi : Nat) (w : World) (F : Fst w x0 X i lo hi) (hsz : (X : Int) % 8 = 3) (h0 : w.cell? ⟨b, off, none⟩ = some (.int .u8 x0)) (h1 : w.cell? ⟨b, off + 1, none⟩ = some (.int .u8 x1)) (h2 : w.cell? ⟨b, off + 2, none⟩ = some (.int .u8 x2)) (hy : 128 ≤ x2 ∧ x2 ≤ 191) (hx : lo ≤ x1 ∧ x1 ≤ hi) :
    Calls Tryd.prog 108 #[.slice (some ⟨b, off, none⟩) 3 cap] w fun e w' => e = .returned (.tuple #[.int .i32 ((x0 : Int) % 16 * 4096 + (x1 : Int) % 64 * 64 + (x2 : Int) % 64), .int .i64 3]) ∧ Below w.heap.size w w' := by
  have i16 : (i : Int) < 16 := by have := F.i16; omega
  have i0 : (0 : Int) ≤ i := by omega
  have l0 := F.l0
  have hX := F.hX
  have hid := F.id
  have hc0 := F.c0
  have ha0 := F.a0
  have ha1 := F.a1
  have h1s : 1 < w.heap.size := World.block_lt_of_cell? _ _ ha0
  have hbs : b < w.heap.size := World.block_lt_of_cell? _ _ h0
  have hlo := F.lh.1
  have hhi := F.lh.2
  clear F
  have d1 : ¬ (x1 : Int) < lo := by omega
  have d2 : ¬ (hi : Int) < x1 := by omega
  have d3 : ¬ (x2 : Int) < 128 := by omega
  have d4 : ¬ (191 : Int) < x2 := by omega
  have hx240 : ¬ (240 : Int) ≤ X := by omega
  go_enter Tryd.func108, Tryd.ntmps108
  go_wp2
  go_ret2
  exact ⟨rfl, (Below.refl _ _).alloc (Nat.le_refl _) _⟩
set_option maxHeartbeats 4000000 in
set_option maxRecDepth 10000 in
theorem uSlow4lo (b off cap x0 x1 x2 x3 X i lo hi : Nat) (w : World) (F : Fst w x0 X i lo hi) (hsz : (X : Int) % 8 = 4) (h0 : w.cell? ⟨b, off, none⟩ = some (.int .u8 x0)) (h1 : w.cell? ⟨b, off + 1, none⟩ = some (.int .u8 x1)) (h2 : w.cell? ⟨b, off + 2, none⟩ = some (.int .u8 x2)) (h3 : w.cell? ⟨b, off + 3, none⟩ = some (.int .u8 x3)) (hy : 128 ≤ x2 ∧ x2 ≤ 191) (hz : x3 < 128) (hx : lo ≤ x1 ∧ x1 ≤ hi) :
    Calls Tryd.prog 108 #[.slice (some ⟨b, off, none⟩) 4 cap] w fun e w' => e = .returned (.tuple #[.int .i32 65533, .int .i64 1]) ∧ Below w.heap.size w w' := by
  have i16 : (i : Int) < 16 := by have := F.i16; omega
  have i0 : (0 : Int) ≤ i := by omega
  have l0 := F.l0
  have hX := F.hX
  have hid := F.id
  have hc0 := F.c0
  have ha0 := F.a0
  have ha1 := F.a1
  have h1s : 1 < w.heap.size := World.block_lt_of_cell? _ _ ha0
  have hbs : b < w.heap.size := World.block_lt_of_cell? _ _ h0
  have hlo := F.lh.1
  have hhi := F.lh.2
  clear F
  have d1 : ¬ (x1 : Int) < lo := by omega
  have d2 : ¬ (hi : Int) < x1 := by omega
  have d3 : ¬ (x2 : Int) < 128 := by omega
  have d4 : ¬ (191 : Int) < x2 := by omega
  have d5 : (x3 : Int) < 128 := by omega
  have hx240 : ¬ (240 : Int) ≤ X := by omega
  go_enter Tryd.func108, Tryd.ntmps108
  go_wp2
  go_ret2
  exact ⟨rfl, (Below.refl _ _).alloc (Nat.le_refl _) _⟩
set_option maxHeartbeats 4000000 in
set_option maxRecDepth 10000 in
theorem uSlow4hi (b off cap x0 x1 x2 x3 X i lo hi : Nat) (w : World) (F : Fst w x0 X i lo hi) (hsz : (X : Int) % 8 = 4) (h0 : w.cell? ⟨b, off, none⟩ = some (.int .u8 x0)) (h1 : w.cell? ⟨b, off + 1, none⟩ = some (.int .u8 x1)) (h2 : w.cell? ⟨b, off + 2, none⟩ = some (.int .u8 x2)) (h3 : w.cell? ⟨b, off + 3, none⟩ = some (.int .u8 x3)) (hy : 128 ≤ x2 ∧ x2 ≤ 191) (hz : 191 < x3) (hx : lo ≤ x1 ∧ x1 ≤ hi) :
    Calls Tryd.prog 108 #[.slice (some ⟨b, off, none⟩) 4 cap] w fun e w' => e = .returned (.tuple #[.int .i32 65533, .int .i64 1]) ∧ Below w.heap.size w w' := by
  have i16 : (i : Int) < 16 := by have := F.i16; omega
  have i0 : (0 : Int) ≤ i := by omega
  have l0 := F.l0
  have hX := F.hX
  have hid := F.id
  have hc0 := F.c0
  have ha0 := F.a0
  have ha1 := F.a1
  have h1s : 1 < w.heap.size := World.block_lt_of_cell? _ _ ha0
  have hbs : b < w.heap.size := World.block_lt_of_cell? _ _ h0
  have hlo := F.lh.1
  have hhi := F.lh.2
  clear F
  have d1 : ¬ (x1 : Int) < lo := by omega
  have d2 : ¬ (hi : Int) < x1 := by omega
  have d3 : ¬ (x2 : Int) < 128 := by omega
  have d4 : ¬ (191 : Int) < x2 := by omega
  have d5 : ¬ (x3 : Int) < 128 := by omega
  have d6 : (191 : Int) < x3 := by omega
  have hx240 : ¬ (240 : Int) ≤ X := by omega
  go_enter Tryd.func108, Tryd.ntmps108
  go_wp2
  go_ret2
  exact ⟨rfl, (Below.refl _ _).alloc (Nat.le_refl _) _⟩
set_option maxHeartbeats 4000000 in
set_option maxRecDepth 10000 in
theorem uSlow4 (b off cap x0 x1 x2 x3 X i lo hi : Nat) (w : World) (F : Fst w x0 X i lo hi) (hsz : (X : Int) % 8 = 4) (h0 : w.cell? ⟨b, off, none⟩ = some (.int .u8 x0)) (h1 : w.cell? ⟨b, off + 1, none⟩ = some (.int .u8 x1)) (h2 : w.cell? ⟨b, off + 2, none⟩ = some (.int .u8 x2)) (h3 : w.cell? ⟨b, off + 3, none⟩ = some (.int .u8 x3)) (hy : 128 ≤ x2 ∧ x2 ≤ 191) (hz : 128 ≤ x3 ∧ x3 ≤ 191) (hx : lo ≤ x1 ∧ x1 ≤ hi) :
    Calls Tryd.prog 108 #[.slice (some ⟨b, off, none⟩) 4 cap] w fun e w' => e = .returned (.tuple #[.int .i32 ((x0 : Int) % 8 * 262144 + (x1 : Int) % 64 * 4096 + (x2 : Int) % 64 * 64 + (x3 : Int) % 64), .int .i64 4]) ∧ Below w.heap.size w w' := by
  have i16 : (i : Int) < 16 := by have := F.i16; omega
  have i0 : (0 : Int) ≤ i := by omega
  have l0 := F.l0
  have hX := F.hX
  have hid := F.id
  have hc0 := F.c0
  have ha0 := F.a0
  have ha1 := F.a1
  have h1s : 1 < w.heap.size := World.block_lt_of_cell? _ _ ha0
  have hbs : b < w.heap.size := World.block_lt_of_cell? _ _ h0
  have hlo := F.lh.1
  have hhi := F.lh.2
  clear F
  have d1 : ¬ (x1 : Int) < lo := by omega
  have d2 : ¬ (hi : Int) < x1 := by omega
  have d3 : ¬ (x2 : Int) < 128 := by omega
  have d4 : ¬ (191 : Int) < x2 := by omega
  have d5 : ¬ (x3 : Int) < 128 := by omega
  have d6 : ¬ (191 : Int) < x3 := by omega
  have hx240 : ¬ (240 : Int) ≤ X := by omega
  go_enter Tryd.func108, Tryd.ntmps108
  go_wp2
  go_ret2
  exact ⟨rfl, (Below.refl _ _).alloc (Nat.le_refl _) _⟩
end Go.Proofs.YtjlfibhbfdckpaaDoor
