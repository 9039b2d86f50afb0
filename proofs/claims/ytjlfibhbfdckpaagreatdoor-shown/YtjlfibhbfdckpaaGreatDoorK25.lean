/- Texts of the proof, one behind the other: PuB, PuC, PuD. -/
import Derived.Test.YtjlfibhbfdckpaaGreatDoorK24
import Derived.LoopTactic
/- utf8.DecodeRune of at most four bytes that do not begin with ASCII. -/
namespace Go.Proofs.YtjlfibhbfdckpaaGreatDoor
open Go.RowKit Go.Lib
attribute [local go_sem ↓] Go.wp_at_zero Go.wp_at_succ
set_option maxHeartbeats 1000000 in
set_option maxRecDepth 100000 in
theorem uDecodeOn (b off n cap x0 : Nat) (w : World) (R K : Int) (Q : World → Prop) (hn : 0 < n) (h0 : w.cell? ⟨b, off, none⟩ = some (.int .u8 x0)) (a0 : 128 ≤ x0)
    (cS : Calls Tryz.prog 243 #[.slice (some ⟨b, off, none⟩) n cap] w fun e w' => e = .returned (.tuple #[.int .i32 R, .int .i64 K]) ∧ Q w') :
    Calls Tryz.prog 230 #[.slice (some ⟨b, off, none⟩) n cap] w fun e w' => e = .returned (.tuple #[.int .i32 R, .int .i64 K]) ∧ Q w' := by
  have hn' : (0 : Int) < n := by omega
  have ha : ¬ (x0 : Int) < 128 := by omega
  have HS : Hid (Calls Tryz.prog 243 #[.slice (some ⟨b, off, none⟩) n cap] w fun e w' => e = .returned (.tuple #[.int .i32 R, .int .i64 K]) ∧ Q w') := cS
  clear cS
  go_enter Tryz.func230, Tryz.ntmps230
  go_wp2
  go_loop [8] (fun i => i = .int .i64 0) (fun _ => 0)
  case atStart => rfl
  case round =>
    subst hrel
    go_wp2_with (go_at_call 243; refine HS.out.mono ?_; rintro e w' ⟨rfl, hb⟩)
    go_ret2
    exact ⟨rfl, hb⟩
set_option maxHeartbeats 1000000 in
set_option maxRecDepth 100000 in
theorem uSlowBad (b off cap x0 : Nat) (w : World) (l0 : x0 < 256) (hc0 : w.cell? ⟨0, x0, none⟩ = some (.int .u8 241)) (h0 : w.cell? ⟨b, off, none⟩ = some (.int .u8 x0)) :
    Calls Tryz.prog 243 #[.slice (some ⟨b, off, none⟩) 1 cap] w fun e w' => e = .returned (.tuple #[.int .i32 65533, .int .i64 1]) ∧ Below w.heap.size w w' := by
  go_enter Tryz.func243, Tryz.ntmps243
  go_wp2
  rw [Utf8W.mask241, Utf8W.drop_byte ⟨x0, l0⟩]
  go_ret2
  exact ⟨rfl, Below.refl _ _⟩
set_option maxHeartbeats 4000000 in
set_option maxRecDepth 10000 in
theorem uSlowShort (b off cap x0 X i lo hi sz n : Nat) (w : World) (F : Fst w x0 X i lo hi) (hsz : (X : Int) % 8 = sz) (h0 : w.cell? ⟨b, off, none⟩ = some (.int .u8 x0)) (hn : n < sz) (hn0 : 0 < n) :
    Calls Tryz.prog 243 #[.slice (some ⟨b, off, none⟩) n cap] w fun e w' => e = .returned (.tuple #[.int .i32 65533, .int .i64 1]) ∧ Below w.heap.size w w' := by
  have i16 : (i : Int) < 16 := by have := F.i16; omega
  have i0 : (0 : Int) ≤ i := by omega
  have l0 := F.l0
  have hX := F.hX
  have hid := F.id
  have hc0 := F.c0
  have ha0 := F.a0
  have ha1 := F.a1
  have h1s : 1 < w.heap.size := World.block_lt_of_cell? _ _ ha0
  have hbs : b < w.heap.size := World.block_lt_of_cell? _ _ h0
  have hlo := F.lh.1
  have hhi := F.lh.2
  clear F
  have n1 : (n : Int) < sz := by omega
  have n0 : (0 : Int) < n := by omega
  have n2 : ¬ (n : Int) < 1 := by omega
  have hx240 : ¬ (240 : Int) ≤ X := by omega
  go_enter Tryz.func243, Tryz.ntmps243
  go_wp2
  go_ret2
  exact ⟨rfl, (Below.refl _ _).alloc (Nat.le_refl _) _⟩
set_option maxHeartbeats 4000000 in
set_option maxRecDepth 10000 in
theorem uSlow1lo (b off cap x0 x1 X i lo hi sz n : Nat) (w : World) (F : Fst w x0 X i lo hi) (hsz : (X : Int) % 8 = sz) (h0 : w.cell? ⟨b, off, none⟩ = some (.int .u8 x0)) (h1 : w.cell? ⟨b, off + 1, none⟩ = some (.int .u8 x1)) (hn : sz ≤ n) (hn1 : 1 < n) (hx : x1 < lo) :
    Calls Tryz.prog 243 #[.slice (some ⟨b, off, none⟩) n cap] w fun e w' => e = .returned (.tuple #[.int .i32 65533, .int .i64 1]) ∧ Below w.heap.size w w' := by
  have i16 : (i : Int) < 16 := by have := F.i16; omega
  have i0 : (0 : Int) ≤ i := by omega
  have l0 := F.l0
  have hX := F.hX
  have hid := F.id
  have hc0 := F.c0
  have ha0 := F.a0
  have ha1 := F.a1
  have h1s : 1 < w.heap.size := World.block_lt_of_cell? _ _ ha0
  have hbs : b < w.heap.size := World.block_lt_of_cell? _ _ h0
  have hlo := F.lh.1
  have hhi := F.lh.2
  clear F
  have n1 : ¬ (n : Int) < sz := by omega
  have n0 : (0 : Int) < n := by omega
  have n2 : ¬ (n : Int) < 1 := by omega
  have n3 : (1 : Int) < n := by omega
  have d1 : (x1 : Int) < lo := by omega
  have hx240 : ¬ (240 : Int) ≤ X := by omega
  go_enter Tryz.func243, Tryz.ntmps243
  go_wp2
  go_ret2
  exact ⟨rfl, (Below.refl _ _).alloc (Nat.le_refl _) _⟩
set_option maxHeartbeats 4000000 in
set_option maxRecDepth 10000 in
theorem uSlow1hi (b off cap x0 x1 X i lo hi sz n : Nat) (w : World) (F : Fst w x0 X i lo hi) (hsz : (X : Int) % 8 = sz) (h0 : w.cell? ⟨b, off, none⟩ = some (.int .u8 x0)) (h1 : w.cell? ⟨b, off + 1, none⟩ = some (.int .u8 x1)) (hn : sz ≤ n) (hn1 : 1 < n) (hy : ¬ x1 < lo) (hx : hi < x1) :
    Calls Tryz.prog 243 #[.slice (some ⟨b, off, none⟩) n cap] w fun e w' => e = .returned (.tuple #[.int .i32 65533, .int .i64 1]) ∧ Below w.heap.size w w' := by
  have i16 : (i : Int) < 16 := by have := F.i16; omega
  have i0 : (0 : Int) ≤ i := by omega
  have l0 := F.l0
  have hX := F.hX
  have hid := F.id
  have hc0 := F.c0
  have ha0 := F.a0
  have ha1 := F.a1
  have h1s : 1 < w.heap.size := World.block_lt_of_cell? _ _ ha0
  have hbs : b < w.heap.size := World.block_lt_of_cell? _ _ h0
  have hlo := F.lh.1
  have hhi := F.lh.2
  clear F
  have n1 : ¬ (n : Int) < sz := by omega
  have n0 : (0 : Int) < n := by omega
  have n2 : ¬ (n : Int) < 1 := by omega
  have n3 : (1 : Int) < n := by omega
  have d1 : ¬ (x1 : Int) < lo := by omega
  have d2 : (hi : Int) < x1 := by omega
  have hx240 : ¬ (240 : Int) ≤ X := by omega
  go_enter Tryz.func243, Tryz.ntmps243
  go_wp2
  go_ret2
  exact ⟨rfl, (Below.refl _ _).alloc (Nat.le_refl _) _⟩
set_option maxHeartbeats 4000000 in
set_option maxRecDepth 10000 in
theorem uSlow2 (b off cap x0 x1 X i lo hi : Nat) (w : World) (F : Fst w x0 X i lo hi) (hsz : (X : Int) % 8 = 2) (h0 : w.cell? ⟨b, off, none⟩ = some (.int .u8 x0)) (h1 : w.cell? ⟨b, off + 1, none⟩ = some (.int .u8 x1)) (hx : lo ≤ x1 ∧ x1 ≤ hi) :
    Calls Tryz.prog 243 #[.slice (some ⟨b, off, none⟩) 2 cap] w fun e w' => e = .returned (.tuple #[.int .i32 ((x0 : Int) % 32 * 64 + (x1 : Int) % 64), .int .i64 2]) ∧ Below w.heap.size w w' := by
  have i16 : (i : Int) < 16 := by have := F.i16; omega
  have i0 : (0 : Int) ≤ i := by omega
  have l0 := F.l0
  have hX := F.hX
  have hid := F.id
  have hc0 := F.c0
  have ha0 := F.a0
  have ha1 := F.a1
  have h1s : 1 < w.heap.size := World.block_lt_of_cell? _ _ ha0
  have hbs : b < w.heap.size := World.block_lt_of_cell? _ _ h0
  have hlo := F.lh.1
  have hhi := F.lh.2
  clear F
  have d1 : ¬ (x1 : Int) < lo := by omega
  have d2 : ¬ (hi : Int) < x1 := by omega
  have hx240 : ¬ (240 : Int) ≤ X := by omega
  go_enter Tryz.func243, Tryz.ntmps243
  go_wp2
  go_ret2
  exact ⟨rfl, (Below.refl _ _).alloc (Nat.le_refl _) _⟩
set_option maxHeartbeats 4000000 in
set_option maxRecDepth 10000 in
theorem uSlow3lo (b off cap x0 x1 x2 X i lo hi : Nat) (w : World) (F : Fst w x0 X i lo hi) (hsz : (X : Int) % 8 = 3) (h0 : w.cell? ⟨b, off, none⟩ = some (.int .u8 x0)) (h1 : w.cell? ⟨b, off + 1, none⟩ = some (.int .u8 x1)) (h2 : w.cell? ⟨b, off + 2, none⟩ = some (.int .u8 x2)) (hy : x2 < 128) (hx : lo ≤ x1 ∧ x1 ≤ hi) :
    Calls Tryz.prog 243 #[.slice (some ⟨b, off, none⟩) 3 cap] w fun e w' => e = .returned (.tuple #[.int .i32 65533, .int .i64 1]) ∧ Below w.heap.size w w' := by
  have i16 : (i : Int) < 16 := by have := F.i16; omega
  have i0 : (0 : Int) ≤ i := by omega
  have l0 := F.l0
  have hX := F.hX
  have hid := F.id
  have hc0 := F.c0
  have ha0 := F.a0
  have ha1 := F.a1
  have h1s : 1 < w.heap.size := World.block_lt_of_cell? _ _ ha0
  have hbs : b < w.heap.size := World.block_lt_of_cell? _ _ h0
  have hlo := F.lh.1
  have hhi := F.lh.2
  clear F
  have d1 : ¬ (x1 : Int) < lo := by omega
  have d2 : ¬ (hi : Int) < x1 := by omega
  have d3 : (x2 : Int) < 128 := by omega
  have hx240 : ¬ (240 : Int) ≤ X := by omega
  go_enter Tryz.func243, Tryz.ntmps243
  go_wp2
  go_ret2
  exact ⟨rfl, (Below.refl _ _).alloc (Nat.le_refl _) _⟩
set_option maxHeartbeats 4000000 in
set_option maxRecDepth 10000 in
theorem uSlow3hi (b off cap x0 x1 x2 X i lo hi : Nat) (w : World) (F : Fst w x0 X i lo hi) (hsz : (X : Int) % 8 = 3) (h0 : w.cell? ⟨b, off, none⟩ = some (.int .u8 x0)) (h1 : w.cell? ⟨b, off + 1, none⟩ = some (.int .u8 x1)) (h2 : w.cell? ⟨b, off + 2, none⟩ = some (.int .u8 x2)) (hy : 191 < x2) (hx : lo ≤ x1 ∧ x1 ≤ hi) :
    Calls Tryz.prog 243 #[.slice (some ⟨b, off, none⟩) 3 cap] w fun e w' => e = .returned (.tuple #[.int .i32 65533, .int .i64 1]) ∧ Below w.heap.size w w' := by
  have i16 : (i : Int) < 16 := by have := F.i16; omega
  have i0 : (0 : Int) ≤ i := by omega
  have l0 := F.l0
  have hX := F.hX
  have hid := F.id
  have hc0 := F.c0
  have ha0 := F.a0
  have ha1 := F.a1
  have h1s : 1 < w.heap.size := World.block_lt_of_cell? _ _ ha0
  have hbs : b < w.heap.size := World.block_lt_of_cell? _ _ h0
  have hlo := F.lh.1
  have hhi := F.lh.2
  clear F
  have d1 : ¬ (x1 : Int) < lo := by omega
  have d2 : ¬ (hi : Int) < x1 := by omega
  have d3 : ¬ (x2 : Int) < 128 := by omega
  have d4 : (191 : Int) < x2 := by omega
  have hx240 : ¬ (240 : Int) ≤ X := by omega
  go_enter Tryz.func243, Tryz.ntmps243
  go_wp2
  go_ret2
  exact ⟨rfl, (Below.refl _ _).alloc (Nat.le_refl _) _⟩
set_option maxHeartbeats 4000000 in
set_option maxRecDepth 10000 in
theorem uSlow3 (b off cap x0 x1 x2 X i lo hi : Nat) (w : World) (F : Fst w x0 X i lo hi) (hsz : (X : Int) % 8 = 3) (h0 : w.cell? ⟨b, off, none⟩ = some (.int .u8 x0)) (h1 : w.cell? ⟨b, off + 1, none⟩ = some (.int .u8 x1)) (h2 : w.cell? ⟨b, off + 2, none⟩ = some (.int .u8 x2)) (hy : 128 ≤ x2 ∧ x2 ≤ 191) (hx : lo ≤ x1 ∧ x1 ≤ hi) :
    Calls Tryz.prog 243 #[.slice (some ⟨b, off, none⟩) 3 cap] w fun e w' => e = .returned (.tuple #[.int .i32 ((x0 : Int) % 16 * 4096 + (x1 : Int) % 64 * 64 + (x2 : Int) % 64), .int .i64 3]) ∧ Below w.heap.size w w' := by
  have i16 : (i : Int) < 16 := by have := F.i16; omega
  have i0 : (0 : Int) ≤ i := by omega
  have l0 := F.l0
  have hX := F.hX
  have hid := F.id
  have hc0 := F.c0
  have ha0 := F.a0
  have ha1 := F.a1
  have h1s : 1 < w.heap.size := World.block_lt_of_cell? _ _ ha0
  have hbs : b < w.heap.size := World.block_lt_of_cell? _ _ h0
  have hlo := F.lh.1
  have hhi := F.lh.2
  clear F
  have d1 : ¬ (x1 : Int) < lo := by omega
  have d2 : ¬ (hi : Int) < x1 := by omega
  have d3 : ¬ (x2 : Int) < 128 := by omega
  have d4 : ¬ (191 : Int) < x2 := by omega
  have hx240 : ¬ (240 : Int) ≤ X := by omega
  go_enter Tryz.func243, Tryz.ntmps243
  go_wp2
  go_ret2
  exact ⟨rfl, (Below.refl _ _).alloc (Nat.le_refl _) _⟩
set_option maxHeartbeats 4000000 in
set_option maxRecDepth 10000 in
theorem uSlow4lo (b off cap x0 x1 x2 x3 X i lo hi : Nat) (w : World) (F : Fst w x0 X i lo hi) (hsz : (X : Int) % 8 = 4) (h0 : w.cell? ⟨b, off, none⟩ = some (.int .u8 x0)) (h1 : w.cell? ⟨b, off + 1, none⟩ = some (.int .u8 x1)) (h2 : w.cell? ⟨b, off + 2, none⟩ = some (.int .u8 x2)) (h3 : w.cell? ⟨b, off + 3, none⟩ = some (.int .u8 x3)) (hy : 128 ≤ x2 ∧ x2 ≤ 191) (hz : x3 < 128) (hx : lo ≤ x1 ∧ x1 ≤ hi) :
    Calls Tryz.prog 243 #[.slice (some ⟨b, off, none⟩) 4 cap] w fun e w' => e = .returned (.tuple #[.int .i32 65533, .int .i64 1]) ∧ Below w.heap.size w w' := by
  have i16 : (i : Int) < 16 := by have := F.i16; omega
  have i0 : (0 : Int) ≤ i := by omega
  have l0 := F.l0
  have hX := F.hX
  have hid := F.id
  have hc0 := F.c0
  have ha0 := F.a0
  have ha1 := F.a1
  have h1s : 1 < w.heap.size := World.block_lt_of_cell? _ _ ha0
  have hbs : b < w.heap.size := World.block_lt_of_cell? _ _ h0
  have hlo := F.lh.1
  have hhi := F.lh.2
  clear F
  have d1 : ¬ (x1 : Int) < lo := by omega
  have d2 : ¬ (hi : Int) < x1 := by omega
  have d3 : ¬ (x2 : Int) < 128 := by omega
  have d4 : ¬ (191 : Int) < x2 := by omega
  have d5 : (x3 : Int) < 128 := by omega
  have hx240 : ¬ (240 : Int) ≤ X := by omega
  go_enter Tryz.func243, Tryz.ntmps243
  go_wp2
  go_ret2
  exact ⟨rfl, (Below.refl _ _).alloc (Nat.le_refl _) _⟩
set_option maxHeartbeats 4000000 in
set_option maxRecDepth 10000 in
theorem uSlow4hi (b off cap x0 x1 x2 x3 X i lo hi : Nat) (w : World) (F : Fst w x0 X i lo hi) (hsz : (X : Int) % 8 = 4) (h0 : w.cell? ⟨b, off, none⟩ = some (.int .u8 x0)) (h1 : w.cell? ⟨b, off + 1, none⟩ = some (.int .u8 x1)) (h2 : w.cell? ⟨b, off + 2, none⟩ = some (.int .u8 x2)) (h3 : w.cell? ⟨b, off + 3, none⟩ = some (.int .u8 x3)) (hy : 128 ≤ x2 ∧ x2 ≤ 191) (hz : 191 < x3) (hx : lo ≤ x1 ∧ x1 ≤ hi) :
    Calls Tryz.prog 243 #[.slice (some ⟨b, off, none⟩) 4 cap] w fun e w' => e = .returned (.tuple #[.int .i32 65533, .int .i64 1]) ∧ Below w.heap.size w w' := by
  have i16 : (i : Int) < 16 := by have := F.i16; omega
  have i0 : (0 : Int) ≤ i := by omega
  have l0 := F.l0
  have hX := F.hX
  have hid := F.id
  have hc0 := F.c0
  have ha0 := F.a0
  have ha1 := F.a1
  have h1s : 1 < w.heap.size := World.block_lt_of_cell? _ _ ha0
  have hbs : b < w.heap.size := World.block_lt_of_cell? _ _ h0
  have hlo := F.lh.1
  have hhi := F.lh.2
  clear F
  have d1 : ¬ (x1 : Int) < lo := by omega
  have d2 : ¬ (hi : Int) < x1 := by omega
  have d3 : ¬ (x2 : Int) < 128 := by omega
  have d4 : ¬ (191 : Int) < x2 := by omega
  have d5 : ¬ (x3 : Int) < 128 := by omega
  have d6 : (191 : Int) < x3 := by omega
  have hx240 : ¬ (240 : Int) ≤ X := by omega
  go_enter Tryz.func243, Tryz.ntmps243
  go_wp2
  go_ret2
  exact ⟨rfl, (Below.refl _ _).alloc (Nat.le_refl _) _⟩
set_option maxHeartbeats 4000000 in
set_option maxRecDepth 10000 in
theorem uSlow4 (b off cap x0 x1 x2 x3 X i lo hi : Nat) (w : World) (F : Fst w x0 X i lo hi) (hsz : (X : Int) % 8 = 4) (h0 : w.cell? ⟨b, off, none⟩ = some (.int .u8 x0)) (h1 : w.cell? ⟨b, off + 1, none⟩ = some (.int .u8 x1)) (h2 : w.cell? ⟨b, off + 2, none⟩ = some (.int .u8 x2)) (h3 : w.cell? ⟨b, off + 3, none⟩ = some (.int .u8 x3)) (hy : 128 ≤ x2 ∧ x2 ≤ 191) (hz : 128 ≤ x3 ∧ x3 ≤ 191) (hx : lo ≤ x1 ∧ x1 ≤ hi) :
    Calls Tryz.prog 243 #[.slice (some ⟨b, off, none⟩) 4 cap] w fun e w' => e = .returned (.tuple #[.int .i32 ((x0 : Int) % 8 * 262144 + (x1 : Int) % 64 * 4096 + (x2 : Int) % 64 * 64 + (x3 : Int) % 64), .int .i64 4]) ∧ Below w.heap.size w w' := by
  have i16 : (i : Int) < 16 := by have := F.i16; omega
  have i0 : (0 : Int) ≤ i := by omega
  have l0 := F.l0
  have hX := F.hX
  have hid := F.id
  have hc0 := F.c0
  have ha0 := F.a0
  have ha1 := F.a1
  have h1s : 1 < w.heap.size := World.block_lt_of_cell? _ _ ha0
  have hbs : b < w.heap.size := World.block_lt_of_cell? _ _ h0
  have hlo := F.lh.1
  have hhi := F.lh.2
  clear F
  have d1 : ¬ (x1 : Int) < lo := by omega
  have d2 : ¬ (hi : Int) < x1 := by omega
  have d3 : ¬ (x2 : Int) < 128 := by omega
  have d4 : ¬ (191 : Int) < x2 := by omega
  have d5 : ¬ (x3 : Int) < 128 := by omega
  have d6 : ¬ (191 : Int) < x3 := by omega
  have hx240 : ¬ (240 : Int) ≤ X := by omega
  go_enter Tryz.func243, Tryz.ntmps243
  go_wp2
  go_ret2
  exact ⟨rfl, (Below.refl _ _).alloc (Nat.le_refl _) _⟩
end Go.Proofs.YtjlfibhbfdckpaaGreatDoor

/- letters.Begun: Empty, Add. -/
namespace Go.Proofs.YtjlfibhbfdckpaaGreatDoor
open Go.RowKit Go.Lib
attribute [local go_sem ↓] Go.wp_at_zero Go.wp_at_succ
theorem lEmpty (bs bg g N : Nat) (s : Rs) (t : Pt) (w : World) (h : PrAt w bs bg g N s t) :
    Calls Tryz.prog 128 #[.pointer (some ⟨bs, 12, none⟩)] w fun e w' => e = .returned (.bool (decide (t.bn = 0))) ∧ w' = w := by
  have c := h.f16
  clear h
  by_cases h0 : t.bn = 0
  · rw [h0] at c
    rw [show decide (t.bn = 0) = true by simp [h0]]
    go_enter Tryz.func128, Tryz.ntmps128
    go_wp2
    go_ret
    exact ⟨rfl, rfl⟩
  · have h1 : (t.bn == 0) = false := by simp [h0]
    rw [show decide (t.bn = 0) = false by simp [h0]]
    go_enter Tryz.func128, Tryz.ntmps128
    go_wp2
    go_ret
    exact ⟨rfl, rfl⟩
/-- One byte more has come. -/
def addT (t : Pt) (n : Nat) (c : Int) : Pt := { t with by4 := updI t.by4 n c, bn := (n : Int) + 1 }
set_option maxHeartbeats 2000000 in
set_option maxRecDepth 10000 in
theorem lAddOpen (bs bg g N : Nat) (s : Rs) (t : Pt) (n : Nat) (c : Int) (w : World) (h : PrAt w bs bg g N s t) (hn : t.bn = n) (hn4 : n < 4)
    (hF : ∀ w', PrAt w' bs bg g N s (addT t n c) → Keep (fun i => i = bs) w w' → Calls Tryz.prog 229 #[.slice (some ⟨bs, 12, none⟩) (n + 1) 4] w' fun e w'' => e = .returned (.bool false) ∧ Below w'.heap.size w' w'') :
    Calls Tryz.prog 212 #[.pointer (some ⟨bs, 12, none⟩), .int .u8 c] w (SPost bs bg g N w s (addT t n c) (.tuple #[.int .i32 0, .int .i64 1])) := by
  have HP : Hid (PrAt w bs bg g N s t) := h
  have HF : Hid (∀ w', PrAt w' bs bg g N s (addT t n c) → Keep (fun i => i = bs) w w' → Calls Tryz.prog 229 #[.slice (some ⟨bs, 12, none⟩) (n + 1) 4] w' fun e w'' => e = .returned (.bool false) ∧ Below w'.heap.size w' w'') := hF
  have f16 := h.f16
  rw [hn] at f16
  have fn := h.byte n hn4
  have fz := h.free
  have n0 : (0 : Int) ≤ n := by omega
  have n4 : (n : Int) < 4 := by omega
  have hoff : ¬ 16 = 12 + n := by omega
  have h4 : ¬ 4 = n := by omega
  have h4' : ¬ n = 4 := by omega
  clear h hF
  go_enter Tryz.func212, Tryz.ntmps212
  go_wp2_with fail
  have fs : (w.cell? ⟨bs, 12 + n, none⟩).isSome = true := by rw [fn]; rfl
  go_region_held3 (fun w' => w'.cell? ⟨bs, 16, none⟩ = some (.int .i64 (n : Int)) ∧ (w'.cell? ⟨bs, 12 + n, none⟩).isSome = true ∧ (∀ o, w'.frozen? ⟨bs, o, none⟩ = false)) (simp [*, isSome_set, set_far]) (fail)
  have HP1 : Hid (PrAt (w.setCell ⟨bs, 12 + n, none⟩ (.int .u8 c)).drew bs bg g N s { t with by4 := updI t.by4 n c }) := (HP.out.setByte n hn4 c).drew
  have K1 : Keep (fun i => i = bs) w (w.setCell ⟨bs, 12 + n, none⟩ (.int .u8 c)).drew := (Keep.setCell (F := fun i => i = bs) (Keep.refl _ w) ⟨bs, 12 + n, none⟩ _ (fun _ => rfl)).drew
  generalize (w.setCell ⟨bs, 12 + n, none⟩ (.int .u8 c)).drew = wa at *
  clear HP f16 fn fz fs
  have f16 : wa.cell? ⟨bs, 16, none⟩ = some (.int .i64 (n : Int)) := by rw [← hn]; exact HP1.out.f16
  have fz := HP1.out.free
  go_wp2_with fail
  have HP2 : Hid (PrAt (wa.setCell ⟨bs, 16, none⟩ (.int .i64 ((n : Int) + 1))) bs bg g N s (addT t n c)) := HP1.out.setBn _
  have K2 : Keep (fun i => i = bs) w (wa.setCell ⟨bs, 16, none⟩ (.int .i64 ((n : Int) + 1))) := K1.setCell ⟨bs, 16, none⟩ _ (fun _ => rfl)
  generalize wa.setCell ⟨bs, 16, none⟩ (.int .i64 ((n : Int) + 1)) = wb at *
  clear HP1 K1 f16 fz
  obtain ⟨m, hm⟩ : ∃ m : Nat, n + 1 = m := ⟨_, rfl⟩
  have f16 : wb.cell? ⟨bs, 16, none⟩ = some (.int .i64 (m : Int)) := by rw [← hm]; exact HP2.out.f16
  have m1 : (m : Int) ≤ 4 := by omega
  have m0 : (0 : Int) ≤ (m : Int) := by omega
  rw [hm] at HF
  clear hm
  go_quiet (fail)
  have HP3 : Hid (PrAt (wb.drewN nq) bs bg g N s (addT t n c)) := HP2.out.drewN nq
  have K3 : Keep (fun i => i = bs) w (wb.drewN nq) := K2.drewN nq
  generalize wb.drewN nq = wc at *
  clear HP2 K2 f16
  go_wp2_with fail
  go_at_call 229
  refine (HF.out _ HP3.out K3).mono ?_
  rintro e wd ⟨rfl, B4⟩
  have HP4 : Hid (PrAt wd bs bg g N s (addT t n c)) := HP3.out.below B4
  have K4 : Keep (fun i => i = bs) w wd := K3.thenBelow B4
  go_wp2_with fail
  refine bodyPost_ret (v := .tuple #[.int .i32 0, .int .i64 1]) (by simp [results, Tryz.results212, go_sem]) rfl ⟨rfl, HP4.out, K4.mono (fun _ h => Or.inl h)⟩
set_option maxHeartbeats 2000000 in
set_option maxRecDepth 10000 in
theorem lAddRef (bs bg g N : Nat) (s : Rs) (t : Pt) (n : Nat) (c : Int) (w : World) (h : PrAt w bs bg g N s t) (hn : t.bn = n) (hn4 : n < 4)
    (hF : ∀ w', PrAt w' bs bg g N s (addT t n c) → Keep (fun i => i = bs) w w' → Calls Tryz.prog 229 #[.slice (some ⟨bs, 12, none⟩) (n + 1) 4] w' fun e w'' => e = .returned (.bool true) ∧ Below w'.heap.size w' w'')
    (hD : ∀ w', PrAt w' bs bg g N s (addT t n c) → Keep (fun i => i = bs) w w' → Calls Tryz.prog 230 #[.slice (some ⟨bs, 12, none⟩) (n + 1) 4] w' fun e w'' => e = .returned (.tuple #[.int .i32 65533, .int .i64 1]) ∧ Below w'.heap.size w' w'') :
    Calls Tryz.prog 212 #[.pointer (some ⟨bs, 12, none⟩), .int .u8 c] w (SPost bs bg g N w s { addT t n c with bn := 0 } (.tuple #[.int .i32 0, .int .i64 0])) := by
  have HP : Hid (PrAt w bs bg g N s t) := h
  have HF : Hid (∀ w', PrAt w' bs bg g N s (addT t n c) → Keep (fun i => i = bs) w w' → Calls Tryz.prog 229 #[.slice (some ⟨bs, 12, none⟩) (n + 1) 4] w' fun e w'' => e = .returned (.bool true) ∧ Below w'.heap.size w' w'') := hF
  have HDr : Hid (∀ w', PrAt w' bs bg g N s (addT t n c) → Keep (fun i => i = bs) w w' → Calls Tryz.prog 230 #[.slice (some ⟨bs, 12, none⟩) (n + 1) 4] w' fun e w'' => e = .returned (.tuple #[.int .i32 65533, .int .i64 1]) ∧ Below w'.heap.size w' w'') := hD
  have f16 := h.f16
  rw [hn] at f16
  have fn := h.byte n hn4
  have fz := h.free
  have n0 : (0 : Int) ≤ n := by omega
  have n4 : (n : Int) < 4 := by omega
  have hoff : ¬ 16 = 12 + n := by omega
  have h4 : ¬ 4 = n := by omega
  have h4' : ¬ n = 4 := by omega
  clear h hF hD
  go_enter Tryz.func212, Tryz.ntmps212
  go_wp2_with fail
  have fs : (w.cell? ⟨bs, 12 + n, none⟩).isSome = true := by rw [fn]; rfl
  go_region_held3 (fun w' => w'.cell? ⟨bs, 16, none⟩ = some (.int .i64 (n : Int)) ∧ (w'.cell? ⟨bs, 12 + n, none⟩).isSome = true ∧ (∀ o, w'.frozen? ⟨bs, o, none⟩ = false)) (simp [*, isSome_set, set_far]) (fail)
  have HP1 : Hid (PrAt (w.setCell ⟨bs, 12 + n, none⟩ (.int .u8 c)).drew bs bg g N s { t with by4 := updI t.by4 n c }) := (HP.out.setByte n hn4 c).drew
  have K1 : Keep (fun i => i = bs) w (w.setCell ⟨bs, 12 + n, none⟩ (.int .u8 c)).drew := (Keep.setCell (F := fun i => i = bs) (Keep.refl _ w) ⟨bs, 12 + n, none⟩ _ (fun _ => rfl)).drew
  generalize (w.setCell ⟨bs, 12 + n, none⟩ (.int .u8 c)).drew = wa at *
  clear HP f16 fn fz fs
  have f16 : wa.cell? ⟨bs, 16, none⟩ = some (.int .i64 (n : Int)) := by rw [← hn]; exact HP1.out.f16
  have fz := HP1.out.free
  go_wp2_with fail
  have HP2 : Hid (PrAt (wa.setCell ⟨bs, 16, none⟩ (.int .i64 ((n : Int) + 1))) bs bg g N s (addT t n c)) := HP1.out.setBn _
  have K2 : Keep (fun i => i = bs) w (wa.setCell ⟨bs, 16, none⟩ (.int .i64 ((n : Int) + 1))) := K1.setCell ⟨bs, 16, none⟩ _ (fun _ => rfl)
  generalize wa.setCell ⟨bs, 16, none⟩ (.int .i64 ((n : Int) + 1)) = wb at *
  clear HP1 K1 f16 fz
  obtain ⟨m, hm⟩ : ∃ m : Nat, n + 1 = m := ⟨_, rfl⟩
  have f16 : wb.cell? ⟨bs, 16, none⟩ = some (.int .i64 (m : Int)) := by rw [← hm]; exact HP2.out.f16
  have m1 : (m : Int) ≤ 4 := by omega
  have m0 : (0 : Int) ≤ (m : Int) := by omega
  rw [hm] at HF HDr
  clear hm
  go_quiet (fail)
  have HP3 : Hid (PrAt (wb.drewN nq) bs bg g N s (addT t n c)) := HP2.out.drewN nq
  have K3 : Keep (fun i => i = bs) w (wb.drewN nq) := K2.drewN nq
  generalize wb.drewN nq = wc at *
  clear HP2 K2 f16
  go_wp2_with fail
  go_at_call 229
  refine (HF.out _ HP3.out K3).mono ?_
  rintro e wd ⟨rfl, B4⟩
  have HP4 : Hid (PrAt wd bs bg g N s (addT t n c)) := HP3.out.below B4
  have K4 : Keep (fun i => i = bs) w wd := K3.thenBelow B4
  go_wp2_with fail
  go_at_call 230
  refine (HDr.out _ HP4.out K4).mono ?_
  rintro e we ⟨rfl, B5⟩
  have HP5 : Hid (PrAt we bs bg g N s (addT t n c)) := HP4.out.below B5
  have K5 : Keep (fun i => i = bs) w we := K4.thenBelow B5
  have f16 := HP5.out.f16
  have fz := HP5.out.free
  clear HP4 HP3 K3 K4 B4 B5
  go_wp2_with fail
  refine bodyPost_ret (v := .tuple #[.int .i32 0, .int .i64 0]) (by simp [results, Tryz.results212, go_sem]) rfl ⟨rfl, HP5.out.setBn 0, (K5.setCell ⟨bs, 16, none⟩ _ (fun _ => rfl)).mono (fun _ h => Or.inl h)⟩
set_option maxHeartbeats 2000000 in
set_option maxRecDepth 10000 in
theorem lAddDone (bs bg g N : Nat) (s : Rs) (t : Pt) (n : Nat) (c R K : Int) (w : World) (h : PrAt w bs bg g N s t) (hn : t.bn = n) (hn4 : n < 4)
    (hF : ∀ w', PrAt w' bs bg g N s (addT t n c) → Keep (fun i => i = bs) w w' → Calls Tryz.prog 229 #[.slice (some ⟨bs, 12, none⟩) (n + 1) 4] w' fun e w'' => e = .returned (.bool true) ∧ Below w'.heap.size w' w'')
    (hD : ∀ w', PrAt w' bs bg g N s (addT t n c) → Keep (fun i => i = bs) w w' → Calls Tryz.prog 230 #[.slice (some ⟨bs, 12, none⟩) (n + 1) 4] w' fun e w'' => e = .returned (.tuple #[.int .i32 R, .int .i64 K]) ∧ Below w'.heap.size w' w'') (hK : 1 < K) :
    Calls Tryz.prog 212 #[.pointer (some ⟨bs, 12, none⟩), .int .u8 c] w (SPost bs bg g N w s { addT t n c with bn := 0 } (.tuple #[.int .i32 R, .int .i64 2])) := by
  have HP : Hid (PrAt w bs bg g N s t) := h
  have HF : Hid (∀ w', PrAt w' bs bg g N s (addT t n c) → Keep (fun i => i = bs) w w' → Calls Tryz.prog 229 #[.slice (some ⟨bs, 12, none⟩) (n + 1) 4] w' fun e w'' => e = .returned (.bool true) ∧ Below w'.heap.size w' w'') := hF
  have HDr : Hid (∀ w', PrAt w' bs bg g N s (addT t n c) → Keep (fun i => i = bs) w w' → Calls Tryz.prog 230 #[.slice (some ⟨bs, 12, none⟩) (n + 1) 4] w' fun e w'' => e = .returned (.tuple #[.int .i32 R, .int .i64 K]) ∧ Below w'.heap.size w' w'') := hD
  have f16 := h.f16
  rw [hn] at f16
  have fn := h.byte n hn4
  have fz := h.free
  have n0 : (0 : Int) ≤ n := by omega
  have n4 : (n : Int) < 4 := by omega
  have hoff : ¬ 16 = 12 + n := by omega
  have h4 : ¬ 4 = n := by omega
  have h4' : ¬ n = 4 := by omega
  clear h hF hD
  go_enter Tryz.func212, Tryz.ntmps212
  go_wp2_with fail
  have fs : (w.cell? ⟨bs, 12 + n, none⟩).isSome = true := by rw [fn]; rfl
  go_region_held3 (fun w' => w'.cell? ⟨bs, 16, none⟩ = some (.int .i64 (n : Int)) ∧ (w'.cell? ⟨bs, 12 + n, none⟩).isSome = true ∧ (∀ o, w'.frozen? ⟨bs, o, none⟩ = false)) (simp [*, isSome_set, set_far]) (fail)
  have HP1 : Hid (PrAt (w.setCell ⟨bs, 12 + n, none⟩ (.int .u8 c)).drew bs bg g N s { t with by4 := updI t.by4 n c }) := (HP.out.setByte n hn4 c).drew
  have K1 : Keep (fun i => i = bs) w (w.setCell ⟨bs, 12 + n, none⟩ (.int .u8 c)).drew := (Keep.setCell (F := fun i => i = bs) (Keep.refl _ w) ⟨bs, 12 + n, none⟩ _ (fun _ => rfl)).drew
  generalize (w.setCell ⟨bs, 12 + n, none⟩ (.int .u8 c)).drew = wa at *
  clear HP f16 fn fz fs
  have f16 : wa.cell? ⟨bs, 16, none⟩ = some (.int .i64 (n : Int)) := by rw [← hn]; exact HP1.out.f16
  have fz := HP1.out.free
  go_wp2_with fail
  have HP2 : Hid (PrAt (wa.setCell ⟨bs, 16, none⟩ (.int .i64 ((n : Int) + 1))) bs bg g N s (addT t n c)) := HP1.out.setBn _
  have K2 : Keep (fun i => i = bs) w (wa.setCell ⟨bs, 16, none⟩ (.int .i64 ((n : Int) + 1))) := K1.setCell ⟨bs, 16, none⟩ _ (fun _ => rfl)
  generalize wa.setCell ⟨bs, 16, none⟩ (.int .i64 ((n : Int) + 1)) = wb at *
  clear HP1 K1 f16 fz
  obtain ⟨m, hm⟩ : ∃ m : Nat, n + 1 = m := ⟨_, rfl⟩
  have f16 : wb.cell? ⟨bs, 16, none⟩ = some (.int .i64 (m : Int)) := by rw [← hm]; exact HP2.out.f16
  have m1 : (m : Int) ≤ 4 := by omega
  have m0 : (0 : Int) ≤ (m : Int) := by omega
  rw [hm] at HF HDr
  clear hm
  go_quiet (fail)
  have HP3 : Hid (PrAt (wb.drewN nq) bs bg g N s (addT t n c)) := HP2.out.drewN nq
  have K3 : Keep (fun i => i = bs) w (wb.drewN nq) := K2.drewN nq
  generalize wb.drewN nq = wc at *
  clear HP2 K2 f16
  go_wp2_with fail
  go_at_call 229
  refine (HF.out _ HP3.out K3).mono ?_
  rintro e wd ⟨rfl, B4⟩
  have HP4 : Hid (PrAt wd bs bg g N s (addT t n c)) := HP3.out.below B4
  have K4 : Keep (fun i => i = bs) w wd := K3.thenBelow B4
  have hK' : ¬ K ≤ 1 := by omega
  go_wp2_with fail
  go_at_call 230
  refine (HDr.out _ HP4.out K4).mono ?_
  rintro e we ⟨rfl, B5⟩
  have HP5 : Hid (PrAt we bs bg g N s (addT t n c)) := HP4.out.below B5
  have K5 : Keep (fun i => i = bs) w we := K4.thenBelow B5
  have f16 := HP5.out.f16
  have fz := HP5.out.free
  clear HP4 HP3 K3 K4 B4 B5
  by_cases hR : R = 65533
  · subst hR
    go_wp2_with fail
    refine bodyPost_ret (v := .tuple #[.int .i32 65533, .int .i64 2]) (by simp [results, Tryz.results212, go_sem]) rfl ⟨rfl, HP5.out.setBn 0, (K5.setCell ⟨bs, 16, none⟩ _ (fun _ => rfl)).mono (fun _ h => Or.inl h)⟩
  · have hR' : (R == 65533) = false := by simp [hR]
    go_wp2_with fail
    refine bodyPost_ret (v := .tuple #[.int .i32 R, .int .i64 2]) (by simp [results, Tryz.results212, go_sem]) rfl ⟨rfl, HP5.out.setBn 0, (K5.setCell ⟨bs, 16, none⟩ _ (fun _ => rfl)).mono (fun _ h => Or.inl h)⟩
end Go.Proofs.YtjlfibhbfdckpaaGreatDoor

/- What Add does with a byte behind those that have come. -/
namespace Go.Proofs.YtjlfibhbfdckpaaGreatDoor
open Go.RowKit Go.Lib
/-- The two tables of utf8 lie where they were laid. -/
def Tabs (w : World) : Prop := Utf8Tabs 0 1 w
theorem Tabs.keep {F : Nat → Prop} {w w' : World} (h : Tabs w) (k : Keep F w w') (h0 : ¬ F 0) (h1 : ¬ F 1) : Tabs w' := by
  have b0 : w'.heap[0]? = w.heap[0]? := k.block 0 (World.block_lt_of_cell? _ _ (h.1 0 (by omega))) h0
  have b1 : w'.heap[1]? = w.heap[1]? := k.block 1 (World.block_lt_of_cell? _ _ (h.2 0 (by omega)).1) h1
  refine ⟨fun c hc => ?_, fun i hi => ⟨?_, ?_⟩⟩
  · rw [cell_same b0]; exact h.1 c hc
  · rw [cell_same b1]; exact (h.2 i hi).1
  · rw [cell_same b1]; exact (h.2 i hi).2
theorem Tabs.below {w w' : World} (h : Tabs w) (k : Below w.heap.size w w') : Tabs w' := h.keep (Keep.below (fun _ => False) k) (fun h => h) (fun h => h)
theorem Tabs.fst {w : World} (h : Tabs w) {x : Nat} (l : x < 256) (hX : firstT x < 240) : Fst w x (firstT x) (firstT x / 16) (accLo (firstT x / 16)) (accHi (firstT x / 16)) := by
  have hi : firstT x / 16 < 16 := by omega
  refine ⟨l, hX, by omega, hi, h.1 x l, ?_, ?_, ?_⟩
  · rw [Nat.mul_comm]; exact (h.2 _ hi).1
  · rw [Nat.mul_comm]; exact (h.2 _ hi).2
  · unfold accLo accHi
    constructor
    · (repeat' split) <;> omega
    · (repeat' split) <;> omega
set_option maxRecDepth 100000 in
theorem first_cls : ∀ a : Fin 256, 194 ≤ a.val → a.val ≤ 244 → firstT a.val < 240 ∧ ((firstT a.val : Nat) : Int) % 8 = longR a.val ∧ ((accLo (firstT a.val / 16) : Nat) : Int) = lowR a.val ∧ ((accHi (firstT a.val / 16) : Nat) : Int) = highR a.val := by decide
theorem first_bad {a : Nat} (h : 128 ≤ a) (h2 : a < 194 ∨ 244 < a) : firstT a = 241 := by
  unfold firstT
  (repeat' split) <;> omega
/-- What the walks of utf8 need of a first byte. -/
theorem Tabs.cls {w : World} (h : Tabs w) (a : UInt8) (h1 : 194 ≤ a.toNat) (h2 : a.toNat ≤ 244) : ∃ X i lo hi sz : Nat, Fst w a.toNat X i lo hi ∧ (X : Int) % 8 = sz ∧ (sz : Int) = longR a.toNat ∧ (lo : Int) = lowR a.toNat ∧ (hi : Int) = highR a.toNat := by
  obtain ⟨q1, q2, q3, q4⟩ := first_cls ⟨a.toNat, a.toNat_lt⟩ h1 h2
  have e : longR a.toNat = ((longR a.toNat).toNat : Int) := by
    rcases longR_val a.toNat with q | q | q | q <;> omega
  exact ⟨_, _, _, _, (longR a.toNat).toNat, h.fst a.toNat_lt q1, by rw [← e]; exact q2, e.symm, q3, q4⟩
section
variable {w : World} {bs bg g N : Nat} {s : Rs} {t : Pt}
/-- The first byte of a letter. -/
theorem lAdd1 (c : UInt8) (h : PrAt w bs bg g N s t) (T : Tabs w) (n0 : ¬ bs = 0) (n1 : ¬ bs = 1) (hn : t.bn = 0) (c1 : 194 ≤ c.toNat) (c2 : c.toNat ≤ 244) :
    Calls Tryz.prog 212 #[.pointer (some ⟨bs, 12, none⟩), .int .u8 c.toNat] w (SPost bs bg g N w s (addT t 0 c.toNat) (.tuple #[.int .i32 0, .int .i64 1])) := by
  refine lAddOpen bs bg g N s t 0 c.toNat w h (by simpa using hn) (by omega) (fun w' P K => ?_)
  obtain ⟨X, i, lo, hi, sz, F, e1, e2, _, _⟩ := (T.keep K (fun e => n0 e.symm) (fun e => n1 e.symm)).cls c c1 c2
  have q := longR_val c.toNat
  exact uFull1 bs 12 4 c.toNat X i lo hi sz w' F e1 (by omega) (P.byte 0 (by omega))
theorem lAdd1bad (c : UInt8) (h : PrAt w bs bg g N s t) (T : Tabs w) (n0 : ¬ bs = 0) (n1 : ¬ bs = 1) (hn : t.bn = 0) (c0 : 128 ≤ c.toNat) (c1 : c.toNat < 194 ∨ 244 < c.toNat) :
    Calls Tryz.prog 212 #[.pointer (some ⟨bs, 12, none⟩), .int .u8 c.toNat] w (SPost bs bg g N w s { addT t 0 c.toNat with bn := 0 } (.tuple #[.int .i32 0, .int .i64 0])) := by
  refine lAddRef bs bg g N s t 0 c.toNat w h (by simpa using hn) (by omega) (fun w' P K => ?_) (fun w' P K => ?_)
  · have hc := (T.keep K (fun e => n0 e.symm) (fun e => n1 e.symm)).1 c.toNat c.toNat_lt
    rw [first_bad c0 c1] at hc
    exact uFullBad bs 12 4 c.toNat w' c.toNat_lt hc (P.byte 0 (by omega))
  · have hc := (T.keep K (fun e => n0 e.symm) (fun e => n1 e.symm)).1 c.toNat c.toNat_lt
    rw [first_bad c0 c1] at hc
    exact uDecodeOn bs 12 1 4 c.toNat w' _ _ _ (by omega) (P.byte 0 (by omega)) c0 (uSlowBad bs 12 4 c.toNat w' c.toNat_lt hc (P.byte 0 (by omega)))
end
end Go.Proofs.YtjlfibhbfdckpaaGreatDoor
