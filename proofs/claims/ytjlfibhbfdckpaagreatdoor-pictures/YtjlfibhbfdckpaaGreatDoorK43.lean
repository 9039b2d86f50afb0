/- Texts of the proof, one behind the other: PcC. -/
import Derived.Test.YtjlfibhbfdckpaaGreatDoorK42
/- The statement of pictures: moves. -/
namespace Go.Proofs.YtjlfibhbfdckpaaGreatDoor
open Go.RowKit
attribute [local go_sem ↓] Go.wp_at_zero Go.wp_at_succ
/-- A step of the script. -/
structure Ca where
  kd : Int
  on : Int
  a : Int
  b : Int
  c : Int
  d : Int
  e : Int
  s : ByteArray
  p : Pn
abbrev Ca.arr (o : Ca) : Array Value := #[.int .i64 o.kd, .int .i64 o.on, .int .i64 o.a, .int .i64 o.b, .int .i64 o.c, .int .i64 o.d, .int .i64 o.e, .string o.s, .int .i64 o.p.f, .int .i64 o.p.b, .bool o.p.bo, .bool o.p.un, .bool o.p.re]
abbrev Ca.agg (o : Ca) : Value := .agg o.arr
abbrev dkArr (x y s : Option Addr) : Array Value := #[.pointer x, .pointer y, .pointer s]
/-- A call and a desk that lie in blocks. -/
def CaAt (w : World) (b : Nat) (o : Ca) : Prop := w.heap[b]? = some (.cells o.arr 35)
def DeAt (w : World) (b : Nat) (x y s : Option Addr) : Prop := w.heap[b]? = some (.cells (dkArr x y s) 28)
section
variable {w w' : World} {b : Nat} {o : Ca} {x y s : Option Addr}
theorem CaAt.lt (h : CaAt w b o) : b < w.heap.size := (Array.getElem?_eq_some_iff.1 h).1
theorem DeAt.lt (h : DeAt w b x y s) : b < w.heap.size := (Array.getElem?_eq_some_iff.1 h).1
theorem CaAt.keep {F : Nat → Prop} (h : CaAt w b o) (k : Keep F w w') (hF : ¬ F b) : CaAt w' b o := by unfold CaAt at *; rw [k.block _ (Array.getElem?_eq_some_iff.1 h).1 hF]; exact h
theorem DeAt.keep {F : Nat → Prop} (h : DeAt w b x y s) (k : Keep F w w') (hF : ¬ F b) : DeAt w' b x y s := by unfold DeAt at *; rw [k.block _ (Array.getElem?_eq_some_iff.1 h).1 hF]; exact h
theorem CaAt.below (h : CaAt w b o) (k : Below w.heap.size w w') : CaAt w' b o := h.keep (Keep.below (fun _ => False) k) id
theorem DeAt.below (h : DeAt w b x y s) (k : Below w.heap.size w w') : DeAt w' b x y s := h.keep (Keep.below (fun _ => False) k) id
theorem CaAt.cells (h : CaAt w b o) : w.cell? ⟨b, 0, none⟩ = some (.int .i64 o.kd) ∧ w.cell? ⟨b, 1, none⟩ = some (.int .i64 o.on) ∧ w.cell? ⟨b, 2, none⟩ = some (.int .i64 o.a) ∧ w.cell? ⟨b, 3, none⟩ = some (.int .i64 o.b) ∧ w.cell? ⟨b, 4, none⟩ = some (.int .i64 o.c) ∧ w.cell? ⟨b, 5, none⟩ = some (.int .i64 o.d) ∧ w.cell? ⟨b, 6, none⟩ = some (.int .i64 o.e) ∧ w.cell? ⟨b, 7, none⟩ = some (.string o.s) ∧ w.cell? ⟨b, 8, none⟩ = some (.int .i64 o.p.f) ∧ w.cell? ⟨b, 9, none⟩ = some (.int .i64 o.p.b) ∧ w.cell? ⟨b, 10, none⟩ = some (.bool o.p.bo) ∧ w.cell? ⟨b, 11, none⟩ = some (.bool o.p.un) ∧ w.cell? ⟨b, 12, none⟩ = some (.bool o.p.re) :=
  ⟨cell_of_block h 0, cell_of_block h 1, cell_of_block h 2, cell_of_block h 3, cell_of_block h 4, cell_of_block h 5, cell_of_block h 6, cell_of_block h 7, cell_of_block h 8, cell_of_block h 9, cell_of_block h 10, cell_of_block h 11, cell_of_block h 12⟩
theorem DeAt.cells (h : DeAt w b x y s) : w.cell? ⟨b, 0, none⟩ = some (.pointer x) ∧ w.cell? ⟨b, 1, none⟩ = some (.pointer y) ∧ w.cell? ⟨b, 2, none⟩ = some (.pointer s) := ⟨cell_of_block h 0, cell_of_block h 1, cell_of_block h 2⟩
end
theorem DvPost.after {w wA w' : World} {D D' : Dv} (h : DvPost wA D D' w') (b : Below w.heap.size w wA) : DvPost w D D' w' :=
  ⟨h.dv, h.xp, h.yp, h.sp, (Keep.below _ b).trans h.keep (fun _ _ q => q), fun i hi => (h.own i hi).imp id (fun e => by have := b.size; omega)⟩
set_option maxRecDepth 10000 in
set_option maxHeartbeats 2000000 in
theorem lmoves1 {w : World} {x y s : Option Addr} (on A B C E F : Int) (tx : ByteArray) (p : Pn) {r1 r2 : Int} {O : Nat → Prop} {Q : World → World → Prop} (hO : ∀ i, O i → i < w.heap.size) (hB : ∀ wA, Below w.heap.size w wA → Both 48 96 (fun q => #[.pointer q, .int .i64 A, .int .i64 B, .int .i64 C, .int .i64 E, .int .i64 F]) x y wA (.tuple #[.int .i64 r1, .int .i64 r2]) O (Q wA)) :
    Calls Tryz.prog 40 #[.agg (dkArr x y s), Ca.agg ⟨1, on, A, B, C, E, F, tx, p⟩] w fun e w' => e = .returned (.bool true) ∧ ∃ wA, Below w.heap.size w wA ∧ Q wA w' := by
  have HB : Hid (∀ wA, Below w.heap.size w wA → Both 48 96 (fun q => #[.pointer q, .int .i64 A, .int .i64 B, .int .i64 C, .int .i64 E, .int .i64 F]) x y wA (.tuple #[.int .i64 r1, .int .i64 r2]) O (Q wA)) := hB
  have HO : Hid (∀ i, O i → i < w.heap.size) := hO
  skip
  clear hB hO
  have ba : Below w.heap.size w ((w.alloc (.cells (dkArr x y s) 28)).alloc (.cells (Ca.arr ⟨1, on, A, B, C, E, F, tx, p⟩) 35)) := ((Below.refl _ _).alloc (Nat.le_refl _) _).alloc (by simp) _
  have Hd : Hid (DeAt ((w.alloc (.cells (dkArr x y s) 28)).alloc (.cells (Ca.arr ⟨1, on, A, B, C, E, F, tx, p⟩) 35)) w.heap.size x y s) := by
    show _ = _
    rw [Below.heap_alloc _ _ _ (by simp)]; exact heap_new w _
  have Hc : Hid (CaAt ((w.alloc (.cells (dkArr x y s) 28)).alloc (.cells (Ca.arr ⟨1, on, A, B, C, E, F, tx, p⟩) 35)) (w.heap.size + 1) ⟨1, on, A, B, C, E, F, tx, p⟩) := by
    have := heap_new (w.alloc (.cells (dkArr x y s) 28)) (.cells (Ca.arr ⟨1, on, A, B, C, E, F, tx, p⟩) 35)
    rw [size_alloc] at this
    exact this
  have Hba : Hid (Below w.heap.size w ((w.alloc (.cells (dkArr x y s) 28)).alloc (.cells (Ca.arr ⟨1, on, A, B, C, E, F, tx, p⟩) 35))) := ba
  clear ba
  go_enter Tryz.func40, Tryz.ntmps40
  go_wp2_with fail
  generalize hwA : World.alloc (w.alloc _) _ = wA at *
  go_at_call 48
  refine (HB.out wA Hba.out).mono ?_
  rintro e w1 ⟨rfl, k1, hy⟩
  have Hy : Hid (Calls Tryz.prog 96 #[.pointer y, .int .i64 A, .int .i64 B, .int .i64 C, .int .i64 E, .int .i64 F] w1 fun e w2 => e = .returned (.tuple #[.int .i64 r1, .int .i64 r2]) ∧ Keep O wA w2 ∧ Q wA w2) := hy
  replace Hd : Hid (DeAt w1 w.heap.size x y s) := Hd.out.keep k1 (fun q => by have := HO.out _ q; omega)
  replace Hc : Hid (CaAt w1 (w.heap.size + 1) ⟨1, on, A, B, C, E, F, tx, p⟩) := Hc.out.keep k1 (fun q => by have := HO.out _ q; omega)
  obtain ⟨d0, d1, d2⟩ := Hd.out.cells
  obtain ⟨c0, c1, c2, c3, c4, c5, c6, c7, c8, c9, c10, c11, c12⟩ := Hc.out.cells
  clear hy k1
  go_wp2_with fail
  go_at_call 96
  refine Hy.out.mono ?_
  rintro e w2 ⟨rfl, k2, hq⟩
  have Hq : Hid (Q wA w2) := hq
  skip
  clear d0 d1 d2 c0 c1 c2 c3 c4 c5 c6 c7 c8 c9 c10 c11 c12 hq k2
  go_wp2_with fail
  go_ret
  exact ⟨rfl, wA, Hba.out, Hq.out⟩
set_option maxRecDepth 10000 in
set_option maxHeartbeats 2000000 in
theorem lmoves2 {w : World} {x y s : Option Addr} (on A B C E F : Int) (tx : ByteArray) (p : Pn) {r : Int} {O : Nat → Prop} {Q : World → World → Prop} (hO : ∀ i, O i → i < w.heap.size) (hB : ∀ wA, Below w.heap.size w wA → Both 49 97 (fun q => #[.pointer q, .int .i64 A]) x y wA (.int .i64 r) O (Q wA)) :
    Calls Tryz.prog 40 #[.agg (dkArr x y s), Ca.agg ⟨2, on, A, B, C, E, F, tx, p⟩] w fun e w' => e = .returned (.bool true) ∧ ∃ wA, Below w.heap.size w wA ∧ Q wA w' := by
  have HB : Hid (∀ wA, Below w.heap.size w wA → Both 49 97 (fun q => #[.pointer q, .int .i64 A]) x y wA (.int .i64 r) O (Q wA)) := hB
  have HO : Hid (∀ i, O i → i < w.heap.size) := hO
  skip
  clear hB hO
  have ba : Below w.heap.size w ((w.alloc (.cells (dkArr x y s) 28)).alloc (.cells (Ca.arr ⟨2, on, A, B, C, E, F, tx, p⟩) 35)) := ((Below.refl _ _).alloc (Nat.le_refl _) _).alloc (by simp) _
  have Hd : Hid (DeAt ((w.alloc (.cells (dkArr x y s) 28)).alloc (.cells (Ca.arr ⟨2, on, A, B, C, E, F, tx, p⟩) 35)) w.heap.size x y s) := by
    show _ = _
    rw [Below.heap_alloc _ _ _ (by simp)]; exact heap_new w _
  have Hc : Hid (CaAt ((w.alloc (.cells (dkArr x y s) 28)).alloc (.cells (Ca.arr ⟨2, on, A, B, C, E, F, tx, p⟩) 35)) (w.heap.size + 1) ⟨2, on, A, B, C, E, F, tx, p⟩) := by
    have := heap_new (w.alloc (.cells (dkArr x y s) 28)) (.cells (Ca.arr ⟨2, on, A, B, C, E, F, tx, p⟩) 35)
    rw [size_alloc] at this
    exact this
  have Hba : Hid (Below w.heap.size w ((w.alloc (.cells (dkArr x y s) 28)).alloc (.cells (Ca.arr ⟨2, on, A, B, C, E, F, tx, p⟩) 35))) := ba
  clear ba
  go_enter Tryz.func40, Tryz.ntmps40
  go_wp2_with fail
  generalize hwA : World.alloc (w.alloc _) _ = wA at *
  go_at_call 49
  refine (HB.out wA Hba.out).mono ?_
  rintro e w1 ⟨rfl, k1, hy⟩
  have Hy : Hid (Calls Tryz.prog 97 #[.pointer y, .int .i64 A] w1 fun e w2 => e = .returned (.int .i64 r) ∧ Keep O wA w2 ∧ Q wA w2) := hy
  replace Hd : Hid (DeAt w1 w.heap.size x y s) := Hd.out.keep k1 (fun q => by have := HO.out _ q; omega)
  replace Hc : Hid (CaAt w1 (w.heap.size + 1) ⟨2, on, A, B, C, E, F, tx, p⟩) := Hc.out.keep k1 (fun q => by have := HO.out _ q; omega)
  obtain ⟨d0, d1, d2⟩ := Hd.out.cells
  obtain ⟨c0, c1, c2, c3, c4, c5, c6, c7, c8, c9, c10, c11, c12⟩ := Hc.out.cells
  clear hy k1
  go_wp2_with fail
  go_at_call 97
  refine Hy.out.mono ?_
  rintro e w2 ⟨rfl, k2, hq⟩
  have Hq : Hid (Q wA w2) := hq
  skip
  clear d0 d1 d2 c0 c1 c2 c3 c4 c5 c6 c7 c8 c9 c10 c11 c12 hq k2
  go_wp2_with fail
  go_ret
  exact ⟨rfl, wA, Hba.out, Hq.out⟩
set_option maxRecDepth 10000 in
set_option maxHeartbeats 2000000 in
theorem lmoves3 {w : World} {x y s : Option Addr} (on A B C E F : Int) (tx : ByteArray) (p : Pn) {r : Int} {O : Nat → Prop} {Q : World → World → Prop} (hO : ∀ i, O i → i < w.heap.size) (hB : ∀ wA, Below w.heap.size w wA → Both 50 98 (fun q => #[.pointer q, .int .i64 A, .int .i64 B, .int .i64 C]) x y wA (.int .i64 r) O (Q wA)) :
    Calls Tryz.prog 40 #[.agg (dkArr x y s), Ca.agg ⟨3, on, A, B, C, E, F, tx, p⟩] w fun e w' => e = .returned (.bool true) ∧ ∃ wA, Below w.heap.size w wA ∧ Q wA w' := by
  have HB : Hid (∀ wA, Below w.heap.size w wA → Both 50 98 (fun q => #[.pointer q, .int .i64 A, .int .i64 B, .int .i64 C]) x y wA (.int .i64 r) O (Q wA)) := hB
  have HO : Hid (∀ i, O i → i < w.heap.size) := hO
  skip
  clear hB hO
  have ba : Below w.heap.size w ((w.alloc (.cells (dkArr x y s) 28)).alloc (.cells (Ca.arr ⟨3, on, A, B, C, E, F, tx, p⟩) 35)) := ((Below.refl _ _).alloc (Nat.le_refl _) _).alloc (by simp) _
  have Hd : Hid (DeAt ((w.alloc (.cells (dkArr x y s) 28)).alloc (.cells (Ca.arr ⟨3, on, A, B, C, E, F, tx, p⟩) 35)) w.heap.size x y s) := by
    show _ = _
    rw [Below.heap_alloc _ _ _ (by simp)]; exact heap_new w _
  have Hc : Hid (CaAt ((w.alloc (.cells (dkArr x y s) 28)).alloc (.cells (Ca.arr ⟨3, on, A, B, C, E, F, tx, p⟩) 35)) (w.heap.size + 1) ⟨3, on, A, B, C, E, F, tx, p⟩) := by
    have := heap_new (w.alloc (.cells (dkArr x y s) 28)) (.cells (Ca.arr ⟨3, on, A, B, C, E, F, tx, p⟩) 35)
    rw [size_alloc] at this
    exact this
  have Hba : Hid (Below w.heap.size w ((w.alloc (.cells (dkArr x y s) 28)).alloc (.cells (Ca.arr ⟨3, on, A, B, C, E, F, tx, p⟩) 35))) := ba
  clear ba
  go_enter Tryz.func40, Tryz.ntmps40
  go_wp2_with fail
  generalize hwA : World.alloc (w.alloc _) _ = wA at *
  go_at_call 50
  refine (HB.out wA Hba.out).mono ?_
  rintro e w1 ⟨rfl, k1, hy⟩
  have Hy : Hid (Calls Tryz.prog 98 #[.pointer y, .int .i64 A, .int .i64 B, .int .i64 C] w1 fun e w2 => e = .returned (.int .i64 r) ∧ Keep O wA w2 ∧ Q wA w2) := hy
  replace Hd : Hid (DeAt w1 w.heap.size x y s) := Hd.out.keep k1 (fun q => by have := HO.out _ q; omega)
  replace Hc : Hid (CaAt w1 (w.heap.size + 1) ⟨3, on, A, B, C, E, F, tx, p⟩) := Hc.out.keep k1 (fun q => by have := HO.out _ q; omega)
  obtain ⟨d0, d1, d2⟩ := Hd.out.cells
  obtain ⟨c0, c1, c2, c3, c4, c5, c6, c7, c8, c9, c10, c11, c12⟩ := Hc.out.cells
  clear hy k1
  go_wp2_with fail
  go_at_call 98
  refine Hy.out.mono ?_
  rintro e w2 ⟨rfl, k2, hq⟩
  have Hq : Hid (Q wA w2) := hq
  skip
  clear d0 d1 d2 c0 c1 c2 c3 c4 c5 c6 c7 c8 c9 c10 c11 c12 hq k2
  go_wp2_with fail
  go_ret
  exact ⟨rfl, wA, Hba.out, Hq.out⟩
set_option maxRecDepth 10000 in
set_option maxHeartbeats 2000000 in
theorem lmoves4 {w : World} {x y s : Option Addr} (on A B C E F : Int) (tx : ByteArray) (p : Pn) {r : Int} {O : Nat → Prop} {Q : World → World → Prop} (hO : ∀ i, O i → i < w.heap.size) (hB : ∀ wA, Below w.heap.size w wA → Both 51 99 (fun q => #[.pointer q, .int .i64 A, .int .i64 B, .int .i64 C]) x y wA (.int .i64 r) O (Q wA)) :
    Calls Tryz.prog 40 #[.agg (dkArr x y s), Ca.agg ⟨4, on, A, B, C, E, F, tx, p⟩] w fun e w' => e = .returned (.bool true) ∧ ∃ wA, Below w.heap.size w wA ∧ Q wA w' := by
  have HB : Hid (∀ wA, Below w.heap.size w wA → Both 51 99 (fun q => #[.pointer q, .int .i64 A, .int .i64 B, .int .i64 C]) x y wA (.int .i64 r) O (Q wA)) := hB
  have HO : Hid (∀ i, O i → i < w.heap.size) := hO
  skip
  clear hB hO
  have ba : Below w.heap.size w ((w.alloc (.cells (dkArr x y s) 28)).alloc (.cells (Ca.arr ⟨4, on, A, B, C, E, F, tx, p⟩) 35)) := ((Below.refl _ _).alloc (Nat.le_refl _) _).alloc (by simp) _
  have Hd : Hid (DeAt ((w.alloc (.cells (dkArr x y s) 28)).alloc (.cells (Ca.arr ⟨4, on, A, B, C, E, F, tx, p⟩) 35)) w.heap.size x y s) := by
    show _ = _
    rw [Below.heap_alloc _ _ _ (by simp)]; exact heap_new w _
  have Hc : Hid (CaAt ((w.alloc (.cells (dkArr x y s) 28)).alloc (.cells (Ca.arr ⟨4, on, A, B, C, E, F, tx, p⟩) 35)) (w.heap.size + 1) ⟨4, on, A, B, C, E, F, tx, p⟩) := by
    have := heap_new (w.alloc (.cells (dkArr x y s) 28)) (.cells (Ca.arr ⟨4, on, A, B, C, E, F, tx, p⟩) 35)
    rw [size_alloc] at this
    exact this
  have Hba : Hid (Below w.heap.size w ((w.alloc (.cells (dkArr x y s) 28)).alloc (.cells (Ca.arr ⟨4, on, A, B, C, E, F, tx, p⟩) 35))) := ba
  clear ba
  go_enter Tryz.func40, Tryz.ntmps40
  go_wp2_with fail
  generalize hwA : World.alloc (w.alloc _) _ = wA at *
  go_at_call 51
  refine (HB.out wA Hba.out).mono ?_
  rintro e w1 ⟨rfl, k1, hy⟩
  have Hy : Hid (Calls Tryz.prog 99 #[.pointer y, .int .i64 A, .int .i64 B, .int .i64 C] w1 fun e w2 => e = .returned (.int .i64 r) ∧ Keep O wA w2 ∧ Q wA w2) := hy
  replace Hd : Hid (DeAt w1 w.heap.size x y s) := Hd.out.keep k1 (fun q => by have := HO.out _ q; omega)
  replace Hc : Hid (CaAt w1 (w.heap.size + 1) ⟨4, on, A, B, C, E, F, tx, p⟩) := Hc.out.keep k1 (fun q => by have := HO.out _ q; omega)
  obtain ⟨d0, d1, d2⟩ := Hd.out.cells
  obtain ⟨c0, c1, c2, c3, c4, c5, c6, c7, c8, c9, c10, c11, c12⟩ := Hc.out.cells
  clear hy k1
  go_wp2_with fail
  go_at_call 99
  refine Hy.out.mono ?_
  rintro e w2 ⟨rfl, k2, hq⟩
  have Hq : Hid (Q wA w2) := hq
  skip
  clear d0 d1 d2 c0 c1 c2 c3 c4 c5 c6 c7 c8 c9 c10 c11 c12 hq k2
  go_wp2_with fail
  go_ret
  exact ⟨rfl, wA, Hba.out, Hq.out⟩
set_option maxRecDepth 10000 in
set_option maxHeartbeats 2000000 in
theorem lmoves5 {w : World} {x y s : Option Addr} (on A B C E F : Int) (tx : ByteArray) (p : Pn) {r : Int} {O : Nat → Prop} {Q : World → World → Prop} (hO : ∀ i, O i → i < w.heap.size) (hB : ∀ wA, Below w.heap.size w wA → Both 52 100 (fun q => #[.pointer q, .int .i64 A, .bool (on.tmod 2 == 0)]) x y wA (.int .i64 r) O (Q wA)) :
    Calls Tryz.prog 40 #[.agg (dkArr x y s), Ca.agg ⟨5, on, A, B, C, E, F, tx, p⟩] w fun e w' => e = .returned (.bool true) ∧ ∃ wA, Below w.heap.size w wA ∧ Q wA w' := by
  have HB : Hid (∀ wA, Below w.heap.size w wA → Both 52 100 (fun q => #[.pointer q, .int .i64 A, .bool (on.tmod 2 == 0)]) x y wA (.int .i64 r) O (Q wA)) := hB
  have HO : Hid (∀ i, O i → i < w.heap.size) := hO
  skip
  clear hB hO
  have ba : Below w.heap.size w ((w.alloc (.cells (dkArr x y s) 28)).alloc (.cells (Ca.arr ⟨5, on, A, B, C, E, F, tx, p⟩) 35)) := ((Below.refl _ _).alloc (Nat.le_refl _) _).alloc (by simp) _
  have Hd : Hid (DeAt ((w.alloc (.cells (dkArr x y s) 28)).alloc (.cells (Ca.arr ⟨5, on, A, B, C, E, F, tx, p⟩) 35)) w.heap.size x y s) := by
    show _ = _
    rw [Below.heap_alloc _ _ _ (by simp)]; exact heap_new w _
  have Hc : Hid (CaAt ((w.alloc (.cells (dkArr x y s) 28)).alloc (.cells (Ca.arr ⟨5, on, A, B, C, E, F, tx, p⟩) 35)) (w.heap.size + 1) ⟨5, on, A, B, C, E, F, tx, p⟩) := by
    have := heap_new (w.alloc (.cells (dkArr x y s) 28)) (.cells (Ca.arr ⟨5, on, A, B, C, E, F, tx, p⟩) 35)
    rw [size_alloc] at this
    exact this
  have Hba : Hid (Below w.heap.size w ((w.alloc (.cells (dkArr x y s) 28)).alloc (.cells (Ca.arr ⟨5, on, A, B, C, E, F, tx, p⟩) 35))) := ba
  clear ba
  go_enter Tryz.func40, Tryz.ntmps40
  go_wp2_with fail
  generalize hwA : World.alloc (w.alloc _) _ = wA at *
  go_at_call 52
  refine (HB.out wA Hba.out).mono ?_
  rintro e w1 ⟨rfl, k1, hy⟩
  have Hy : Hid (Calls Tryz.prog 100 #[.pointer y, .int .i64 A, .bool (on.tmod 2 == 0)] w1 fun e w2 => e = .returned (.int .i64 r) ∧ Keep O wA w2 ∧ Q wA w2) := hy
  replace Hd : Hid (DeAt w1 w.heap.size x y s) := Hd.out.keep k1 (fun q => by have := HO.out _ q; omega)
  replace Hc : Hid (CaAt w1 (w.heap.size + 1) ⟨5, on, A, B, C, E, F, tx, p⟩) := Hc.out.keep k1 (fun q => by have := HO.out _ q; omega)
  obtain ⟨d0, d1, d2⟩ := Hd.out.cells
  obtain ⟨c0, c1, c2, c3, c4, c5, c6, c7, c8, c9, c10, c11, c12⟩ := Hc.out.cells
  clear hy k1
  go_wp2_with fail
  go_at_call 100
  refine Hy.out.mono ?_
  rintro e w2 ⟨rfl, k2, hq⟩
  have Hq : Hid (Q wA w2) := hq
  skip
  clear d0 d1 d2 c0 c1 c2 c3 c4 c5 c6 c7 c8 c9 c10 c11 c12 hq k2
  go_wp2_with fail
  go_ret
  exact ⟨rfl, wA, Hba.out, Hq.out⟩
set_option maxRecDepth 10000 in
set_option maxHeartbeats 2000000 in
theorem lmoves6 {w : World} {x y s : Option Addr} (on A B C E F : Int) (tx : ByteArray) (p : Pn) {r : Int} {O : Nat → Prop} {Q : World → World → Prop} (hO : ∀ i, O i → i < w.heap.size) (hB : ∀ wA, Below w.heap.size w wA → Both 53 101 (fun q => #[.pointer q, .int .i64 A, .bool (on.tmod 2 == 0)]) x y wA (.int .i64 r) O (Q wA)) :
    Calls Tryz.prog 40 #[.agg (dkArr x y s), Ca.agg ⟨6, on, A, B, C, E, F, tx, p⟩] w fun e w' => e = .returned (.bool true) ∧ ∃ wA, Below w.heap.size w wA ∧ Q wA w' := by
  have HB : Hid (∀ wA, Below w.heap.size w wA → Both 53 101 (fun q => #[.pointer q, .int .i64 A, .bool (on.tmod 2 == 0)]) x y wA (.int .i64 r) O (Q wA)) := hB
  have HO : Hid (∀ i, O i → i < w.heap.size) := hO
  skip
  clear hB hO
  have ba : Below w.heap.size w ((w.alloc (.cells (dkArr x y s) 28)).alloc (.cells (Ca.arr ⟨6, on, A, B, C, E, F, tx, p⟩) 35)) := ((Below.refl _ _).alloc (Nat.le_refl _) _).alloc (by simp) _
  have Hd : Hid (DeAt ((w.alloc (.cells (dkArr x y s) 28)).alloc (.cells (Ca.arr ⟨6, on, A, B, C, E, F, tx, p⟩) 35)) w.heap.size x y s) := by
    show _ = _
    rw [Below.heap_alloc _ _ _ (by simp)]; exact heap_new w _
  have Hc : Hid (CaAt ((w.alloc (.cells (dkArr x y s) 28)).alloc (.cells (Ca.arr ⟨6, on, A, B, C, E, F, tx, p⟩) 35)) (w.heap.size + 1) ⟨6, on, A, B, C, E, F, tx, p⟩) := by
    have := heap_new (w.alloc (.cells (dkArr x y s) 28)) (.cells (Ca.arr ⟨6, on, A, B, C, E, F, tx, p⟩) 35)
    rw [size_alloc] at this
    exact this
  have Hba : Hid (Below w.heap.size w ((w.alloc (.cells (dkArr x y s) 28)).alloc (.cells (Ca.arr ⟨6, on, A, B, C, E, F, tx, p⟩) 35))) := ba
  clear ba
  go_enter Tryz.func40, Tryz.ntmps40
  go_wp2_with fail
  generalize hwA : World.alloc (w.alloc _) _ = wA at *
  go_at_call 53
  refine (HB.out wA Hba.out).mono ?_
  rintro e w1 ⟨rfl, k1, hy⟩
  have Hy : Hid (Calls Tryz.prog 101 #[.pointer y, .int .i64 A, .bool (on.tmod 2 == 0)] w1 fun e w2 => e = .returned (.int .i64 r) ∧ Keep O wA w2 ∧ Q wA w2) := hy
  replace Hd : Hid (DeAt w1 w.heap.size x y s) := Hd.out.keep k1 (fun q => by have := HO.out _ q; omega)
  replace Hc : Hid (CaAt w1 (w.heap.size + 1) ⟨6, on, A, B, C, E, F, tx, p⟩) := Hc.out.keep k1 (fun q => by have := HO.out _ q; omega)
  obtain ⟨d0, d1, d2⟩ := Hd.out.cells
  obtain ⟨c0, c1, c2, c3, c4, c5, c6, c7, c8, c9, c10, c11, c12⟩ := Hc.out.cells
  clear hy k1
  go_wp2_with fail
  go_at_call 101
  refine Hy.out.mono ?_
  rintro e w2 ⟨rfl, k2, hq⟩
  have Hq : Hid (Q wA w2) := hq
  skip
  clear d0 d1 d2 c0 c1 c2 c3 c4 c5 c6 c7 c8 c9 c10 c11 c12 hq k2
  go_wp2_with fail
  go_ret
  exact ⟨rfl, wA, Hba.out, Hq.out⟩
set_option maxRecDepth 10000 in
set_option maxHeartbeats 2000000 in
theorem lmoves7 {w : World} {x y s : Option Addr} (on A B C E F : Int) (tx : ByteArray) (p : Pn) {r : Int} {O : Nat → Prop} {Q : World → World → Prop} (hO : ∀ i, O i → i < w.heap.size) (hB : ∀ wA, Below w.heap.size w wA → Both 54 102 (fun q => #[.pointer q, .int .i64 A, .int .i64 B]) x y wA (.int .i64 r) O (Q wA)) :
    Calls Tryz.prog 40 #[.agg (dkArr x y s), Ca.agg ⟨7, on, A, B, C, E, F, tx, p⟩] w fun e w' => e = .returned (.bool true) ∧ ∃ wA, Below w.heap.size w wA ∧ Q wA w' := by
  have HB : Hid (∀ wA, Below w.heap.size w wA → Both 54 102 (fun q => #[.pointer q, .int .i64 A, .int .i64 B]) x y wA (.int .i64 r) O (Q wA)) := hB
  have HO : Hid (∀ i, O i → i < w.heap.size) := hO
  skip
  clear hB hO
  have ba : Below w.heap.size w ((w.alloc (.cells (dkArr x y s) 28)).alloc (.cells (Ca.arr ⟨7, on, A, B, C, E, F, tx, p⟩) 35)) := ((Below.refl _ _).alloc (Nat.le_refl _) _).alloc (by simp) _
  have Hd : Hid (DeAt ((w.alloc (.cells (dkArr x y s) 28)).alloc (.cells (Ca.arr ⟨7, on, A, B, C, E, F, tx, p⟩) 35)) w.heap.size x y s) := by
    show _ = _
    rw [Below.heap_alloc _ _ _ (by simp)]; exact heap_new w _
  have Hc : Hid (CaAt ((w.alloc (.cells (dkArr x y s) 28)).alloc (.cells (Ca.arr ⟨7, on, A, B, C, E, F, tx, p⟩) 35)) (w.heap.size + 1) ⟨7, on, A, B, C, E, F, tx, p⟩) := by
    have := heap_new (w.alloc (.cells (dkArr x y s) 28)) (.cells (Ca.arr ⟨7, on, A, B, C, E, F, tx, p⟩) 35)
    rw [size_alloc] at this
    exact this
  have Hba : Hid (Below w.heap.size w ((w.alloc (.cells (dkArr x y s) 28)).alloc (.cells (Ca.arr ⟨7, on, A, B, C, E, F, tx, p⟩) 35))) := ba
  clear ba
  go_enter Tryz.func40, Tryz.ntmps40
  go_wp2_with fail
  generalize hwA : World.alloc (w.alloc _) _ = wA at *
  go_at_call 54
  refine (HB.out wA Hba.out).mono ?_
  rintro e w1 ⟨rfl, k1, hy⟩
  have Hy : Hid (Calls Tryz.prog 102 #[.pointer y, .int .i64 A, .int .i64 B] w1 fun e w2 => e = .returned (.int .i64 r) ∧ Keep O wA w2 ∧ Q wA w2) := hy
  replace Hd : Hid (DeAt w1 w.heap.size x y s) := Hd.out.keep k1 (fun q => by have := HO.out _ q; omega)
  replace Hc : Hid (CaAt w1 (w.heap.size + 1) ⟨7, on, A, B, C, E, F, tx, p⟩) := Hc.out.keep k1 (fun q => by have := HO.out _ q; omega)
  obtain ⟨d0, d1, d2⟩ := Hd.out.cells
  obtain ⟨c0, c1, c2, c3, c4, c5, c6, c7, c8, c9, c10, c11, c12⟩ := Hc.out.cells
  clear hy k1
  go_wp2_with fail
  go_at_call 102
  refine Hy.out.mono ?_
  rintro e w2 ⟨rfl, k2, hq⟩
  have Hq : Hid (Q wA w2) := hq
  skip
  clear d0 d1 d2 c0 c1 c2 c3 c4 c5 c6 c7 c8 c9 c10 c11 c12 hq k2
  go_wp2_with fail
  go_ret
  exact ⟨rfl, wA, Hba.out, Hq.out⟩
set_option maxHeartbeats 2000000 in
theorem lmovesNo {w : World} {x y s : Option Addr} (o : Ca) (h1 : o.kd ≠ 1) (h2 : o.kd ≠ 2) (h3 : o.kd ≠ 3) (h4 : o.kd ≠ 4) (h5 : o.kd ≠ 5) (h6 : o.kd ≠ 6) (h7 : o.kd ≠ 7) :
    Calls Tryz.prog 40 #[.agg (dkArr x y s), o.agg] w fun e w' => e = .returned (.bool true) ∧ Below w.heap.size w w' := by
  obtain ⟨kd, on, A, B, C, E, F, tx, p⟩ := o
  dsimp only at h1 h2 h3 h4 h5 h6 h7
  have q1 : (kd == 1) = false := by simpa using h1
  have q2 : (kd == 2) = false := by simpa using h2
  have q3 : (kd == 3) = false := by simpa using h3
  have q4 : (kd == 4) = false := by simpa using h4
  have q5 : (kd == 5) = false := by simpa using h5
  have q6 : (kd == 6) = false := by simpa using h6
  have q7 : (kd == 7) = false := by simpa using h7
  go_enter Tryz.func40, Tryz.ntmps40
  go_wp2_with fail
  go_ret
  exact ⟨rfl, ((Below.refl _ _).alloc (Nat.le_refl _) _).alloc (by simp) _⟩
end Go.Proofs.YtjlfibhbfdckpaaGreatDoor
