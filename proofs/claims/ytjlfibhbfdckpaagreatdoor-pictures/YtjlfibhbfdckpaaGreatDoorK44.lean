/- Texts of the proof, one behind the other: PcE, PcD, PcF. -/
import Derived.Test.YtjlfibhbfdckpaaGreatDoorK37
import Derived.Test.YtjlfibhbfdckpaaGreatDoorK43
/- The statement of pictures: call. -/
namespace Go.Proofs.YtjlfibhbfdckpaaGreatDoor
open Go.RowKit
attribute [local go_sem ↓] Go.wp_at_zero Go.wp_at_succ
set_option maxRecDepth 10000 in
set_option maxHeartbeats 2000000 in
theorem lcall8 {w : World} {x y s : Option Addr} (on A B C E F : Int) (tx : ByteArray) (p : Pn) {r : Int} {O : Nat → Prop} {Q : World → World → Prop} (hO : ∀ i, O i → i < w.heap.size) (hB : ∀ wA, Below w.heap.size w wA → Both 31 32 (fun q => #[.pointer q, .int .i64 A, .int .i64 B, .int .i64 C, .string tx, p.agg]) x y wA (.int .i64 r) O (Q wA)) :
    Calls Tryz.prog 10 #[.agg (dkArr x y s), Ca.agg ⟨8, on, A, B, C, E, F, tx, p⟩] w fun e w' => e = .returned (.bool true) ∧ ∃ wA, Below w.heap.size w wA ∧ Q wA w' := by
  have HB : Hid (∀ wA, Below w.heap.size w wA → Both 31 32 (fun q => #[.pointer q, .int .i64 A, .int .i64 B, .int .i64 C, .string tx, p.agg]) x y wA (.int .i64 r) O (Q wA)) := hB
  have HO : Hid (∀ i, O i → i < w.heap.size) := hO
  skip
  clear hB hO
  have ba : Below w.heap.size w ((w.alloc (.cells (dkArr x y s) 28)).alloc (.cells (Ca.arr ⟨8, on, A, B, C, E, F, tx, p⟩) 35)) := ((Below.refl _ _).alloc (Nat.le_refl _) _).alloc (by simp) _
  have Hd : Hid (DeAt ((w.alloc (.cells (dkArr x y s) 28)).alloc (.cells (Ca.arr ⟨8, on, A, B, C, E, F, tx, p⟩) 35)) w.heap.size x y s) := by
    show _ = _
    rw [Below.heap_alloc _ _ _ (by simp)]; exact heap_new w _
  have Hc : Hid (CaAt ((w.alloc (.cells (dkArr x y s) 28)).alloc (.cells (Ca.arr ⟨8, on, A, B, C, E, F, tx, p⟩) 35)) (w.heap.size + 1) ⟨8, on, A, B, C, E, F, tx, p⟩) := by
    have := heap_new (w.alloc (.cells (dkArr x y s) 28)) (.cells (Ca.arr ⟨8, on, A, B, C, E, F, tx, p⟩) 35)
    rw [size_alloc] at this
    exact this
  have Hba : Hid (Below w.heap.size w ((w.alloc (.cells (dkArr x y s) 28)).alloc (.cells (Ca.arr ⟨8, on, A, B, C, E, F, tx, p⟩) 35))) := ba
  clear ba
  go_enter Tryz.func10, Tryz.ntmps10
  go_wp2_with fail
  generalize hwA : World.alloc (w.alloc _) _ = wA at *
  go_at_call 31
  refine (HB.out wA Hba.out).mono ?_
  rintro e w1 ⟨rfl, k1, hy⟩
  have Hy : Hid (Calls Tryz.prog 32 #[.pointer y, .int .i64 A, .int .i64 B, .int .i64 C, .string tx, p.agg] w1 fun e w2 => e = .returned (.int .i64 r) ∧ Keep O wA w2 ∧ Q wA w2) := hy
  replace Hd : Hid (DeAt w1 w.heap.size x y s) := Hd.out.keep k1 (fun q => by have := HO.out _ q; omega)
  replace Hc : Hid (CaAt w1 (w.heap.size + 1) ⟨8, on, A, B, C, E, F, tx, p⟩) := Hc.out.keep k1 (fun q => by have := HO.out _ q; omega)
  obtain ⟨d0, d1, d2⟩ := Hd.out.cells
  obtain ⟨c0, c1, c2, c3, c4, c5, c6, c7, c8, c9, c10, c11, c12⟩ := Hc.out.cells
  clear hy k1
  go_wp2_with fail
  go_at_call 32
  refine Hy.out.mono ?_
  rintro e w2 ⟨rfl, k2, hq⟩
  have Hq : Hid (Q wA w2) := hq
  skip
  clear d0 d1 d2 c0 c1 c2 c3 c4 c5 c6 c7 c8 c9 c10 c11 c12 hq k2
  go_wp2_with fail
  go_ret
  exact ⟨rfl, wA, Hba.out, Hq.out⟩
set_option maxRecDepth 10000 in
set_option maxHeartbeats 2000000 in
theorem lcall9 {w : World} {x y s : Option Addr} (on A B C E F : Int) (tx : ByteArray) (p : Pn) {r : Int} {O : Nat → Prop} {Q : World → World → Prop} (hO : ∀ i, O i → i < w.heap.size) (hB : ∀ wA, Below w.heap.size w wA → Both 33 34 (fun q => #[.pointer q, .int .i64 A, .int .i64 B, .int .i64 C, .int .i64 E, .int .i64 F, p.agg]) x y wA (.int .i64 r) O (Q wA)) :
    Calls Tryz.prog 10 #[.agg (dkArr x y s), Ca.agg ⟨9, on, A, B, C, E, F, tx, p⟩] w fun e w' => e = .returned (.bool true) ∧ ∃ wA, Below w.heap.size w wA ∧ Q wA w' := by
  have HB : Hid (∀ wA, Below w.heap.size w wA → Both 33 34 (fun q => #[.pointer q, .int .i64 A, .int .i64 B, .int .i64 C, .int .i64 E, .int .i64 F, p.agg]) x y wA (.int .i64 r) O (Q wA)) := hB
  have HO : Hid (∀ i, O i → i < w.heap.size) := hO
  skip
  clear hB hO
  have ba : Below w.heap.size w ((w.alloc (.cells (dkArr x y s) 28)).alloc (.cells (Ca.arr ⟨9, on, A, B, C, E, F, tx, p⟩) 35)) := ((Below.refl _ _).alloc (Nat.le_refl _) _).alloc (by simp) _
  have Hd : Hid (DeAt ((w.alloc (.cells (dkArr x y s) 28)).alloc (.cells (Ca.arr ⟨9, on, A, B, C, E, F, tx, p⟩) 35)) w.heap.size x y s) := by
    show _ = _
    rw [Below.heap_alloc _ _ _ (by simp)]; exact heap_new w _
  have Hc : Hid (CaAt ((w.alloc (.cells (dkArr x y s) 28)).alloc (.cells (Ca.arr ⟨9, on, A, B, C, E, F, tx, p⟩) 35)) (w.heap.size + 1) ⟨9, on, A, B, C, E, F, tx, p⟩) := by
    have := heap_new (w.alloc (.cells (dkArr x y s) 28)) (.cells (Ca.arr ⟨9, on, A, B, C, E, F, tx, p⟩) 35)
    rw [size_alloc] at this
    exact this
  have Hba : Hid (Below w.heap.size w ((w.alloc (.cells (dkArr x y s) 28)).alloc (.cells (Ca.arr ⟨9, on, A, B, C, E, F, tx, p⟩) 35))) := ba
  clear ba
  go_enter Tryz.func10, Tryz.ntmps10
  go_wp2_with fail
  generalize hwA : World.alloc (w.alloc _) _ = wA at *
  go_at_call 33
  refine (HB.out wA Hba.out).mono ?_
  rintro e w1 ⟨rfl, k1, hy⟩
  have Hy : Hid (Calls Tryz.prog 34 #[.pointer y, .int .i64 A, .int .i64 B, .int .i64 C, .int .i64 E, .int .i64 F, p.agg] w1 fun e w2 => e = .returned (.int .i64 r) ∧ Keep O wA w2 ∧ Q wA w2) := hy
  replace Hd : Hid (DeAt w1 w.heap.size x y s) := Hd.out.keep k1 (fun q => by have := HO.out _ q; omega)
  replace Hc : Hid (CaAt w1 (w.heap.size + 1) ⟨9, on, A, B, C, E, F, tx, p⟩) := Hc.out.keep k1 (fun q => by have := HO.out _ q; omega)
  obtain ⟨d0, d1, d2⟩ := Hd.out.cells
  obtain ⟨c0, c1, c2, c3, c4, c5, c6, c7, c8, c9, c10, c11, c12⟩ := Hc.out.cells
  clear hy k1
  go_wp2_with fail
  go_at_call 34
  refine Hy.out.mono ?_
  rintro e w2 ⟨rfl, k2, hq⟩
  have Hq : Hid (Q wA w2) := hq
  skip
  clear d0 d1 d2 c0 c1 c2 c3 c4 c5 c6 c7 c8 c9 c10 c11 c12 hq k2
  go_wp2_with fail
  go_ret
  exact ⟨rfl, wA, Hba.out, Hq.out⟩
set_option maxRecDepth 10000 in
set_option maxHeartbeats 2000000 in
theorem lcall10 {w : World} {x y s : Option Addr} (on A B C E F : Int) (tx : ByteArray) (p : Pn) {r : Int} {O : Nat → Prop} {Q : World → World → Prop} (hO : ∀ i, O i → i < w.heap.size) (hB : ∀ wA, Below w.heap.size w wA → Both 35 36 (fun q => #[.pointer q, .int .i64 A, .int .i64 B]) x y wA (.int .i64 r) O (Q wA)) :
    Calls Tryz.prog 10 #[.agg (dkArr x y s), Ca.agg ⟨10, on, A, B, C, E, F, tx, p⟩] w fun e w' => e = .returned (.bool true) ∧ ∃ wA, Below w.heap.size w wA ∧ Q wA w' := by
  have HB : Hid (∀ wA, Below w.heap.size w wA → Both 35 36 (fun q => #[.pointer q, .int .i64 A, .int .i64 B]) x y wA (.int .i64 r) O (Q wA)) := hB
  have HO : Hid (∀ i, O i → i < w.heap.size) := hO
  skip
  clear hB hO
  have ba : Below w.heap.size w ((w.alloc (.cells (dkArr x y s) 28)).alloc (.cells (Ca.arr ⟨10, on, A, B, C, E, F, tx, p⟩) 35)) := ((Below.refl _ _).alloc (Nat.le_refl _) _).alloc (by simp) _
  have Hd : Hid (DeAt ((w.alloc (.cells (dkArr x y s) 28)).alloc (.cells (Ca.arr ⟨10, on, A, B, C, E, F, tx, p⟩) 35)) w.heap.size x y s) := by
    show _ = _
    rw [Below.heap_alloc _ _ _ (by simp)]; exact heap_new w _
  have Hc : Hid (CaAt ((w.alloc (.cells (dkArr x y s) 28)).alloc (.cells (Ca.arr ⟨10, on, A, B, C, E, F, tx, p⟩) 35)) (w.heap.size + 1) ⟨10, on, A, B, C, E, F, tx, p⟩) := by
    have := heap_new (w.alloc (.cells (dkArr x y s) 28)) (.cells (Ca.arr ⟨10, on, A, B, C, E, F, tx, p⟩) 35)
    rw [size_alloc] at this
    exact this
  have Hba : Hid (Below w.heap.size w ((w.alloc (.cells (dkArr x y s) 28)).alloc (.cells (Ca.arr ⟨10, on, A, B, C, E, F, tx, p⟩) 35))) := ba
  clear ba
  go_enter Tryz.func10, Tryz.ntmps10
  go_wp2_with fail
  generalize hwA : World.alloc (w.alloc _) _ = wA at *
  go_at_call 35
  refine (HB.out wA Hba.out).mono ?_
  rintro e w1 ⟨rfl, k1, hy⟩
  have Hy : Hid (Calls Tryz.prog 36 #[.pointer y, .int .i64 A, .int .i64 B] w1 fun e w2 => e = .returned (.int .i64 r) ∧ Keep O wA w2 ∧ Q wA w2) := hy
  replace Hd : Hid (DeAt w1 w.heap.size x y s) := Hd.out.keep k1 (fun q => by have := HO.out _ q; omega)
  replace Hc : Hid (CaAt w1 (w.heap.size + 1) ⟨10, on, A, B, C, E, F, tx, p⟩) := Hc.out.keep k1 (fun q => by have := HO.out _ q; omega)
  obtain ⟨d0, d1, d2⟩ := Hd.out.cells
  obtain ⟨c0, c1, c2, c3, c4, c5, c6, c7, c8, c9, c10, c11, c12⟩ := Hc.out.cells
  clear hy k1
  go_wp2_with fail
  go_at_call 36
  refine Hy.out.mono ?_
  rintro e w2 ⟨rfl, k2, hq⟩
  have Hq : Hid (Q wA w2) := hq
  skip
  clear d0 d1 d2 c0 c1 c2 c3 c4 c5 c6 c7 c8 c9 c10 c11 c12 hq k2
  go_wp2_with fail
  go_ret
  exact ⟨rfl, wA, Hba.out, Hq.out⟩
set_option maxRecDepth 10000 in
set_option maxHeartbeats 2000000 in
theorem lcall11 {w : World} {x y s : Option Addr} (on A B C E F : Int) (tx : ByteArray) (p : Pn) {r : Int} {O : Nat → Prop} {Q : World → World → Prop} (hO : ∀ i, O i → i < w.heap.size) (hB : ∀ wA, Below w.heap.size w wA → Both 18 37 (fun q => #[.pointer q, .int .i64 A, .int .i64 B]) x y wA (.int .i64 r) O (Q wA)) {Q' : World → World → Prop} (hT : ∀ wA w2, Q wA w2 → Calls Tryz.prog 38 #[.pointer s, .int .i64 A, .int .i64 B] w2 fun e w3 => ∃ r3 : Int, e = .returned (.int .i64 r3) ∧ Q' wA w3) :
    Calls Tryz.prog 10 #[.agg (dkArr x y s), Ca.agg ⟨11, on, A, B, C, E, F, tx, p⟩] w fun e w' => e = .returned (.bool true) ∧ ∃ wA, Below w.heap.size w wA ∧ Q' wA w' := by
  have HB : Hid (∀ wA, Below w.heap.size w wA → Both 18 37 (fun q => #[.pointer q, .int .i64 A, .int .i64 B]) x y wA (.int .i64 r) O (Q wA)) := hB
  have HO : Hid (∀ i, O i → i < w.heap.size) := hO
  have HT : Hid (∀ wA w2, Q wA w2 → Calls Tryz.prog 38 #[.pointer s, .int .i64 A, .int .i64 B] w2 fun e w3 => ∃ r3 : Int, e = .returned (.int .i64 r3) ∧ Q' wA w3) := hT
  clear hB hO hT
  have ba : Below w.heap.size w ((w.alloc (.cells (dkArr x y s) 28)).alloc (.cells (Ca.arr ⟨11, on, A, B, C, E, F, tx, p⟩) 35)) := ((Below.refl _ _).alloc (Nat.le_refl _) _).alloc (by simp) _
  have Hd : Hid (DeAt ((w.alloc (.cells (dkArr x y s) 28)).alloc (.cells (Ca.arr ⟨11, on, A, B, C, E, F, tx, p⟩) 35)) w.heap.size x y s) := by
    show _ = _
    rw [Below.heap_alloc _ _ _ (by simp)]; exact heap_new w _
  have Hc : Hid (CaAt ((w.alloc (.cells (dkArr x y s) 28)).alloc (.cells (Ca.arr ⟨11, on, A, B, C, E, F, tx, p⟩) 35)) (w.heap.size + 1) ⟨11, on, A, B, C, E, F, tx, p⟩) := by
    have := heap_new (w.alloc (.cells (dkArr x y s) 28)) (.cells (Ca.arr ⟨11, on, A, B, C, E, F, tx, p⟩) 35)
    rw [size_alloc] at this
    exact this
  have Hba : Hid (Below w.heap.size w ((w.alloc (.cells (dkArr x y s) 28)).alloc (.cells (Ca.arr ⟨11, on, A, B, C, E, F, tx, p⟩) 35))) := ba
  clear ba
  go_enter Tryz.func10, Tryz.ntmps10
  go_wp2_with fail
  generalize hwA : World.alloc (w.alloc _) _ = wA at *
  have Hd0 := Hd
  have Hc0 := Hc
  go_at_call 18
  refine (HB.out wA Hba.out).mono ?_
  rintro e w1 ⟨rfl, k1, hy⟩
  have Hy : Hid (Calls Tryz.prog 37 #[.pointer y, .int .i64 A, .int .i64 B] w1 fun e w2 => e = .returned (.int .i64 r) ∧ Keep O wA w2 ∧ Q wA w2) := hy
  replace Hd : Hid (DeAt w1 w.heap.size x y s) := Hd.out.keep k1 (fun q => by have := HO.out _ q; omega)
  replace Hc : Hid (CaAt w1 (w.heap.size + 1) ⟨11, on, A, B, C, E, F, tx, p⟩) := Hc.out.keep k1 (fun q => by have := HO.out _ q; omega)
  obtain ⟨d0, d1, d2⟩ := Hd.out.cells
  obtain ⟨c0, c1, c2, c3, c4, c5, c6, c7, c8, c9, c10, c11, c12⟩ := Hc.out.cells
  clear hy k1
  go_wp2_with fail
  go_at_call 37
  refine Hy.out.mono ?_
  rintro e w2 ⟨rfl, k2, hq⟩
  have Hq : Hid (Q wA w2) := hq
  replace Hd : Hid (DeAt w2 w.heap.size x y s) := Hd0.out.keep k2 (fun q => by have := HO.out _ q; omega)
  replace Hc : Hid (CaAt w2 (w.heap.size + 1) ⟨11, on, A, B, C, E, F, tx, p⟩) := Hc0.out.keep k2 (fun q => by have := HO.out _ q; omega)
  clear d0 d1 d2 c0 c1 c2 c3 c4 c5 c6 c7 c8 c9 c10 c11 c12 hq k2
  obtain ⟨d0, d1, d2⟩ := Hd.out.cells
  obtain ⟨c0, c1, c2, c3, c4, c5, c6, c7, c8, c9, c10, c11, c12⟩ := Hc.out.cells
  go_wp2_with fail
  go_at_call 38
  refine (HT.out wA w2 Hq.out).mono ?_
  rintro e w3 ⟨r3, rfl, hq3⟩
  have Hq3 : Hid (Q' wA w3) := hq3
  clear d0 d1 d2 c0 c1 c2 c3 c4 c5 c6 c7 c8 c9 c10 c11 c12 hq3
  go_wp2_with fail
  go_ret
  exact ⟨rfl, wA, Hba.out, Hq3.out⟩
set_option maxRecDepth 10000 in
set_option maxHeartbeats 2000000 in
theorem lcallMoves {w : World} {x y s : Option Addr} (o : Ca) (h8 : o.kd ≠ 8) (h9 : o.kd ≠ 9) (h10 : o.kd ≠ 10) (h11 : o.kd ≠ 11) (h12 : o.kd ≠ 12) (h13 : o.kd ≠ 13) {Q : World → World → Prop}
    (hM : ∀ wA, Below w.heap.size w wA → Calls Tryz.prog 40 #[.agg (dkArr x y s), o.agg] wA fun e w' => e = .returned (.bool true) ∧ Q wA w') :
    Calls Tryz.prog 10 #[.agg (dkArr x y s), o.agg] w fun e w' => e = .returned (.bool true) ∧ ∃ wA, Below w.heap.size w wA ∧ Q wA w' := by
  obtain ⟨kd, on, A, B, C, E, F, tx, p⟩ := o
  dsimp only at h8 h9 h10 h11 h12 h13
  have q1 : (kd == 8) = false := by simpa using h8
  have q2 : (kd == 9) = false := by simpa using h9
  have q3 : (kd == 10) = false := by simpa using h10
  have q4 : (kd == 11) = false := by simpa using h11
  have q5 : (kd == 12) = false := by simpa using h12
  have q6 : (kd == 13) = false := by simpa using h13
  have HM : Hid (∀ wA, Below w.heap.size w wA → Calls Tryz.prog 40 #[.agg (dkArr x y s), Ca.agg ⟨kd, on, A, B, C, E, F, tx, p⟩] wA fun e w' => e = .returned (.bool true) ∧ Q wA w') := hM
  clear hM h8 h9 h10 h11 h12 h13
  have ba : Below w.heap.size w ((w.alloc (.cells (dkArr x y s) 28)).alloc (.cells (Ca.arr ⟨kd, on, A, B, C, E, F, tx, p⟩) 35)) := ((Below.refl _ _).alloc (Nat.le_refl _) _).alloc (by simp) _
  have Hd : Hid (DeAt ((w.alloc (.cells (dkArr x y s) 28)).alloc (.cells (Ca.arr ⟨kd, on, A, B, C, E, F, tx, p⟩) 35)) w.heap.size x y s) := by
    show _ = _
    rw [Below.heap_alloc _ _ _ (by simp)]; exact heap_new w _
  have Hc : Hid (CaAt ((w.alloc (.cells (dkArr x y s) 28)).alloc (.cells (Ca.arr ⟨kd, on, A, B, C, E, F, tx, p⟩) 35)) (w.heap.size + 1) ⟨kd, on, A, B, C, E, F, tx, p⟩) := by
    have := heap_new (w.alloc (.cells (dkArr x y s) 28)) (.cells (Ca.arr ⟨kd, on, A, B, C, E, F, tx, p⟩) 35)
    rw [size_alloc] at this
    exact this
  have Hba : Hid (Below w.heap.size w ((w.alloc (.cells (dkArr x y s) 28)).alloc (.cells (Ca.arr ⟨kd, on, A, B, C, E, F, tx, p⟩) 35))) := ba
  clear ba
  go_enter Tryz.func10, Tryz.ntmps10
  go_wp2_with fail
  generalize hwA : World.alloc (w.alloc _) _ = wA at *
  go_at_call 40
  refine (HM.out wA Hba.out).mono ?_
  rintro e w1 ⟨rfl, hq⟩
  have Hq : Hid (Q wA w1) := hq
  clear hq
  go_wp2_with fail
  go_ret
  exact ⟨rfl, wA, Hba.out, Hq.out⟩
end Go.Proofs.YtjlfibhbfdckpaaGreatDoor

/- The statement of pictures: one of its desks, or a nil one; look. -/
namespace Go.Proofs.YtjlfibhbfdckpaaGreatDoor
open Go.RowKit
attribute [local go_sem ↓] Go.wp_at_zero Go.wp_at_succ
def OAt (w : World) (O : Option Dv) (x y s : Option Addr) : Prop := match O with
  | none => x = none ∧ y = none ∧ s = none
  | some D => x = D.xp ∧ y = D.yp ∧ s = D.sp ∧ DvAt w D
def oOwn (O : Option Dv) (i : Nat) : Prop := match O with
  | none => False
  | some D => D.own i
section
variable {w w' : World} {O : Option Dv} {x y s : Option Addr}
theorem OAt.keep {F : Nat → Prop} (h : OAt w O x y s) (k : Keep F w w') (hF : ∀ i, oOwn O i → ¬ F i) : OAt w' O x y s := by
  cases O with
  | none => exact h
  | some D => exact ⟨h.1, h.2.1, h.2.2.1, h.2.2.2.keep k hF⟩
theorem OAt.below (h : OAt w O x y s) (b : Below w.heap.size w w') : OAt w' O x y s := h.keep (Keep.below (fun _ => False) b) (fun _ _ f => f)
theorem OAt.lt (h : OAt w O x y s) {i : Nat} (hi : oOwn O i) : i < w.heap.size := by
  cases O with
  | none => exact hi.elim
  | some D => exact h.2.2.2.lt hi
theorem oCell (h : OAt w O x y s) (a b : Int) : ∃ (c : Cel) (er : Int), (∀ w', OAt w' O x y s → Calls Tryz.prog 11 #[.pointer x, .int .i64 a, .int .i64 b] w' fun e w'' => e = .returned (.tuple #[c.agg, .int .i64 er]) ∧ Below w'.heap.size w' w'') ∧
    (∀ w', OAt w' O x y s → Calls Tryz.prog 39 #[.pointer y, .int .i64 a, .int .i64 b] w' fun e w'' => e = .returned (.tuple #[c.agg, .int .i64 er]) ∧ Below w'.heap.size w' w'') := by
  cases O with
  | none =>
    obtain ⟨rfl, rfl, rfl⟩ := h
    exact ⟨noC, 1, fun w' _ => kCellNil w' a b, fun w' _ => rdCellNil w' a b⟩
  | some D =>
    obtain ⟨rfl, rfl, rfl, h⟩ := h
    obtain ⟨rk, K, T⟩ := h.ok.tree
    obtain ⟨r, t, e, h0, h1, h2⟩ := T.head
    have hr : r ∈ D.L := by rw [e]; exact List.mem_cons_self
    have hr0 : D.L[0]? = some r := by rw [e]; rfl
    cases hin : inG r.W r.H a b with
    | false => exact ⟨noC, 4, fun w' q => kCellOff w' q.2.2.2.x r hr h0 a b hin, fun w' q => rdCellOff h.ok w' q.2.2.2.y r hr0 a b hin⟩
    | true =>
      obtain ⟨a1, a2, b1, b2⟩ := inG_iff.1 hin
      obtain ⟨a, rfl⟩ := Int.eq_ofNat_of_zero_le a1
      obtain ⟨b, rfl⟩ := Int.eq_ofNat_of_zero_le b1
      exact ⟨picP D.L K r a b, 0, fun w' q => kCell T h.ok w' q.2.2.2.x r hr h0 a b (by omega) (by omega), fun w' q => rdCell T h.ok w' q.2.2.2.y r hr0 a b hin⟩
set_option maxRecDepth 10000 in
set_option maxHeartbeats 4000000 in
theorem lLookD (h : OAt w O x y s) : Calls Tryz.prog 27 #[.agg (dkArr x y s)] w fun e w' => e = .returned (.bool true) ∧ Below w.heap.size w w' := by
  have HP : Hid (OAt w O x y s) := h
  have HcB : Hid (∀ (a b : Int), ∃ (c : Cel) (er : Int), (∀ w', OAt w' O x y s → Calls Tryz.prog 11 #[.pointer x, .int .i64 a, .int .i64 b] w' fun e w'' => e = .returned (.tuple #[c.agg, .int .i64 er]) ∧ Below w'.heap.size w' w'') ∧
    (∀ w', OAt w' O x y s → Calls Tryz.prog 39 #[.pointer y, .int .i64 a, .int .i64 b] w' fun e w'' => e = .returned (.tuple #[c.agg, .int .i64 er]) ∧ Below w'.heap.size w' w'')) := fun a b => oCell h a b
  clear h
  go_enter Tryz.func27, Tryz.ntmps27
  go_wp2_with fail
  have hbl : Below w.heap.size w (w.alloc (.cells (dkArr x y s) 28)) := (Below.refl _ _).alloc (Nat.le_refl _) _
  have HPp : Hid (DeAt (w.alloc (.cells (dkArr x y s) 28)) w.heap.size x y s) := heap_new w _
  replace HP : Hid (OAt (w.alloc (.cells (dkArr x y s) 28)) O x y s) := HP.out.below hbl
  have HB1 : Hid (Below w.heap.size w (w.alloc (.cells (dkArr x y s) 28))) := hbl
  obtain ⟨Bp, hBp⟩ : ∃ Bp, w.heap.size = Bp := ⟨_, rfl⟩
  generalize w.alloc (.cells (dkArr x y s) 28) = w0 at *
  rw [hBp] at HPp
  have HBp : Hid (w.heap.size = Bp) := hBp
  simp only [hBp]
  clear hbl hBp
  go_loopw [3] (fun i w' => ∃ k : Nat, k ≤ 22 ∧ i = .int .i64 ((k : Int) - 1) ∧ OAt w' O x y s ∧ DeAt w' Bp x y s ∧ Below w.heap.size w w') (fun i _ => 22 - (intOf i + 1).toNat)
  case atStart => exact ⟨0, by omega, rfl, HP.out, HPp.out, HB1.out⟩
  case round =>
    obtain ⟨k, hk, rfl, hP, hPp, hB⟩ := hrel
    clear HP HPp HB1
    have HP : Hid (OAt wr O x y s) := hP
    have HPp : Hid (DeAt wr Bp x y s) := hPp
    have HB1 : Hid (Below w.heap.size w wr) := hB
    clear hP hPp hB
    by_cases hlt : k ≤ 21
    · have hlt' : (k : Int) - 1 ≤ 20 := by omega
      have wk : IntKind.i64.wrap ((k : Int) - 1 + 1) = k := by rw [wrap_id _ (by omega) (by omega)]; omega
      go_wp2_with fail
      go_loopw [4] (fun i w' => ∃ j : Nat, j ≤ 42 ∧ i = .int .i64 ((j : Int) - 1) ∧ OAt w' O x y s ∧ DeAt w' Bp x y s ∧ Below w.heap.size w w') (fun i _ => 42 - (intOf i + 1).toNat)
      case atStart => exact ⟨0, by omega, rfl, HP.out, HPp.out, HB1.out⟩
      case round =>
        obtain ⟨j, hkj, rfl, hP, hPp, hB⟩ := hrel
        clear HP HPp HB1
        have HP : Hid (OAt wr O x y s) := hP
        have HPp : Hid (DeAt wr Bp x y s) := hPp
        have HB1 : Hid (Below w.heap.size w wr) := hB
        clear hP hPp hB
        by_cases hltj : j ≤ 41
        · have hltj' : (j : Int) - 1 ≤ 40 := by omega
          obtain ⟨q0, q1, q2⟩ := HPp.out.cells
          obtain ⟨c, er, hx, hy⟩ := HcB.out ((j : Int) - 1) ((k : Int) - 1)
          have Hx : Hid (∀ w', OAt w' O x y s → Calls Tryz.prog 11 #[.pointer x, .int .i64 ((j : Int) - 1), .int .i64 ((k : Int) - 1)] w' fun e w'' => e = .returned (.tuple #[c.agg, .int .i64 er]) ∧ Below w'.heap.size w' w'') := hx
          have Hy : Hid (∀ w', OAt w' O x y s → Calls Tryz.prog 39 #[.pointer y, .int .i64 ((j : Int) - 1), .int .i64 ((k : Int) - 1)] w' fun e w'' => e = .returned (.tuple #[c.agg, .int .i64 er]) ∧ Below w'.heap.size w' w'') := hy
          clear hx hy
          go_wp2_with fail
          clear q0 q1 q2
          go_at_call 11
          refine (Hx.out _ HP.out).mono ?_
          rintro e w3 ⟨rfl, b3⟩
          replace HP : Hid (OAt w3 O x y s) := HP.out.below b3
          replace HPp : Hid (DeAt w3 Bp x y s) := HPp.out.below b3
          replace HB1 : Hid (Below w.heap.size w w3) := HB1.out.trans (b3.mono HB1.out.size)
          clear b3
          obtain ⟨q0, q1, q2⟩ := HPp.out.cells
          have lq := HPp.out.lt
          go_wp2_with fail
          generalize hw4 : w3.alloc _ = w4
          have b4 : Below w3.heap.size w3 w4 := by rw [← hw4]; exact (Below.refl _ _).alloc (Nat.le_refl _) _
          have A4 : CelAt w4 w3.heap.size 0 c := by rw [← hw4]; exact cel_new' w3 c _ rfl _
          replace HP : Hid (OAt w4 O x y s) := HP.out.below b4
          replace HPp : Hid (DeAt w4 Bp x y s) := HPp.out.below b4
          replace HB1 : Hid (Below w.heap.size w w4) := HB1.out.trans (b4.mono HB1.out.size)
          have l4 : w3.heap.size < w4.heap.size := A4.lt
          generalize w3.heap.size = Bc at *
          clear b4 hw4 q0 q1 q2 lq
          go_at_call 39
          refine (Hy.out _ HP.out).mono ?_
          rintro e w5 ⟨rfl, b5⟩
          replace HP : Hid (OAt w5 O x y s) := HP.out.below b5
          replace HPp : Hid (DeAt w5 Bp x y s) := HPp.out.below b5
          replace HB1 : Hid (Below w.heap.size w w5) := HB1.out.trans (b5.mono HB1.out.size)
          obtain ⟨a0, a1, a2, a3, a4, a5, a6⟩ := A4.below b5 l4
          simp only [Nat.zero_add] at a1 a2 a3 a4 a5 a6
          replace l4 : Bc < w5.heap.size := Nat.lt_of_lt_of_le l4 b5.size
          clear b5 A4
          go_wp2_with fail
          exact ⟨⟨j + 1, by omega, by simp, HP.out.below ((Below.refl _ _).alloc (Nat.le_refl _) _), HPp.out.below ((Below.refl _ _).alloc (Nat.le_refl _) _), HB1.out.trans (((Below.refl _ _).alloc (Nat.le_refl _) _).mono HB1.out.size)⟩, by simp only [intOf]; omega⟩
        · have hltj' : ¬ (j : Int) - 1 ≤ 40 := by omega
          go_wp2_with fail
          exact ⟨⟨k + 1, by omega, by simp, HP.out, HPp.out, HB1.out⟩, by simp only [intOf]; omega⟩
    · have hlt' : ¬ (k : Int) - 1 ≤ 20 := by omega
      go_wp2_with fail
      go_ret
      exact ⟨rfl, HB1.out⟩
end
end Go.Proofs.YtjlfibhbfdckpaaGreatDoor

/- The statement of pictures: a call of any kind. -/
namespace Go.Proofs.YtjlfibhbfdckpaaGreatDoor
open Go.RowKit
attribute [local go_sem ↓] Go.wp_at_zero Go.wp_at_succ
set_option maxRecDepth 10000 in
set_option maxHeartbeats 2000000 in
theorem lcall12 {w : World} {O : Option Dv} {x y s : Option Addr} (h : OAt w O x y s) (on A B C E F : Int) (tx : ByteArray) (p : Pn) :
    Calls Tryz.prog 10 #[.agg (dkArr x y s), Ca.agg ⟨12, on, A, B, C, E, F, tx, p⟩] w fun e w' => e = .returned (.bool true) ∧ Below w.heap.size w w' := by
  have HP : Hid (OAt w O x y s) := h
  obtain ⟨c, er, hx, hy⟩ := oCell h A B
  have Hx : Hid (∀ w', OAt w' O x y s → Calls Tryz.prog 11 #[.pointer x, .int .i64 A, .int .i64 B] w' fun e w'' => e = .returned (.tuple #[c.agg, .int .i64 er]) ∧ Below w'.heap.size w' w'') := hx
  have Hy : Hid (∀ w', OAt w' O x y s → Calls Tryz.prog 39 #[.pointer y, .int .i64 A, .int .i64 B] w' fun e w'' => e = .returned (.tuple #[c.agg, .int .i64 er]) ∧ Below w'.heap.size w' w'') := hy
  clear h hx hy
  have ba : Below w.heap.size w ((w.alloc (.cells (dkArr x y s) 28)).alloc (.cells (Ca.arr ⟨12, on, A, B, C, E, F, tx, p⟩) 35)) := ((Below.refl _ _).alloc (Nat.le_refl _) _).alloc (by simp) _
  have Hd : Hid (DeAt ((w.alloc (.cells (dkArr x y s) 28)).alloc (.cells (Ca.arr ⟨12, on, A, B, C, E, F, tx, p⟩) 35)) w.heap.size x y s) := by
    show _ = _
    rw [Below.heap_alloc _ _ _ (by simp)]; exact heap_new w _
  have Hc : Hid (CaAt ((w.alloc (.cells (dkArr x y s) 28)).alloc (.cells (Ca.arr ⟨12, on, A, B, C, E, F, tx, p⟩) 35)) (w.heap.size + 1) ⟨12, on, A, B, C, E, F, tx, p⟩) := by
    have := heap_new (w.alloc (.cells (dkArr x y s) 28)) (.cells (Ca.arr ⟨12, on, A, B, C, E, F, tx, p⟩) 35)
    rw [size_alloc] at this
    exact this
  have Hba : Hid (Below w.heap.size w ((w.alloc (.cells (dkArr x y s) 28)).alloc (.cells (Ca.arr ⟨12, on, A, B, C, E, F, tx, p⟩) 35))) := ba
  clear ba
  replace HP : Hid (OAt ((w.alloc (.cells (dkArr x y s) 28)).alloc (.cells (Ca.arr ⟨12, on, A, B, C, E, F, tx, p⟩) 35)) O x y s) := HP.out.below Hba.out
  go_enter Tryz.func10, Tryz.ntmps10
  go_wp2_with fail
  generalize hwA : World.alloc (w.alloc _) _ = wA at *
  clear hwA
  go_at_call 11
  refine (Hx.out wA HP.out).mono ?_
  rintro e w3 ⟨rfl, b3⟩
  replace HP : Hid (OAt w3 O x y s) := HP.out.below b3
  replace Hd : Hid (DeAt w3 w.heap.size x y s) := Hd.out.below b3
  replace Hc : Hid (CaAt w3 (w.heap.size + 1) ⟨12, on, A, B, C, E, F, tx, p⟩) := Hc.out.below b3
  replace Hba : Hid (Below w.heap.size w w3) := Hba.out.trans (b3.mono Hba.out.size)
  obtain ⟨d0, d1, d2⟩ := Hd.out.cells
  obtain ⟨c0, c1, c2, c3, c4, c5, c6, c7, c8, c9, c10, c11, c12⟩ := Hc.out.cells
  have l1 := Hd.out.lt
  have l2 := Hc.out.lt
  clear b3
  go_wp2_with fail
  generalize hw4 : w3.alloc _ = w4
  have b4 : Below w3.heap.size w3 w4 := by rw [← hw4]; exact (Below.refl _ _).alloc (Nat.le_refl _) _
  have A4 : CelAt w4 w3.heap.size 0 c := by rw [← hw4]; exact cel_new' w3 c _ rfl _
  replace HP : Hid (OAt w4 O x y s) := HP.out.below b4
  replace Hba : Hid (Below w.heap.size w w4) := Hba.out.trans (b4.mono Hba.out.size)
  have l4 : w3.heap.size < w4.heap.size := A4.lt
  generalize w3.heap.size = Bc at *
  clear b4 hw4 d0 d1 d2 c0 c1 c2 c3 c4 c5 c6 c7 c8 c9 c10 c11 c12 l1 l2
  go_at_call 39
  refine (Hy.out _ HP.out).mono ?_
  rintro e w5 ⟨rfl, b5⟩
  replace Hba : Hid (Below w.heap.size w w5) := Hba.out.trans (b5.mono Hba.out.size)
  obtain ⟨a0, a1, a2, a3, a4, a5, a6⟩ := A4.below b5 l4
  simp only [Nat.zero_add] at a1 a2 a3 a4 a5 a6
  replace l4 : Bc < w5.heap.size := Nat.lt_of_lt_of_le l4 b5.size
  clear b5 A4
  go_wp2_with fail
  go_ret
  exact ⟨rfl, Hba.out.trans (((Below.refl _ _).alloc (Nat.le_refl _) _).mono Hba.out.size)⟩
end Go.Proofs.YtjlfibhbfdckpaaGreatDoor
