/- Texts of the proof, one behind the other: PgF, PgG, PgH, PgI, PgJ, PgK. -/
import Derived.Test.YtjlfibhbfdckpaaGreatDoorK02
import Derived.Test.YtjlfibhbfdckpaaGreatDoorK06
import Derived.Laws.IdiomCopy
import Derived.OwnWalk
/- The program's grid: Erase, Put. -/
namespace Go.Proofs.YtjlfibhbfdckpaaGreatDoor
open Go.RowKit
attribute [local go_sem ↓] Go.wp_at_zero Go.wp_at_succ
theorem keepC {F : Nat → Prop} {w w' : World} (h : Keep F w w') {b : Nat} (hb : b < w.heap.size) (hF : ¬ F b) : ∀ o, w'.cell? ⟨b, o, none⟩ = w.cell? ⟨b, o, none⟩ := fun o => cell_same (h.block b hb hF) o
def eraseX (W : Nat) (x0 x1 : Int) (y : Nat) (p : Pn) (G : Nat → Nat → Cel) : Nat → Nat → Cel :=
  wrt G (fun a b => decide (b = y) && decide (x0 ≤ a) && decide ((a : Int) < x1) && decide (a < W)) (fun _ _ => blk p)
set_option maxHeartbeats 2000000 in
theorem pErase (bg g W H N : Nat) (G : Nat → Nat → Cel) (x0 x1 : Int) (y : Nat) (p : Pn) (w : World) (h : GrAt w bg g W H N G) (hw : Wf W H G) (hy : y < H) :
    Calls Tryz.prog 140 #[.pointer (some ⟨bg, 0, none⟩), .int .i64 x0, .int .i64 x1, .int .i64 y, p.agg] w fun e w' => e = .returned (.tuple #[]) ∧ GrAt w' bg g W H N (eraseX W x0 x1 y p G) ∧ Keep (fun i => i = g) w w' := by
  have HG : Hid (GrAt w bg g W H N G) := h
  have c0 := h.c0
  have w1 := h.w1
  have w2 := h.w2
  clear h
  go_enter Tryz.func140, Tryz.ntmps140
  go_wp2_with fail
  have hb1 : Below w.heap.size w (w.alloc (.cells #[.int .i64 p.f, .int .i64 p.b, .bool p.bo, .bool p.un, .bool p.re] 33)) := (Below.refl _ _).alloc (Nat.le_refl _) _
  have G1 := HG.out.below hb1
  have K1 : Keep (fun i => i = g) w (w.alloc (.cells #[.int .i64 p.f, .int .i64 p.b, .bool p.bo, .bool p.un, .bool p.re] 33)) := Keep.below _ hb1
  have P1 := pen_new w p 33
  have s1 : w.heap.size < (w.alloc (.cells #[.int .i64 p.f, .int .i64 p.b, .bool p.bo, .bool p.un, .bool p.re] 33)).heap.size := by simp
  generalize w.alloc (.cells #[.int .i64 p.f, .int .i64 p.b, .bool p.bo, .bool p.un, .bool p.re] 33) = wa at *
  have hgb := HG.out.glt
  have Hne : Hid (w.heap.size ≠ g) := by show _ ≠ _; omega
  clear hb1 c0 HG s1 hgb
  have c0 := G1.c0
  have HG1 : Hid (GrAt wa bg g W H N G) := G1
  clear G1
  go_at_call 139
  refine (pGreatest _ _ _).mono ?_
  rintro e w' ⟨rfl, hw'⟩
  replace hw' := hw'.symm
  subst hw'
  have Hf : Hid (greatestI x0 0 = if 0 ≤ x0 then x0 else 0) := by show _ = _; unfold greatestI; split <;> split <;> omega
  have hf0 : 0 ≤ greatestI x0 0 := by rw [Hf.out]; split <;> omega
  have Ht : Hid (leastI x1 W = if x1 ≤ W then x1 else W) := by show _ = _; unfold leastI; split <;> split <;> omega
  have ht : leastI x1 W ≤ W := by rw [Ht.out]; split <;> omega
  obtain ⟨f, hf⟩ : ∃ f : Nat, greatestI x0 0 = f := ⟨_, (Int.toNat_of_nonneg hf0).symm⟩
  rw [hf] at Hf
  rw [hf]
  clear hf0 hf
  generalize hto : leastI x1 W = to at *
  obtain ⟨p0, p1, p2, p3, p4⟩ := P1
  by_cases hlt : (f : Int) < to
  · obtain ⟨t, rfl⟩ : ∃ t : Nat, to = t := ⟨to.toNat, by omega⟩
    go_wp2_with (first | (go_at_call 138; refine (pLeast _ _ _).mono ?_; rintro e w' ⟨rfl, hw'⟩; replace hw' := hw'.symm; subst hw'; rw [hto]))
    obtain ⟨m, hm⟩ : ∃ m, y * W = m := ⟨_, rfl⟩
    have hmw : m + W ≤ N := by rw [← hm, HG1.out.hN]; have := Nat.mul_le_mul_right W hy; rw [Nat.succ_mul] at this; exact this
    obtain ⟨cp, hcp, hd2⟩ := HG1.out.c2
    have Hd2 : Hid (wa.drew.cell? ⟨bg, 2, none⟩ = some (.slice (some ⟨g, 0, none⟩) N cp)) := hd2
    clear hd2
    obtain ⟨r, hr⟩ : ∃ r, m + r = cp := ⟨cp - m, by omega⟩
    have nle := HG1.out.nle
    have np : ¬ w.heap.size = g := Hne.out
    have lp : w.heap.size < wa.heap.size := World.block_lt_of_cell? _ _ p0
    generalize hB : w.heap.size = Bp at *
    have HD : Hid (GrAt wa.drew bg g W H N G) := HG1.out.same rfl rfl
    go_region_held3 (fun w' => w'.cell? ⟨Bp, 0, none⟩ = some (.int .i64 p.f) ∧ w'.cell? ⟨Bp, 1, none⟩ = some (.int .i64 p.b) ∧ w'.cell? ⟨Bp, 2, none⟩ = some (.bool p.bo) ∧ w'.cell? ⟨Bp, 3, none⟩ = some (.bool p.un) ∧ w'.cell? ⟨Bp, 4, none⟩ = some (.bool p.re)) (simp [*]) (first | (go_at_call 155; refine (pPart bg g W H N G f t y m r _ HD.out hy hm cp hcp Hd2.out hr (by omega) (by omega)).mono ?_; rintro e w5 ⟨rfl, F5, K5⟩; have e1 := keepC K5 lp np; have lp5 := Nat.lt_of_lt_of_le lp K5.size) | (go_at_call 148; refine (pFill g N (m + f) (t - f) (r - f) _ _ p _ F5 (fun _ => rfl) (by omega) nle (by omega)).mono ?_; rintro e w6 ⟨rfl, F6, K6⟩; have e2 := keepC K6 lp5 np))
    go_wp2_with fail
    go_end0
    have K6' : Keep (fun i => i = g) wa w6 := (((Keep.refl _ wa).drew).trans K5 (fun _ _ h => h)).trans K6 (fun _ _ h => h)
    refine ⟨rfl, HG1.out.with F6 K6' ((part_wrt hw (x0 := f) (x1 := t) (y := y) (by omega) (by omega) hy (fun _ => blk p) (fun i => ?_)).trans (wr_dom hw (fun a b ha hb => ?_) (fun _ _ _ _ _ => rfl))), K1.trans K6' (fun _ _ h => h)⟩
    · rw [hm]
      unfold fillF
      by_cases e : m + f ≤ i ∧ i < m + t
      · rw [if_pos (by omega), if_pos e]
      · rw [if_neg (by omega), if_neg e]
    · have := Hf.out
      have := Ht.out
      rw [Bool.eq_iff_iff, stretch_iff]
      simp
      split at * <;> split at * <;> omega
  · go_wp2_with (first | (go_at_call 138; refine (pLeast _ _ _).mono ?_; rintro e w' ⟨rfl, hw'⟩; replace hw' := hw'.symm; subst hw'; rw [hto]))
    go_end0
    refine ⟨rfl, HG1.out.congr (fun a b ha hb => ?_), K1⟩
    have no : ∀ a b, (decide (b = y) && decide (x0 ≤ (a : Nat)) && decide ((a : Int) < x1) && decide (a < W)) = false := by
      intro a b
      have := Hf.out
      have := Ht.out
      rw [Bool.eq_false_iff]
      simp
      intro _ _ _
      split at * <;> split at * <;> omega
    unfold eraseX wrt
    simp only [no]
    simp
end Go.Proofs.YtjlfibhbfdckpaaGreatDoor

/- The program's grid: Put. -/
namespace Go.Proofs.YtjlfibhbfdckpaaGreatDoor
open Go.RowKit
open Wd (wd)
attribute [local go_sem ↓] Go.wp_at_zero Go.wp_at_succ
def putCel (r : Int) (p : Pn) (x : Nat) : Nat → Cel := fun a => if wd r = 2 then (if a = x then ⟨r, 1, p⟩ else ⟨r, 2, p⟩) else ⟨r, 0, p⟩
def putX (r : Int) (p : Pn) (x y : Nat) (G : Nat → Nat → Cel) : Nat → Nat → Cel :=
  wrt G (stretch x (x + (if wd r = 2 then 2 else 1)) y) (fun a _ => putCel r p x a)
set_option maxHeartbeats 300000 in
theorem pPut2 (bg g W H N : Nat) (G : Nat → Nat → Cel) (x y : Nat) (r : Int) (p : Pn) (w : World) (h : GrAt w bg g W H N G) (hw : Wf W H G) (hy : y < H) (hr : wd r = 2) (hx : x + 2 ≤ W) :
    Calls Tryz.prog 168 #[.pointer (some ⟨bg, 0, none⟩), .int .i64 x, .int .i64 y, .int .i32 r, p.agg] w fun e w' => e = .returned (.tuple #[]) ∧ GrAt w' bg g W H N (putX r p x y G) ∧ Keep (fun i => i = g) w w' := by
  have HG : Hid (GrAt w bg g W H N G) := h
  have w1 := h.w1
  have w2 := h.w2
  clear h
  go_enter Tryz.func168, Tryz.ntmps168
  go_wp2_with fail
  have hb1 : Below w.heap.size w (w.alloc (.cells #[.int .i64 p.f, .int .i64 p.b, .bool p.bo, .bool p.un, .bool p.re] 33)) := (Below.refl _ _).alloc (Nat.le_refl _) _
  have G1 := HG.out.below hb1
  have K1 : Keep (fun i => i = g) w (w.alloc (.cells #[.int .i64 p.f, .int .i64 p.b, .bool p.bo, .bool p.un, .bool p.re] 33)) := Keep.below _ hb1
  have P1 := pen_new w p 33
  generalize w.alloc (.cells #[.int .i64 p.f, .int .i64 p.b, .bool p.bo, .bool p.un, .bool p.re] 33) = wa at *
  have hgb := HG.out.glt
  have np : ¬ w.heap.size = g := by omega
  have lp : w.heap.size < wa.heap.size := P1.lt
  generalize hB : w.heap.size = Bp at *
  clear hb1 HG hgb
  have HG1 : Hid (GrAt wa bg g W H N G) := G1
  have HP1 : Hid (PenAt wa Bp 0 p) := P1
  clear G1 P1
  go_at_call 129
  refine (Wd.lettersWidth _ _).mono ?_
  rintro e w' ⟨rfl, hw'⟩
  replace hw' := hw'.symm
  subst hw'
  rw [hr]
  obtain ⟨m, hm⟩ : ∃ m, y * W = m := ⟨_, rfl⟩
  have hmw : m + W ≤ N := by rw [← hm, HG1.out.hN]; have := Nat.mul_le_mul_right W hy; rw [Nat.succ_mul] at this; exact this
  obtain ⟨cp, hcp, hd2⟩ := HG1.out.c2
  obtain ⟨k, hk⟩ : ∃ k, m + k = cp := ⟨cp - m, by omega⟩
  have nle := HG1.out.nle
  go_wp2_with fail
  rw [show ((x : Int) + 2) = ((x + 2 : Nat) : Int) by omega]
  go_at_call 155
  refine (pPart bg g W H N G x (x + 2) y m k _ HG1.out hy hm cp hcp hd2 hk (by omega) (by omega)).mono ?_
  rintro e w5 ⟨rfl, F5, K5⟩
  rw [show x + 2 - x = 2 by omega]
  have P5 := HP1.out.keep K5 np
  have HF5 : Hid (Flat w5 g N (partF (lin W G) m W x (x + 2))) := F5
  have HP5 : Hid (PenAt w5 Bp 0 p) := P5
  clear F5 P5 HP1 lp
  obtain ⟨o, ho⟩ : ∃ o, (m + x) * 7 = o := ⟨_, rfl⟩
  rw [ho]
  have t5 := HF5.out.cel (m + x) (by omega)
  have q5 := HF5.out.cel (m + x + 1) (by omega)
  have fr5 := HF5.out.free
  rw [ho] at t5
  rw [show (m + x + 1) * 7 = o + 7 by omega] at q5
  obtain ⟨p0, p1, p2, p3, p4⟩ := HP5.out
  obtain ⟨t0, t1, t2, t3, t4, t5, t6⟩ := t5
  obtain ⟨q0, q1, q2, q3, q4, q5, q6⟩ := q5
  simp only [Nat.add_assoc, Nat.reduceAdd, Nat.zero_add] at p1 p2 p3 p4 q1 q2 q3 q4 q5 q6
  have np' : ¬ g = Bp := fun e => np e.symm
  go_wp2_with fail
  have R1 := HF5.out.put (i := m + x) (by omega) (⟨r, 1, p⟩ : Cel)
  rw [ho] at R1
  have R2 := R1.put (i := m + x + 1) (by omega) (⟨r, 2, p⟩ : Cel)
  rw [show (m + x + 1) * 7 = o + 7 by omega] at R2
  have K6 := (K5.put7 g o (⟨r, 1, p⟩ : Cel) (fun _ => rfl)).put7 g (o + 7) (⟨r, 2, p⟩ : Cel) (fun _ => rfl)
  refine bodyPost_ret (v := .tuple #[]) (by simp [results, Tryz.results168, go_sem]) rfl ⟨rfl, HG1.out.with R2 K6 ?_, K1.trans K6 (fun _ _ h => h)⟩
  unfold putX
  rw [hr]
  refine part_wrt hw (x0 := x) (x1 := x + 2) (y := y) (by omega) (by omega) hy (putCel r p x) (fun i => ?_)
  rw [hm]
  unfold updF putCel
  rw [hr]
  by_cases e1 : i = m + x + 1
  · rw [if_pos e1, if_pos (by omega), if_pos rfl, if_neg (by omega)]
  · rw [if_neg e1]
    by_cases e2 : i = m + x
    · rw [if_pos e2, if_pos (by omega), if_pos rfl, if_pos (by omega)]
    · rw [if_neg e2, if_neg (by omega)]
set_option maxHeartbeats 300000 in
theorem pPut1 (bg g W H N : Nat) (G : Nat → Nat → Cel) (x y : Nat) (r : Int) (p : Pn) (w : World) (h : GrAt w bg g W H N G) (hw : Wf W H G) (hy : y < H) (hr : wd r = 1) (hx : x < W) :
    Calls Tryz.prog 168 #[.pointer (some ⟨bg, 0, none⟩), .int .i64 x, .int .i64 y, .int .i32 r, p.agg] w fun e w' => e = .returned (.tuple #[]) ∧ GrAt w' bg g W H N (putX r p x y G) ∧ Keep (fun i => i = g) w w' := by
  have HG : Hid (GrAt w bg g W H N G) := h
  have w1 := h.w1
  have w2 := h.w2
  clear h
  go_enter Tryz.func168, Tryz.ntmps168
  go_wp2_with fail
  have hb1 : Below w.heap.size w (w.alloc (.cells #[.int .i64 p.f, .int .i64 p.b, .bool p.bo, .bool p.un, .bool p.re] 33)) := (Below.refl _ _).alloc (Nat.le_refl _) _
  have G1 := HG.out.below hb1
  have K1 : Keep (fun i => i = g) w (w.alloc (.cells #[.int .i64 p.f, .int .i64 p.b, .bool p.bo, .bool p.un, .bool p.re] 33)) := Keep.below _ hb1
  have P1 := pen_new w p 33
  generalize w.alloc (.cells #[.int .i64 p.f, .int .i64 p.b, .bool p.bo, .bool p.un, .bool p.re] 33) = wa at *
  have hgb := HG.out.glt
  have np : ¬ w.heap.size = g := by omega
  have lp : w.heap.size < wa.heap.size := P1.lt
  generalize hB : w.heap.size = Bp at *
  clear hb1 HG hgb
  have HG1 : Hid (GrAt wa bg g W H N G) := G1
  have HP1 : Hid (PenAt wa Bp 0 p) := P1
  clear G1
  go_at_call 129
  refine (Wd.lettersWidth _ _).mono ?_
  rintro e w' ⟨rfl, hw'⟩
  replace hw' := hw'.symm
  subst hw'
  rw [hr]
  obtain ⟨m, hm⟩ : ∃ m, y * W = m := ⟨_, rfl⟩
  have hmw : m + W ≤ N := by rw [← hm, HG1.out.hN]; have := Nat.mul_le_mul_right W hy; rw [Nat.succ_mul] at this; exact this
  obtain ⟨cp, hcp, hd2⟩ := HG1.out.c2
  obtain ⟨k, hk⟩ : ∃ k, m + k = cp := ⟨cp - m, by omega⟩
  have nle := HG1.out.nle
  obtain ⟨p0, p1, p2, p3, p4⟩ := P1
  simp only [Nat.zero_add] at p1 p2 p3 p4
  go_wp2_with fail
  obtain ⟨o, ho⟩ : ∃ o, (m + x) * 7 = o := ⟨_, rfl⟩
  have F1 := HG1.out.flat
  have t1 := F1.cel (m + x) (by omega)
  rw [ho] at t1
  obtain ⟨t0, t1, t2, t3, t4, t5, t6⟩ := t1
  have fr := F1.free
  clear F1
  have np' : ¬ g = Bp := fun e => np e.symm
  have HD : Hid (GrAt wa.drew bg g W H N G) := HG1.out.same rfl rfl
  have Hx1 : Hid ((x : Int) + 1 = ((x + 1 : Nat) : Int)) := by show _ = _; omega
  have hw1 : IntKind.i64.wrap ((x : Int) + 1) = (x : Int) + 1 := wrap_id _ (by omega) (by omega)
  go_region_held3 (fun w' => w'.cell? ⟨Bp, 0, none⟩ = some (.int .i64 p.f) ∧ w'.cell? ⟨Bp, 1, none⟩ = some (.int .i64 p.b) ∧ w'.cell? ⟨Bp, 2, none⟩ = some (.bool p.bo) ∧ w'.cell? ⟨Bp, 3, none⟩ = some (.bool p.un) ∧ w'.cell? ⟨Bp, 4, none⟩ = some (.bool p.re) ∧ (w'.cell? ⟨g, o, none⟩).isSome = true ∧ (w'.cell? ⟨g, o + 1, none⟩).isSome = true ∧ (w'.cell? ⟨g, o + 2, none⟩).isSome = true ∧ (w'.cell? ⟨g, o + 3, none⟩).isSome = true ∧ (w'.cell? ⟨g, o + 4, none⟩).isSome = true ∧ (w'.cell? ⟨g, o + 5, none⟩).isSome = true ∧ (w'.cell? ⟨g, o + 6, none⟩).isSome = true ∧ (∀ o, w'.frozen? ⟨g, o, none⟩ = false)) (simp [*, World.cell?_setCell_far, isSome_set]) (first | (go_at_call 155; rw [Hx1.out]; refine (pPart bg g W H N G x (x + 1) y m k _ HD.out hy hm cp hcp hd2 hk (by omega) (by omega)).mono ?_; rintro e w5 ⟨rfl, F5, K5⟩; rw [show x + 1 - x = 1 by omega, ho]; have e1 := keepC K5 lp np; have u5 := F5.cel (m + x) (by omega); rw [ho] at u5; obtain ⟨u0, u1, u2, u3, u4, u5, u6⟩ := u5; have fr5 := F5.free))
  go_wp2_with fail
  go_end0
  have R1 := F5.put (i := m + x) (by omega) (⟨r, 0, p⟩ : Cel)
  rw [ho] at R1
  have K6 := (((Keep.refl (fun i => i = g) wa).drew).trans K5 (fun _ _ h => h)).put7 g o (⟨r, 0, p⟩ : Cel) (fun _ => rfl)
  refine ⟨rfl, HG1.out.with R1 K6 ?_, K1.trans K6 (fun _ _ h => h)⟩
  unfold putX
  rw [hr]
  refine part_wrt hw (x0 := x) (x1 := x + 1) (y := y) (by omega) (by omega) hy (putCel r p x) (fun i => ?_)
  rw [hm]
  unfold updF putCel
  rw [hr]
  by_cases e2 : i = m + x
  · rw [if_pos e2, if_pos (by omega), if_neg (by decide)]
  · rw [if_neg e2, if_neg (by omega)]
end Go.Proofs.YtjlfibhbfdckpaaGreatDoor

/- The program's grid: New. -/
namespace Go.Proofs.YtjlfibhbfdckpaaGreatDoor
open Go.RowKit
attribute [local go_sem ↓] Go.wp_at_zero Go.wp_at_succ
theorem wpList_make_at {P : Program} (w : World) {ops : Array Oper} {rest : List Oper} {o : Oper} {a : Act} {Q : Exit → Act → World → Prop}
    (hg : o.guard = none) (l c : Operand) (t : TypeId) (hop : o.op = Op.makeSlice t l c)
    (e : TypeId) (z : Value) (size bytes : Nat) (h1 : P.underlying t = some (.slice e)) (h2 : (P.info? e).map (fun i => (i.zero, i.size, i.bytes)) = some (some z, size, bytes))
    (n : Nat) (hl : a.eval l = .int .i64 n) (hc : a.eval c = .int .i64 n) (hn : n ≤ 800) (hb : bytes ≤ 1000)
    (hK : wpList P ops Q rest (a.put o.dst (.slice (some ⟨w.heap.size, 0, none⟩) n n)) (w.alloc (.cells (madeCells z.cells (n * size)) e))) :
    wpList P ops Q (o :: rest) a w := by
  refine wpList_plain hg fun K hK' => ?_
  cases hi : P.info? e with
  | none => rw [hi] at h2; simp at h2
  | some i =>
    rw [hi] at h2
    simp at h2
    have hbb : i.bytes * n ≤ 1000 * 800 := Nat.mul_le_mul (by omega) hn
    have hbi : (i.bytes : Int) * (n : Int) ≤ 281474976710656 := by
      rw [← Int.natCast_mul]; omega
    have hrun := run_make (P := P) w t e i z h1 hi h2.1 .i64 .i64 n n (by omega) (by omega) hbi (by omega)
    rw [h2.2.1] at hrun
    unfold Oper.wp
    simp [execOp, hop, hl, hc, hrun, Result.andThen]
    exact hK' _ _ hK
theorem made_flat (w : World) (n : Nat) (t : TypeId) : Flat (w.alloc (.cells (madeCells #[.int .i32 0, .int .i64 0, .int .i64 0, .int .i64 0, .bool false, .bool false, .bool false] (n * 7)) t)) w.heap.size n (fun _ => ⟨0, 0, Pn.plain⟩) := by
  have key : ∀ i j, i < n → j < 7 → (w.alloc (.cells (madeCells #[.int .i32 0, .int .i64 0, .int .i64 0, .int .i64 0, .bool false, .bool false, .bool false] (n * 7)) t)).cell? ⟨w.heap.size, i * 7 + j, none⟩ = some ((#[.int .i32 0, .int .i64 0, .int .i64 0, .int .i64 0, .bool false, .bool false, .bool false] : Array Value)[j]!) := by
    intro i j hi hj
    rw [cell_of_block (heap_new w _)]
    unfold madeCells
    rw [Array.getElem?_map, Array.getElem?_range, if_pos (by omega)]
    simp only [Option.map_some]
    rw [show (i * 7 + j) % (#[.int .i32 0, .int .i64 0, .int .i64 0, .int .i64 0, .bool false, .bool false, .bool false] : Array Value).size = j by simp; omega]
  refine ⟨fun i hi => ?_, fun o => frozen_of_block (heap_new w _) o⟩
  exact ⟨key i 0 hi (by omega), key i 1 hi (by omega), key i 2 hi (by omega), key i 3 hi (by omega), key i 4 hi (by omega), key i 5 hi (by omega), key i 6 hi (by omega)⟩
theorem cellInfo : (Tryz.prog.info? 38).map (fun i => (i.zero, i.size, i.bytes)) = some (some (.agg #[.int .i32 0, .int .i64 0, .int .i64 0, .int .i64 0, .bool false, .bool false, .bool false]), 7, 40) := by kernel_rfl
set_option maxHeartbeats 300000 in
theorem pNew (W H : Nat) (w : World) (w1 : 1 ≤ W) (w2 : W ≤ 40) (h1 : 1 ≤ H) (h2 : H ≤ 20) :
    Calls Tryz.prog 108 #[.int .i64 W, .int .i64 H] w fun e w' => ∃ bg g, e = .returned (.pointer (some ⟨bg, 0, none⟩)) ∧ GrAt w' bg g W H (H * W) (fun _ _ => blk Pn.plain) ∧ Below w.heap.size w w' ∧ w.heap.size ≤ bg ∧ w.heap.size ≤ g := by
  obtain ⟨N, hN⟩ : ∃ N, H * W = N := ⟨_, rfl⟩
  have hmul : (W : Int) * H = N := by rw [← hN, Int.natCast_mul, Int.mul_comm]
  have nle : N ≤ 800 := by rw [← hN]; exact Nat.mul_le_mul h2 w2
  have n1 : 1 ≤ N := by rw [← hN]; exact Nat.mul_le_mul h1 w1
  have hw1 : IntKind.i64.wrap ((W : Int) * (H : Int)) = (N : Int) := by rw [hmul]; exact wrap_id _ (by omega) (by omega)
  have HN : Hid (H * W = N) := hN
  rw [hN]
  clear hN
  go_enter Tryz.func108, Tryz.ntmps108
  go_wp2_with (at_make; go_must (refine wpList_make_at _ rfl _ _ 120 rfl 38 _ 7 40 Tryz.underlying120 cellInfo N (by rfl) (by rfl) nle (by omega) ?_))
  have hf := made_flat w N 38
  have hb1 : Below w.heap.size w (w.alloc (.cells (madeCells #[.int .i32 0, .int .i64 0, .int .i64 0, .int .i64 0, .bool false, .bool false, .bool false] (N * 7)) 38)) := (Below.refl _ _).alloc (Nat.le_refl _) _
  have s1 : (w.alloc (.cells (madeCells #[.int .i32 0, .int .i64 0, .int .i64 0, .int .i64 0, .bool false, .bool false, .bool false] (N * 7)) 38)).heap.size = w.heap.size + 1 := size_alloc _ _
  generalize w.alloc (.cells (madeCells #[.int .i32 0, .int .i64 0, .int .i64 0, .int .i64 0, .bool false, .bool false, .bool false] (N * 7)) 38) = wa at *
  have hn := heap_new wa (.cells #[.int .i64 W, .int .i64 H, .slice (some ⟨w.heap.size, 0, none⟩) N N] 166)
  rw [s1] at hn
  have hf2 := hf.same (w' := wa.alloc (.cells #[.int .i64 W, .int .i64 H, .slice (some ⟨w.heap.size, 0, none⟩) N N] 166)) (Below.heap_alloc _ _ _ (by omega))
  have hb2 := hb1.alloc (by omega) (.cells #[.int .i64 W, .int .i64 H, .slice (some ⟨w.heap.size, 0, none⟩) N N] 166)
  generalize wa.alloc (.cells #[.int .i64 W, .int .i64 H, .slice (some ⟨w.heap.size, 0, none⟩) N N] 166) = wb at *
  clear hf hb1
  go_at_call 148
  refine (pFill w.heap.size N 0 N N _ _ Pn.plain _ hf2 (fun _ => rfl) (by omega) nle (by omega)).mono ?_
  rintro e w3 ⟨rfl, F3, K3⟩
  have h3 : w3.heap[w.heap.size + 1]? = some (.cells #[.int .i64 W, .int .i64 H, .slice (some ⟨w.heap.size, 0, none⟩) N N] 166) := by
    rw [K3.block _ (Array.getElem?_eq_some_iff.1 hn).1 (by omega)]; exact hn
  go_wp2_with fail
  go_ret
  have F4 := F3
  rw [← HN.out] at F4
  refine ⟨w.heap.size + 1, w.heap.size, rfl, ⟨⟨N, Nat.le_refl _, h3⟩, ⟨fun x y hx hy => ?_, F4.free⟩, HN.out.symm, by omega, w1, w2, h1, h2⟩, hb2.trans (K3.toBelow hb2.size (fun i hi => by omega)), by omega, by omega⟩
  have := F4.grid.cel x y hx hy
  unfold unlin fillF at this
  have pl := place_lt hx hy
  rw [if_pos (by have := HN.out; omega)] at this
  exact this
end Go.Proofs.YtjlfibhbfdckpaaGreatDoor

/- copy of rows of cells. -/
namespace Go.Proofs.YtjlfibhbfdckpaaGreatDoor
open Go.RowKit
def copyF (L M : Nat → Cel) (d s k : Nat) : Nat → Cel := fun i => if d ≤ i ∧ i < d + k then M (s + (i - d)) else L i
def rowOf (M : Nat → Cel) (s k : Nat) : List Cel := (List.range k).map (fun i => M (s + i))
theorem rowOf_length (M : Nat → Cel) (s k : Nat) : (rowOf M s k).length = k := by simp [rowOf]
theorem rowOf_at (M : Nat → Cel) (s k i : Nat) (h : i < k) : (rowOf M s k)[i]? = some (M (s + i)) := by simp [rowOf, h]
theorem vals_len (c : Cel) : c.vals.length = 7 := rfl
theorem flat_get (L : List Cel) (j : Nat) (v : Value) (h : (flat L)[j]? = some v) : ∃ c, L[j / 7]? = some c ∧ c.vals[j % 7]? = some v := by
  have hj : j < L.length * 7 := by
    rw [← flat_length]
    rcases Nat.lt_or_ge j (flat L).length with l | l
    · exact l
    · rw [List.getElem?_eq_none l] at h; simp at h
  have hd : j / 7 < L.length := by omega
  have hc : L[j / 7]? = some L[j / 7] := List.getElem?_eq_getElem hd
  have hm : j % 7 < L[j / 7].vals.length := by rw [vals_len]; omega
  refine ⟨_, hc, ?_⟩
  have := flat_at L (j / 7) _ hc (j % 7) _ (List.getElem?_eq_getElem hm)
  rw [show j / 7 * 7 + j % 7 = j by omega, h] at this
  rw [List.getElem?_eq_getElem hm]
  exact this.symm
theorem CelAt.get {w : World} {g o : Nat} {c : Cel} (h : CelAt w g o c) {j : Nat} {v : Value} (hv : c.vals[j]? = some v) : w.cell? ⟨g, o + j, none⟩ = some v := by
  obtain ⟨h0, h1, h2, h3, h4, h5, h6⟩ := h
  match j, hv with
  | 0, hv => simp at hv; subst hv; exact h0
  | 1, hv => simp at hv; subst hv; exact h1
  | 2, hv => simp at hv; subst hv; exact h2
  | 3, hv => simp at hv; subst hv; exact h3
  | 4, hv => simp at hv; subst hv; exact h4
  | 5, hv => simp at hv; subst hv; exact h5
  | 6, hv => simp at hv; subst hv; exact h6
  | j + 7, hv => simp at hv
theorem Flat.setCells {w : World} {g n : Nat} {L : Nat → Cel} (h : Flat w g n L) (M : Nat → Cel) (d s k : Nat) (hk : d + k ≤ n) : Flat (w.setCells g (d * 7) (flat (rowOf M s k))) g n (copyF L M d s k) := by
  have len : (flat (rowOf M s k)).length = k * 7 := by rw [flat_length, rowOf_length]
  have there : ∀ j, j < (flat (rowOf M s k)).length → (w.cell? ⟨g, d * 7 + j, none⟩).isSome = true := by
    intro j hj
    rw [len] at hj
    have c := h.cel (d + j / 7) (by omega)
    have hm : j % 7 < (L (d + j / 7)).vals.length := by rw [vals_len]; omega
    have := c.get (List.getElem?_eq_getElem hm)
    rw [show (d + j / 7) * 7 + j % 7 = d * 7 + j by omega] at this
    rw [this]; rfl
  refine ⟨fun i hi => ?_, fun o => by rw [World.frozen?_setCells]; exact h.free o⟩
  unfold copyF
  by_cases e : d ≤ i ∧ i < d + k
  · rw [if_pos e]
    have key : ∀ j (v : Value), j < 7 → (M (s + (i - d))).vals[j]? = some v → (w.setCells g (d * 7) (flat (rowOf M s k))).cell? ⟨g, i * 7 + j, none⟩ = some v := by
      intro j v hj hv
      have hl : (i - d) * 7 + j < (flat (rowOf M s k)).length := by rw [len]; omega
      have a := World.cell?_setCells_in g (flat (rowOf M s k)) (d * 7) w there ((i - d) * 7 + j) hl
      rw [show d * 7 + ((i - d) * 7 + j) = i * 7 + j by omega] at a
      rw [a, ← List.getElem?_eq_getElem hl]
      exact flat_at _ _ _ (rowOf_at M s k (i - d) (by omega)) j v hv
    exact ⟨key 0 _ (by omega) rfl, key 1 _ (by omega) rfl, key 2 _ (by omega) rfl, key 3 _ (by omega) rfl, key 4 _ (by omega) rfl, key 5 _ (by omega) rfl, key 6 _ (by omega) rfl⟩
  · rw [if_neg e]
    have key : ∀ j, j < 7 → (w.setCells g (d * 7) (flat (rowOf M s k))).cell? ⟨g, i * 7 + j, none⟩ = w.cell? ⟨g, i * 7 + j, none⟩ := fun j hj =>
      World.cell?_setCells_out g _ _ _ _ (fun _ _ => by rw [len]; simp; omega)
    have := h.cel i hi
    simp only [CelAt] at this ⊢
    rw [show i * 7 = i * 7 + 0 by omega, key 0 (by omega)]
    simp only [Nat.add_zero]
    rw [key 1 (by omega), key 2 (by omega), key 3 (by omega), key 4 (by omega), key 5 (by omega), key 6 (by omega)]
    exact this
theorem Keep.setCells {F : Nat → Prop} {a : World} (g : Nat) (hp : g < a.heap.size → F g) : ∀ (vs : List Value) (o : Nat) {b : World}, Keep F a b → Keep F a (b.setCells g o vs)
  | [], _, _, h => h
  | _ :: r, o, _, h => Keep.setCells g hp r (o + 1) (h.setCell ⟨g, o, none⟩ _ hp)
theorem flat_oneCell (L : List Cel) : ∀ v ∈ flat L, v.oneCell' = true := by
  intro v hv
  simp [flat] at hv
  obtain ⟨c, _, h⟩ := hv
  rcases h with h | h | h | h | h | h | h <;> (subst h; rfl)
theorem run_copy_cel {P : Program} (w : World) (dT sT ty elem : TypeId) (g gs n ns : Nat) (L M : Nat → Cel) (d s dLen dCap sLen sCap k : Nat)
    (hu : P.underlying dT = some (.slice elem)) (hs : (P.info? elem).map (·.size) = some 7) (hn : k = Nat.min sLen dLen) (hd : Flat w g n L) (hsrc : Flat w gs ns M) (h1 : d + k ≤ n) (h2 : s + k ≤ ns) :
    (Builtin.copy_ #[dT, sT] ty #[.slice (some ⟨g, d * 7, none⟩) dLen dCap, .slice (some ⟨gs, s * 7, none⟩) sLen sCap]).run P w = .ok (goInt k) (w.setCells g (d * 7) (flat (rowOf M s k))) := by
  have len : (flat (rowOf M s k)).length = k * 7 := by rw [flat_length, rowOf_length]
  have hl := run_loadCells_list (P := P) w ⟨gs, s * 7, none⟩ (flat (rowOf M s k)) (fun j v hv => by
    obtain ⟨c, hc, hv'⟩ := flat_get _ _ _ hv
    have hj : j / 7 < k := by
      rcases Nat.lt_or_ge (j / 7) (rowOf M s k).length with l | l
      · rwa [rowOf_length] at l
      · rw [List.getElem?_eq_none l] at hc; simp at hc
    rw [rowOf_at _ _ _ _ hj] at hc
    cases hc
    have := (hsrc.cel (s + j / 7) (by omega)).get hv'
    rw [show (s + j / 7) * 7 + j % 7 = s * 7 + j by omega] at this
    have e : (⟨gs, s * 7, none⟩ : Addr).add j = ⟨gs, s * 7 + j, none⟩ := by unfold Addr.add; split <;> simp_all
    rw [e]; exact this)
  have hst := run_storeCells_cells (P := P) g (d * 7) (flat (rowOf M s k)) 0 w (fun j hj => by
    rw [len] at hj
    have c := hd.cel (d + j / 7) (by omega)
    have hm : j % 7 < (L (d + j / 7)).vals.length := by rw [vals_len]; omega
    have := c.get (List.getElem?_eq_getElem hm)
    rw [show (d + j / 7) * 7 + j % 7 = d * 7 + 0 + j by omega] at this
    rw [this]; rfl) (fun j _ => hd.free _) (flat_oneCell _)
  rw [len] at hl
  cases hq : P.info? elem with
  | none => simp [hq] at hs
  | some i =>
    have hi : i.size = 7 := by simpa [hq] using hs
    simp [Builtin.copy_, run_underlying hu, Builtin.lenOf, Builtin.firstCells, sizeOf, typeInfo, hq, hi, ← hn, hl, hst]
end Go.Proofs.YtjlfibhbfdckpaaGreatDoor

/- copy of rows of cells, as a law for the walk. -/
namespace Go.Proofs.YtjlfibhbfdckpaaGreatDoor
open Go.RowKit
theorem copyF_none (L M : Nat → Cel) (d s : Nat) : copyF L M d s 0 = L := by
  funext i; unfold copyF; rw [if_neg (by omega)]
theorem run_copy_no {P : Program} (w : World) (dT sT ty elem : TypeId) (d a : Option Addr) (dLen dCap sLen sCap : Nat) (hu : P.underlying dT = some (.slice elem)) (hs : (P.info? elem).map (·.size) = some 7) (hn : Nat.min sLen dLen = 0) :
    (Builtin.copy_ #[dT, sT] ty #[.slice d dLen dCap, .slice a sLen sCap]).run P w = .ok (goInt 0) w := by
  cases hq : P.info? elem with
  | none => simp [hq] at hs
  | some i =>
    have hl : ∀ (x : Addr), (loadCells x 0).run P w = .ok #[] w := fun x => by simpa using run_loadCells_list (P := P) w x [] (by simp)
    cases d <;> cases a <;> simp [Builtin.copy_, run_underlying hu, Builtin.lenOf, Builtin.firstCells, sizeOf, typeInfo, hq, hn, storeCells, hl]
theorem cellSize : (Tryz.prog.info? 38).map (·.size) = some 7 := by kernel_rfl
end Go.Proofs.YtjlfibhbfdckpaaGreatDoor

/- The program's grid: Scroll. -/
namespace Go.Proofs.YtjlfibhbfdckpaaGreatDoor
open Go.RowKit
attribute [local go_sem ↓] Go.wp_at_zero Go.wp_at_succ
def scrollF (L : Nat → Cel) (m k : Nat) (s : Int) (p : Pn) : Nat → Cel :=
  if 0 ≤ s then fillF (copyF L L m (m + s.toNat) (k - s.toNat)) (m + (k - s.toNat)) s.toNat p
  else fillF (copyF L L (m + (-s).toNat) m (k - (-s).toNat)) m (-s).toNat p
theorem run_copy_any {P : Program} (w : World) (dT sT ty elem : TypeId) (g gs n ns : Nat) (L M : Nat → Cel) (dp sp : Option Addr) (d s dLen dCap sLen sCap k : Nat)
    (hu : P.underlying dT = some (.slice elem)) (hs : (P.info? elem).map (·.size) = some 7) (hn : k = Nat.min sLen dLen) (hd : Flat w g n L) (hsrc : Flat w gs ns M)
    (hpos : 0 < k → dp = some ⟨g, d * 7, none⟩ ∧ sp = some ⟨gs, s * 7, none⟩ ∧ d + k ≤ n ∧ s + k ≤ ns) :
    ∃ w', (Builtin.copy_ #[dT, sT] ty #[.slice dp dLen dCap, .slice sp sLen sCap]).run P w = .ok (goInt k) w' ∧ Flat w' g n (copyF L M d s k) ∧ Keep (fun i => i = g) w w' := by
  by_cases h0 : k = 0
  · subst h0
    exact ⟨w, run_copy_no w dT sT ty elem dp sp dLen dCap sLen sCap hu hs hn.symm, by rw [copyF_none]; exact hd, Keep.refl _ _⟩
  · obtain ⟨rfl, rfl, b1, b2⟩ := hpos (by omega)
    exact ⟨_, run_copy_cel w dT sT ty elem g gs n ns L M d s dLen dCap sLen sCap k hu hs hn hd hsrc b1 b2, hd.setCells M d s k b1, Keep.setCells (F := fun i => i = g) g (fun _ => rfl) _ _ (Keep.refl _ _)⟩
set_option maxRecDepth 10000 in
set_option maxHeartbeats 600000 in
theorem pScroll (bg g W H N : Nat) (G : Nat → Nat → Cel) (top bot m k c : Nat) (n b s : Int) (p : Pn) (w : World) (h : GrAt w bg g W H N G) (ht : top ≤ bot) (hb : bot < H) (hc : top + c = bot + 1) (hm : top * W = m) (hk : c * W = k) (hk1 : 0 < k) (hbt : betweenI n (-c) c = b) (hs : b * W = s) :
    Calls Tryz.prog 141 #[.pointer (some ⟨bg, 0, none⟩), .int .i64 top, .int .i64 bot, .int .i64 n, p.agg] w fun e w' => e = .returned (.tuple #[]) ∧ Flat w' g N (scrollF (lin W G) m k s p) ∧ Keep (fun i => i = g) w w' := by
  have HG : Hid (GrAt w bg g W H N G) := h
  have w1 := h.w1
  have w2 := h.w2
  have h2 := h.h2
  have nle := h.nle
  have hb1 : -(c : Int) ≤ b ∧ b ≤ c := by rw [← hbt]; unfold betweenI greatestI leastI; split <;> split <;> omega
  have hkm : m + k ≤ N := by
    rw [h.hN, ← hm, ← hk, ← Nat.add_mul]; exact Nat.mul_le_mul_right W (by omega)
  have hs1 : -(k : Int) ≤ s ∧ s ≤ k := by
    rw [← hs, ← hk, Int.natCast_mul]
    constructor
    · rw [← Int.neg_mul]; exact Int.mul_le_mul_of_nonneg_right hb1.1 (by omega)
    · exact Int.mul_le_mul_of_nonneg_right hb1.2 (by omega)
  have e1 : (top : Int) * W = m := by rw [← hm]; simp
  have e2 : ((bot : Int) + 1) * W = m + k := by
    rw [show (bot : Int) + 1 = top + c by omega, Int.add_mul, e1, ← hk]; simp
  have e3 : (bot : Int) - top + 1 = c := by omega
  obtain ⟨hs1, hs2⟩ := hs1
  obtain ⟨hb1, hb2⟩ := hb1
  clear h hm hk
  go_enter Tryz.func141, Tryz.ntmps141
  go_wp2_with fail
  have hbl : Below w.heap.size w (w.alloc (.cells #[.int .i64 p.f, .int .i64 p.b, .bool p.bo, .bool p.un, .bool p.re] 33)) := (Below.refl _ _).alloc (Nat.le_refl _) _
  have G1 := HG.out.below hbl
  have K1 : Keep (fun i => i = g) w (w.alloc (.cells #[.int .i64 p.f, .int .i64 p.b, .bool p.bo, .bool p.un, .bool p.re] 33)) := Keep.below _ hbl
  have P1 := pen_new w p 33
  generalize w.alloc (.cells #[.int .i64 p.f, .int .i64 p.b, .bool p.bo, .bool p.un, .bool p.re] 33) = wa at *
  have hgb := HG.out.glt
  have np : ¬ w.heap.size = g := by omega
  generalize hB : w.heap.size = Bp at *
  clear hbl HG hgb
  have c0 := G1.c0
  obtain ⟨cp0, hcp0, c2⟩ := G1.c2
  have HG1 : Hid (GrAt wa bg g W H N G) := G1
  have HP1 : Hid (PenAt wa Bp 0 p) := P1
  clear G1 P1
  go_quiet ((go_at_call 156; exact Calls.quiet_of_same (pBetween _ _ _ _)))
  have G2 : GrAt (wa.drewN nq) bg g W H N G := HG1.out.same rfl rfl
  have P2 : PenAt (wa.drewN nq) Bp 0 p := HP1.out.same rfl
  have K2 : Keep (fun i => i = g) w (wa.drewN nq) := K1.drewN nq
  generalize wa.drewN nq = wb at *
  clear HG1 HP1 K1 c0 c2 hcp0
  have c0 := G2.c0
  obtain ⟨cp, hcp, c2⟩ := G2.c2
  have HG2 : Hid (GrAt wb bg g W H N G) := G2
  have HP2 : Hid (PenAt wb Bp 0 p) := P2
  clear G2 P2
  go_wp2_with fail
  go_quiet (fail)
  rw [show m + k - m = k by omega]
  have HF3 : Hid (Flat (wb.drewN nq) g N (lin W G)) := HG2.out.flat.same rfl
  have HP3 : Hid (PenAt (wb.drewN nq) Bp 0 p) := HP2.out.same rfl
  have K3 : Keep (fun i => i = g) w (wb.drewN nq) := K2.drewN nq
  generalize wb.drewN nq = wd at *
  clear HG2 HP2 K2 c0 c2 hbt e1 e2 e3 hc hb1 hb2 hs
  have hk8 : k ≤ 800 := by omega
  obtain ⟨r, hr⟩ : ∃ r, cp - m = r := ⟨_, rfl⟩
  have hkr : k ≤ r := by omega
  have hNm : ¬ cp = m := by omega
  have hr0 : ¬ r = 0 := by omega
  rw [hr]
  by_cases hs0 : 0 ≤ s
  · obtain ⟨q, rfl⟩ := Int.eq_ofNat_of_zero_le hs0
    obtain ⟨z, hz⟩ : ∃ z, k - q = z := ⟨_, rfl⟩
    have hq1 : q ≤ k := by omega
    have hzq : k - z = q := by omega
    have hqz : q + z = k := by omega
    have mn : Nat.min z k = z := Nat.min_eq_left (by omega)
    have hzi : IntKind.i64.wrap ((k : Int) - (q : Int)) = (z : Int) := by rw [wrap_id _ (by omega) (by omega)]; omega
    have z3 : (z : Int) ≤ (k : Int) := by omega
    have z1 : (0 : Int) ≤ z := by omega
    have Hqz : Hid (q + z = k) := hqz
    clear hqz
    by_cases hq : r = q
    · have Hz0 : Hid (z = 0) := by show z = 0; omega
      have hrz : ¬ r = z := by omega
      subst hq
      go_wp2_with fail
      obtain ⟨w5, hrun, F5, K45⟩ := run_copy_any (P := Tryz.prog) wd 120 120 3 38 g g N N (lin W G) (lin W G) (some ⟨g, m * 7, none⟩) (some ⟨g, m * 7, none⟩) m (m + r) k r z 0 z Tryz.underlying120 cellSize mn.symm HF3.out HF3.out (fun h => by have := Hz0.out; omega)
      rw [hrun]
      have HF5 : Hid (Flat w5 g N (copyF (lin W G) (lin W G) m (m + r) z)) := F5
      have K5 : Keep (fun i => i = g) w w5 := K3.trans K45 (fun _ _ h => h)
      have HP5 : Hid (PenAt w5 Bp 0 p) := HP3.out.keep K45 np
      clear hrun F5 K45 HF3 HP3 K3
      go_wp2_with fail
      obtain ⟨p0, p1, p2, p3, p4⟩ := HP5.out
      simp only [Nat.zero_add] at p1 p2 p3 p4
      have lp5 : Bp < w5.heap.size := World.block_lt_of_cell? _ _ p0
      have HF6 : Hid (Flat w5.drew g N (copyF (lin W G) (lin W G) m (m + r) z)) := HF5.out.same rfl
      go_region_held3 (fun w' => w'.cell? ⟨Bp, 0, none⟩ = some (.int .i64 p.f) ∧ w'.cell? ⟨Bp, 1, none⟩ = some (.int .i64 p.b) ∧ w'.cell? ⟨Bp, 2, none⟩ = some (.bool p.bo) ∧ w'.cell? ⟨Bp, 3, none⟩ = some (.bool p.un) ∧ w'.cell? ⟨Bp, 4, none⟩ = some (.bool p.re)) (simp [*]) (first | (go_at_call 148; refine (pFill g N (m + z) r (r - z) _ _ p _ HF6.out (fun _ => by rw [show (m + z) * 7 = m * 7 + z * 7 by omega]) (by omega) nle (by omega)).mono ?_; rintro e w6 ⟨rfl, F6, K6⟩; have e2 := keepC K6 lp5 np))
      go_wp2_with fail
      refine bodyPost_ret (v := .tuple #[]) (by simp [results, Tryz.results141, go_sem]) rfl ⟨rfl, ?_, (K5.drew).trans K6 (fun _ _ h => h)⟩
      unfold scrollF
      rw [if_pos (by omega), Int.toNat_natCast, hz]
      exact F6
    · go_wp2_with fail
      obtain ⟨w5, hrun, F5, K45⟩ := run_copy_any (P := Tryz.prog) wd 120 120 3 38 g g N N (lin W G) (lin W G) (some ⟨g, m * 7, none⟩) (some ⟨g, m * 7 + q * 7, none⟩) m (m + q) k r z (r - q) z Tryz.underlying120 cellSize mn.symm HF3.out HF3.out (fun h => ⟨rfl, by rw [show (m + q) * 7 = m * 7 + q * 7 by omega], by omega, by have := Hqz.out; omega⟩)
      rw [hrun]
      have HF5 : Hid (Flat w5 g N (copyF (lin W G) (lin W G) m (m + q) z)) := F5
      have K5 : Keep (fun i => i = g) w w5 := K3.trans K45 (fun _ _ h => h)
      have HP5 : Hid (PenAt w5 Bp 0 p) := HP3.out.keep K45 np
      clear hrun F5 K45 HF3 HP3 K3
      go_wp2_with fail
      obtain ⟨p0, p1, p2, p3, p4⟩ := HP5.out
      simp only [Nat.zero_add] at p1 p2 p3 p4
      have lp5 : Bp < w5.heap.size := World.block_lt_of_cell? _ _ p0
      have HF6 : Hid (Flat w5.drew g N (copyF (lin W G) (lin W G) m (m + q) z)) := HF5.out.same rfl
      by_cases hrz : r = z
      · have Hq0 : Hid (q = 0) := by show q = 0; omega
        go_region_held3 (fun w' => w'.cell? ⟨Bp, 0, none⟩ = some (.int .i64 p.f) ∧ w'.cell? ⟨Bp, 1, none⟩ = some (.int .i64 p.b) ∧ w'.cell? ⟨Bp, 2, none⟩ = some (.bool p.bo) ∧ w'.cell? ⟨Bp, 3, none⟩ = some (.bool p.un) ∧ w'.cell? ⟨Bp, 4, none⟩ = some (.bool p.re)) (simp [*]) (first | (go_at_call 148; refine (pFill g N (m + z) q _ _ _ p _ HF6.out (fun h => by have := Hq0.out; omega) (by omega) nle (by omega)).mono ?_; rintro e w6 ⟨rfl, F6, K6⟩; have e2 := keepC K6 lp5 np))
        go_wp2_with fail
        refine bodyPost_ret (v := .tuple #[]) (by simp [results, Tryz.results141, go_sem]) rfl ⟨rfl, ?_, (K5.drew).trans K6 (fun _ _ h => h)⟩
        unfold scrollF
        rw [if_pos (by omega), Int.toNat_natCast, hz]
        exact F6
      · skip
        go_region_held3 (fun w' => w'.cell? ⟨Bp, 0, none⟩ = some (.int .i64 p.f) ∧ w'.cell? ⟨Bp, 1, none⟩ = some (.int .i64 p.b) ∧ w'.cell? ⟨Bp, 2, none⟩ = some (.bool p.bo) ∧ w'.cell? ⟨Bp, 3, none⟩ = some (.bool p.un) ∧ w'.cell? ⟨Bp, 4, none⟩ = some (.bool p.re)) (simp [*]) (first | (go_at_call 148; refine (pFill g N (m + z) q (r - z) _ _ p _ HF6.out (fun _ => by rw [show (m + z) * 7 = m * 7 + z * 7 by omega]) (by omega) nle (by omega)).mono ?_; rintro e w6 ⟨rfl, F6, K6⟩; have e2 := keepC K6 lp5 np))
        go_wp2_with fail
        refine bodyPost_ret (v := .tuple #[]) (by simp [results, Tryz.results141, go_sem]) rfl ⟨rfl, ?_, (K5.drew).trans K6 (fun _ _ h => h)⟩
        unfold scrollF
        rw [if_pos (by omega), Int.toNat_natCast, hz]
        exact F6
  · obtain ⟨q, rfl⟩ : ∃ q : Nat, s = -(q : Int) := ⟨(-s).toNat, by omega⟩
    obtain ⟨z, hz⟩ : ∃ z, k - q = z := ⟨_, rfl⟩
    have hq1 : q ≤ k := by omega
    have hq0 : 0 < q := by omega
    have mn : Nat.min k z = z := Nat.min_eq_right (by omega)
    have hqi : IntKind.i64.wrap (-(-(q : Int))) = (q : Int) := by rw [wrap_id _ (by omega) (by omega)]; omega
    have hqj : IntKind.i64.wrap (q : Int) = (q : Int) := wrap_id _ (by omega) (by omega)
    have z3 : (q : Int) ≤ (k : Int) := by omega
    have z1 : (0 : Int) ≤ q := by omega
    have z4 : (q : Int) ≤ (r : Int) := by omega
    by_cases hq : r = q
    · have Hz0 : Hid (z = 0) := by show z = 0; omega
      subst hq
      go_wp2_with fail
      obtain ⟨w5, hrun, F5, K45⟩ := run_copy_any (P := Tryz.prog) wd 120 120 3 38 g g N N (lin W G) (lin W G) (some ⟨g, m * 7, none⟩) (some ⟨g, m * 7, none⟩) (m + r) m z 0 k r z Tryz.underlying120 cellSize mn.symm HF3.out HF3.out (fun h => by have := Hz0.out; omega)
      rw [hrun]
      have HF5 : Hid (Flat w5 g N (copyF (lin W G) (lin W G) (m + r) m z)) := F5
      have K5 : Keep (fun i => i = g) w w5 := K3.trans K45 (fun _ _ h => h)
      have HP5 : Hid (PenAt w5 Bp 0 p) := HP3.out.keep K45 np
      clear hrun F5 K45 HF3 HP3 K3
      go_wp2_with fail
      obtain ⟨p0, p1, p2, p3, p4⟩ := HP5.out
      simp only [Nat.zero_add] at p1 p2 p3 p4
      have lp5 : Bp < w5.heap.size := World.block_lt_of_cell? _ _ p0
      have HF6 : Hid (Flat w5.drew g N (copyF (lin W G) (lin W G) (m + r) m z)) := HF5.out.same rfl
      go_region_held3 (fun w' => w'.cell? ⟨Bp, 0, none⟩ = some (.int .i64 p.f) ∧ w'.cell? ⟨Bp, 1, none⟩ = some (.int .i64 p.b) ∧ w'.cell? ⟨Bp, 2, none⟩ = some (.bool p.bo) ∧ w'.cell? ⟨Bp, 3, none⟩ = some (.bool p.un) ∧ w'.cell? ⟨Bp, 4, none⟩ = some (.bool p.re)) (simp [*]) (first | (go_at_call 148; refine (pFill g N m r r _ _ p _ HF6.out (fun _ => rfl) (by omega) nle (by omega)).mono ?_; rintro e w6 ⟨rfl, F6, K6⟩; have e2 := keepC K6 lp5 np))
      go_wp2_with fail
      go_end0
      refine ⟨rfl, ?_, (K5.drew).trans K6 (fun _ _ h => h)⟩
      unfold scrollF
      rw [if_neg (by omega), Int.neg_neg, Int.toNat_natCast, hz]
      exact F6
    · go_wp2_with fail
      obtain ⟨w5, hrun, F5, K45⟩ := run_copy_any (P := Tryz.prog) wd 120 120 3 38 g g N N (lin W G) (lin W G) (some ⟨g, m * 7 + q * 7, none⟩) (some ⟨g, m * 7, none⟩) (m + q) m z (r - q) k r z Tryz.underlying120 cellSize mn.symm HF3.out HF3.out (fun h => ⟨by rw [show (m + q) * 7 = m * 7 + q * 7 by omega], rfl, by omega, by omega⟩)
      rw [hrun]
      have HF5 : Hid (Flat w5 g N (copyF (lin W G) (lin W G) (m + q) m z)) := F5
      have K5 : Keep (fun i => i = g) w w5 := K3.trans K45 (fun _ _ h => h)
      have HP5 : Hid (PenAt w5 Bp 0 p) := HP3.out.keep K45 np
      clear hrun F5 K45 HF3 HP3 K3
      go_wp2_with fail
      obtain ⟨p0, p1, p2, p3, p4⟩ := HP5.out
      simp only [Nat.zero_add] at p1 p2 p3 p4
      have lp5 : Bp < w5.heap.size := World.block_lt_of_cell? _ _ p0
      have HF6 : Hid (Flat w5.drew g N (copyF (lin W G) (lin W G) (m + q) m z)) := HF5.out.same rfl
      go_region_held3 (fun w' => w'.cell? ⟨Bp, 0, none⟩ = some (.int .i64 p.f) ∧ w'.cell? ⟨Bp, 1, none⟩ = some (.int .i64 p.b) ∧ w'.cell? ⟨Bp, 2, none⟩ = some (.bool p.bo) ∧ w'.cell? ⟨Bp, 3, none⟩ = some (.bool p.un) ∧ w'.cell? ⟨Bp, 4, none⟩ = some (.bool p.re)) (simp [*]) (first | (go_at_call 148; refine (pFill g N m q r _ _ p _ HF6.out (fun _ => rfl) (by omega) nle (by omega)).mono ?_; rintro e w6 ⟨rfl, F6, K6⟩; have e2 := keepC K6 lp5 np))
      go_wp2_with fail
      go_end0
      refine ⟨rfl, ?_, (K5.drew).trans K6 (fun _ _ h => h)⟩
      unfold scrollF
      rw [if_neg (by omega), Int.neg_neg, Int.toNat_natCast, hz]
      exact F6
end Go.Proofs.YtjlfibhbfdckpaaGreatDoor
