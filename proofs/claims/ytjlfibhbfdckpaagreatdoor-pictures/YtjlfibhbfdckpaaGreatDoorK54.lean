/- Texts of the proof, one behind the other: PcF, PcG, Pk, PcZ. -/
import Derived.Test.YtjlfibhbfdckpaaGreatDoorK11
import Derived.Test.YtjlfibhbfdckpaaGreatDoorK53
/- The statement of pictures: a call of any kind. -/
namespace Go.Proofs.YtjlfibhbfdckpaaGreatDoor
open Go.RowKit
attribute [local go_sem ↓] Go.wp_at_zero Go.wp_at_succ
set_option maxRecDepth 10000 in
set_option maxHeartbeats 2000000 in
theorem lcall12 {w : World} {O : Option Dv} {x y s : Option Addr} (h : OAt w O x y s) (on A B C E F : Int) (tx : ByteArray) (p : Pn) :
    Calls Tryz.prog 10 #[.agg (dkArr x y s), Ca.agg ⟨12, on, A, B, C, E, F, tx, p⟩] w fun e w' => e = .returned (.bool true) ∧ Below w.heap.size w w' := by
  have HP : Hid (OAt w O x y s) := h
  obtain ⟨c, er, hx, hy⟩ := oCell h A B
  have Hx : Hid (∀ w', OAt w' O x y s → Calls Tryz.prog 11 #[.pointer x, .int .i64 A, .int .i64 B] w' fun e w'' => e = .returned (.tuple #[c.agg, .int .i64 er]) ∧ Below w'.heap.size w' w'') := hx
  have Hy : Hid (∀ w', OAt w' O x y s → Calls Tryz.prog 39 #[.pointer y, .int .i64 A, .int .i64 B] w' fun e w'' => e = .returned (.tuple #[c.agg, .int .i64 er]) ∧ Below w'.heap.size w' w'') := hy
  clear h hx hy
  have ba : Below w.heap.size w ((w.alloc (.cells (dkArr x y s) 28)).alloc (.cells (Ca.arr ⟨12, on, A, B, C, E, F, tx, p⟩) 35)) := ((Below.refl _ _).alloc (Nat.le_refl _) _).alloc (by simp) _
  have Hd : Hid (DeAt ((w.alloc (.cells (dkArr x y s) 28)).alloc (.cells (Ca.arr ⟨12, on, A, B, C, E, F, tx, p⟩) 35)) w.heap.size x y s) := by
    show _ = _
    rw [Below.heap_alloc _ _ _ (by simp)]; exact heap_new w _
  have Hc : Hid (CaAt ((w.alloc (.cells (dkArr x y s) 28)).alloc (.cells (Ca.arr ⟨12, on, A, B, C, E, F, tx, p⟩) 35)) (w.heap.size + 1) ⟨12, on, A, B, C, E, F, tx, p⟩) := by
    have := heap_new (w.alloc (.cells (dkArr x y s) 28)) (.cells (Ca.arr ⟨12, on, A, B, C, E, F, tx, p⟩) 35)
    rw [size_alloc] at this
    exact this
  have Hba : Hid (Below w.heap.size w ((w.alloc (.cells (dkArr x y s) 28)).alloc (.cells (Ca.arr ⟨12, on, A, B, C, E, F, tx, p⟩) 35))) := ba
  clear ba
  replace HP : Hid (OAt ((w.alloc (.cells (dkArr x y s) 28)).alloc (.cells (Ca.arr ⟨12, on, A, B, C, E, F, tx, p⟩) 35)) O x y s) := HP.out.below Hba.out
  go_enter Tryz.func10, Tryz.ntmps10
  go_wp2_with fail
  generalize hwA : World.alloc (w.alloc _) _ = wA at *
  clear hwA
  go_at_call 11
  refine (Hx.out wA HP.out).mono ?_
  rintro e w3 ⟨rfl, b3⟩
  replace HP : Hid (OAt w3 O x y s) := HP.out.below b3
  replace Hd : Hid (DeAt w3 w.heap.size x y s) := Hd.out.below b3
  replace Hc : Hid (CaAt w3 (w.heap.size + 1) ⟨12, on, A, B, C, E, F, tx, p⟩) := Hc.out.below b3
  replace Hba : Hid (Below w.heap.size w w3) := Hba.out.trans (b3.mono Hba.out.size)
  obtain ⟨d0, d1, d2⟩ := Hd.out.cells
  obtain ⟨c0, c1, c2, c3, c4, c5, c6, c7, c8, c9, c10, c11, c12⟩ := Hc.out.cells
  have l1 := Hd.out.lt
  have l2 := Hc.out.lt
  clear b3
  go_wp2_with fail
  generalize hw4 : w3.alloc _ = w4
  have b4 : Below w3.heap.size w3 w4 := by rw [← hw4]; exact (Below.refl _ _).alloc (Nat.le_refl _) _
  have A4 : CelAt w4 w3.heap.size 0 c := by rw [← hw4]; exact cel_new' w3 c _ rfl _
  replace HP : Hid (OAt w4 O x y s) := HP.out.below b4
  replace Hba : Hid (Below w.heap.size w w4) := Hba.out.trans (b4.mono Hba.out.size)
  have l4 : w3.heap.size < w4.heap.size := A4.lt
  generalize w3.heap.size = Bc at *
  clear b4 hw4 d0 d1 d2 c0 c1 c2 c3 c4 c5 c6 c7 c8 c9 c10 c11 c12 l1 l2
  go_at_call 39
  refine (Hy.out _ HP.out).mono ?_
  rintro e w5 ⟨rfl, b5⟩
  replace Hba : Hid (Below w.heap.size w w5) := Hba.out.trans (b5.mono Hba.out.size)
  obtain ⟨a0, a1, a2, a3, a4, a5, a6⟩ := A4.below b5 l4
  simp only [Nat.zero_add] at a1 a2 a3 a4 a5 a6
  replace l4 : Bc < w5.heap.size := Nat.lt_of_lt_of_le l4 b5.size
  clear b5 A4
  go_wp2_with fail
  go_ret
  exact ⟨rfl, Hba.out.trans (((Below.refl _ _).alloc (Nat.le_refl _) _).mono Hba.out.size)⟩
end Go.Proofs.YtjlfibhbfdckpaaGreatDoor

/- The statement of pictures: a step of any kind, on a desk or a nil one. -/
namespace Go.Proofs.YtjlfibhbfdckpaaGreatDoor
open Go.RowKit
def oLast (O : Option Dv) : Int := match O with
  | none => 0
  | some D => D.last
/-- What a step leaves of a desk, or of a nil one. -/
def OPost (w : World) (O : Option Dv) (x y s : Option Addr) (e : Ending) (w' : World) : Prop :=
  ∃ O', e = .returned (.bool true) ∧ OAt w' O' x y s ∧ Keep (oOwn O) w w' ∧ (∀ i, oOwn O' i → oOwn O i ∨ w.heap.size ≤ i) ∧ oLast O' ≤ oLast O + 1
theorem DvPost.opost {w w' : World} {D D' : Dv} (h : DvPost w D D' w') (hl : D'.last ≤ D.last + 1) : OPost w (some D) D.xp D.yp D.sp (.returned (.bool true)) w' :=
  ⟨some D', rfl, ⟨h.xp.symm, h.yp.symm, h.sp.symm, h.dv⟩, h.keep, h.own, hl⟩
theorem opost_nil {w w' : World} (b : Below w.heap.size w w') : OPost w none none none none (.returned (.bool true)) w' :=
  ⟨none, rfl, ⟨rfl, rfl, rfl⟩, Keep.below _ b, fun _ hi => hi.elim, by show (0 : Int) ≤ 0 + 1; omega⟩
theorem opost_stay {w w' : World} {O : Option Dv} {x y s : Option Addr} (h : OAt w O x y s) (b : Below w.heap.size w w') : OPost w O x y s (.returned (.bool true)) w' :=
  ⟨O, rfl, h.below b, Keep.below _ b, fun _ hi => .inl hi, by omega⟩
theorem Both.nil {fx fy : Nat} {a : Option Addr → Array Value} {r : Value} (hx : ∀ w, Calls Tryz.prog fx (a none) w fun e w' => e = .returned r ∧ Below w.heap.size w w') (hy : ∀ w, Calls Tryz.prog fy (a none) w fun e w' => e = .returned r ∧ Below w.heap.size w w') (wA : World) :
    Both fx fy a none none wA r (fun _ => False) (fun w2 => Below wA.heap.size wA w2) := by
  refine (hx wA).mono ?_
  rintro e w1 ⟨rfl, b1⟩
  refine ⟨rfl, Keep.below _ b1, ?_⟩
  refine (hy w1).mono ?_
  rintro e w2 ⟨rfl, b2⟩
  have b := b1.trans (b2.mono b1.size)
  exact ⟨rfl, Keep.below _ b, b⟩
theorem DvPost.screen {w w2 w3 : World} {D D' : Dv} (h : DvPost w D D' w2) {q' : Rs} {r : Value} {e : Ending} (hq : q'.Ok) (hr : RPost D'.bs D'.bc D'.g w2 q' r e w3) : ∃ D'', D''.L = D'.L ∧ D''.last = D'.last ∧ DvPost w D D'' w3 := by
  obtain ⟨g', cap', N', _, z, k, hg⟩ := hr
  have z2 := h.keep.size
  have hz3 : ∀ i, (i = D'.bs ∨ i = D'.bc ∨ i = g') → (i = D'.bs ∨ i = D'.bc ∨ i = D'.g) ∨ w2.heap.size ≤ i := fun i hi => by omega
  refine ⟨{ D' with g := g', cap := cap', n := N', q := q' }, rfl, rfl, ⟨h.dv.x.keep k (fun i hi => h.dv.xz i hi), h.dv.y.keep k (fun i hi => h.dv.yz i hi), z, h.dv.ok, h.dv.so, hq, h.dv.l0, h.dv.xy, fun i hi hs => ?_, fun i hi hs => ?_⟩, h.xp, h.yp, h.sp, ?_, ?_⟩
  · rcases hz3 i hs with e | e
    · exact h.dv.xz i hi e
    · have := h.dv.x.lt hi; omega
  · rcases hz3 i hs with e | e
    · exact h.dv.yz i hi e
    · have := h.dv.y.lt hi; omega
  · refine h.keep.trans k (fun i hi e => ?_)
    rcases h.own i (.inr (.inr e)) with q | q
    · exact q
    · omega
  · rintro i (hi | hi | hi)
    · exact h.own i (.inl hi)
    · exact h.own i (.inr (.inl hi))
    · rcases hz3 i hi with e | e
      · exact h.own i (.inr (.inr e))
      · exact .inr (by omega)
section
variable {w : World} {D : Dv}
theorem Tot.both {fx fy : Nat} {a : Option Addr → Array Value} {L' : List Wn} {last' : Int} {r : Value} (h : DvAt w D) (T : Tot fx fy a D.L D.last L' last' r) (wA : World) (b : Below w.heap.size w wA) : Both fx fy a D.xp D.yp wA r D.own fun w2 => ∃ D', D'.L = L' ∧ D'.last = last' ∧ DvPost wA D D' w2 := T.pair (h.below b)
theorem fin_some {L' : List Wn} {last' : Int} (hl : last' ≤ D.last + 1) {e : Ending} {w' : World} (h : e = .returned (.bool true) ∧ ∃ wA, Below w.heap.size w wA ∧ ∃ D', D'.L = L' ∧ D'.last = last' ∧ DvPost wA D D' w') : OPost w (some D) D.xp D.yp D.sp e w' := by
  obtain ⟨rfl, wA, b, D', _, h2, P⟩ := h
  exact (P.after b).opost (by rw [h2]; exact hl)
theorem fin_none {e : Ending} {w' : World} (h : e = .returned (.bool true) ∧ ∃ wA, Below w.heap.size w wA ∧ Below wA.heap.size wA w') : OPost w none none none none e w' := by
  obtain ⟨rfl, wA, b, b2⟩ := h
  exact opost_nil (b.trans (b2.mono b.size))
end
/-- moves, of any kind. -/
theorem lMovesAny {w : World} {O : Option Dv} {x y s : Option Addr} (h : OAt w O x y s) (o : Ca) (hl : oLast O < 9223372036854775807) :
    Calls Tryz.prog 40 #[.agg (dkArr x y s), o.agg] w (OPost w O x y s) := by
  obtain ⟨kd, on, A, B, C, E, F, tx, p⟩ := o
  cases O with
  | none =>
    obtain ⟨rfl, rfl, rfl⟩ := h
    by_cases k1 : kd = 1
    · subst k1
      have hb : ∀ wA, Both 48 96 (fun q => #[.pointer q, .int .i64 A, .int .i64 B, .int .i64 C, .int .i64 E, .int .i64 F]) none none wA (.tuple #[.int .i64 0, .int .i64 1]) (fun _ => False) (fun w2 => Below wA.heap.size wA w2) := Both.nil (fun w => Calls.below (kCreateNil w A B C E F)) (fun w => Calls.below (rdCreateNil w A B C E F))
      exact (lmoves1 on A B C E F tx p (r1 := 0) (r2 := 1) (O := fun _ => False) (Q := fun wA w2 => Below wA.heap.size wA w2) (fun _ f => f.elim) (fun wA _ => hb wA)).mono (fun _ _ q => fin_none q)
    by_cases k2 : kd = 2
    · subst k2
      have hb : ∀ wA, Both 49 97 (fun q => #[.pointer q, .int .i64 A]) none none wA (.int .i64 1) (fun _ => False) (fun w2 => Below wA.heap.size wA w2) := Both.nil (fun w => Calls.below (kDeleteNil w A)) (fun w => Calls.below (rdDeleteNil w A))
      exact (lmoves2 on A B C E F tx p (r := 1) (O := fun _ => False) (Q := fun wA w2 => Below wA.heap.size wA w2) (fun _ f => f.elim) (fun wA _ => hb wA)).mono (fun _ _ q => fin_none q)
    by_cases k3 : kd = 3
    · subst k3
      have hb : ∀ wA, Both 50 98 (fun q => #[.pointer q, .int .i64 A, .int .i64 B, .int .i64 C]) none none wA (.int .i64 1) (fun _ => False) (fun w2 => Below wA.heap.size wA w2) := Both.nil (fun w => Calls.below (kMoveNil w A B C)) (fun w => Calls.below (rdMoveNil w A B C))
      exact (lmoves3 on A B C E F tx p (r := 1) (O := fun _ => False) (Q := fun wA w2 => Below wA.heap.size wA w2) (fun _ f => f.elim) (fun wA _ => hb wA)).mono (fun _ _ q => fin_none q)
    by_cases k4 : kd = 4
    · subst k4
      have hb : ∀ wA, Both 51 99 (fun q => #[.pointer q, .int .i64 A, .int .i64 B, .int .i64 C]) none none wA (.int .i64 1) (fun _ => False) (fun w2 => Below wA.heap.size wA w2) := Both.nil (fun w => Calls.below (kShapeNil w A B C)) (fun w => Calls.below (rdShapeNil w A B C))
      exact (lmoves4 on A B C E F tx p (r := 1) (O := fun _ => False) (Q := fun wA w2 => Below wA.heap.size wA w2) (fun _ f => f.elim) (fun wA _ => hb wA)).mono (fun _ _ q => fin_none q)
    by_cases k5 : kd = 5
    · subst k5
      have hb : ∀ wA, Both 52 100 (fun q => #[.pointer q, .int .i64 A, .bool (on.tmod 2 == 0)]) none none wA (.int .i64 1) (fun _ => False) (fun w2 => Below wA.heap.size wA w2) := Both.nil (fun w => Calls.below (kRaiseNil w A _)) (fun w => Calls.below (rdRaiseNil w A _))
      exact (lmoves5 on A B C E F tx p (r := 1) (O := fun _ => False) (Q := fun wA w2 => Below wA.heap.size wA w2) (fun _ f => f.elim) (fun wA _ => hb wA)).mono (fun _ _ q => fin_none q)
    by_cases k6 : kd = 6
    · subst k6
      have hb : ∀ wA, Both 53 101 (fun q => #[.pointer q, .int .i64 A, .bool (on.tmod 2 == 0)]) none none wA (.int .i64 1) (fun _ => False) (fun w2 => Below wA.heap.size wA w2) := Both.nil (fun w => Calls.below (kShowNil w A _)) (fun w => Calls.below (rdShowNil w A _))
      exact (lmoves6 on A B C E F tx p (r := 1) (O := fun _ => False) (Q := fun wA w2 => Below wA.heap.size wA w2) (fun _ f => f.elim) (fun wA _ => hb wA)).mono (fun _ _ q => fin_none q)
    by_cases k7 : kd = 7
    · subst k7
      have hb : ∀ wA, Both 54 102 (fun q => #[.pointer q, .int .i64 A, .int .i64 B]) none none wA (.int .i64 1) (fun _ => False) (fun w2 => Below wA.heap.size wA w2) := Both.nil (fun w => Calls.below (kGiveNil w A B)) (fun w => Calls.below (rdGiveNil w A B))
      exact (lmoves7 on A B C E F tx p (r := 1) (O := fun _ => False) (Q := fun wA w2 => Below wA.heap.size wA w2) (fun _ f => f.elim) (fun wA _ => hb wA)).mono (fun _ _ q => fin_none q)
    exact (lmovesNo ⟨kd, on, A, B, C, E, F, tx, p⟩ k1 k2 k3 k4 k5 k6 k7).mono (fun e w' q => by obtain ⟨rfl, b⟩ := q; exact opost_nil b)
  | some D =>
    obtain ⟨rfl, rfl, rfl, h⟩ := h
    have hO : ∀ i, D.own i → i < w.heap.size := fun i hi => h.lt hi
    by_cases k1 : kd = 1
    · subst k1
      obtain ⟨L', last', a, b, T⟩ := totCreate h.ok h.l0 hl A B C E F
      exact (lmoves1 on A B C E F tx p hO (fun wA q => T.both h wA q)).mono (fun _ _ q => fin_some T.le.2 q)
    by_cases k2 : kd = 2
    · subst k2
      obtain ⟨L', r, T⟩ := totDelete h.ok A
      exact (lmoves2 on A B C E F tx p hO (fun wA q => T.both h wA q)).mono (fun _ _ q => fin_some T.le.2 q)
    by_cases k3 : kd = 3
    · subst k3
      obtain ⟨L', r, T⟩ := totMove h.ok A B C
      exact (lmoves3 on A B C E F tx p hO (fun wA q => T.both h wA q)).mono (fun _ _ q => fin_some T.le.2 q)
    by_cases k4 : kd = 4
    · subst k4
      obtain ⟨L', r, T⟩ := totShape h.ok A B C
      exact (lmoves4 on A B C E F tx p hO (fun wA q => T.both h wA q)).mono (fun _ _ q => fin_some T.le.2 q)
    by_cases k5 : kd = 5
    · subst k5
      obtain ⟨L', r, T⟩ := totRaise h.ok A (on.tmod 2 == 0)
      exact (lmoves5 on A B C E F tx p hO (fun wA q => T.both h wA q)).mono (fun _ _ q => fin_some T.le.2 q)
    by_cases k6 : kd = 6
    · subst k6
      obtain ⟨L', r, T⟩ := totShow h.ok A (on.tmod 2 == 0)
      exact (lmoves6 on A B C E F tx p hO (fun wA q => T.both h wA q)).mono (fun _ _ q => fin_some T.le.2 q)
    by_cases k7 : kd = 7
    · subst k7
      obtain ⟨L', r, T⟩ := totGive h.ok A B
      exact (lmoves7 on A B C E F tx p hO (fun wA q => T.both h wA q)).mono (fun _ _ q => fin_some T.le.2 q)
    exact (lmovesNo ⟨kd, on, A, B, C, E, F, tx, p⟩ k1 k2 k3 k4 k5 k6 k7).mono (fun e w' q => by obtain ⟨rfl, b⟩ := q; exact opost_stay (O := some D) ⟨rfl, rfl, rfl, h⟩ b)
theorem OPost.after {w wA w' : World} {O : Option Dv} {x y s : Option Addr} {e : Ending} (b : Below w.heap.size w wA) (h : OPost wA O x y s e w') : OPost w O x y s e w' := by
  obtain ⟨O', h1, h2, h3, h4, h5⟩ := h
  exact ⟨O', h1, h2, (Keep.below _ b).trans h3 (fun _ _ q => q), fun i hi => (h4 i hi).imp id (fun e => by have := b.size; omega), h5⟩
theorem resize_third {w : World} {D D' : Dv} {w2 : World} (A B : Int) (P : DvPost w D D' w2) : Calls Tryz.prog 38 #[.pointer D.sp, .int .i64 A, .int .i64 B] w2 fun e w3 => ∃ r3 : Int, e = .returned (.int .i64 r3) ∧ ∃ D'', D''.L = D'.L ∧ D''.last = D'.last ∧ DvPost w D D'' w3 := by
  rw [← P.sp]
  cases hz : sizeB A B with
  | false =>
    refine (refResizeNo D'.bs D'.bc D'.g D'.cap D'.n D'.q A B w2 P.dv.z hz).mono (fun e w3 q => ?_)
    have he : e = .returned (.int .i64 3) := by obtain ⟨_, _, _, e, _⟩ := q; exact e
    exact ⟨3, he, P.screen P.dv.qo q⟩
  | true =>
    obtain ⟨a1, a2, a3, a4⟩ := sizeB_iff.1 hz
    obtain ⟨A, rfl⟩ := Int.eq_ofNat_of_zero_le (show 0 ≤ A by omega)
    obtain ⟨B, rfl⟩ := Int.eq_ofNat_of_zero_le (show 0 ≤ B by omega)
    refine (refResizeYes D'.bs D'.bc D'.g D'.cap D'.n D'.q A B w2 P.dv.z P.dv.qo (by omega) (by omega) (by omega) (by omega)).mono (fun e w3 q => ?_)
    have he : e = .returned (.int .i64 0) := by obtain ⟨_, _, _, e, _⟩ := q; exact e
    exact ⟨0, he, P.screen (resizeR_ok P.dv.qo (by omega) (by omega) (by omega) (by omega)) q⟩
/-- call, of any kind but Flush. -/
theorem lCallAny {w : World} {O : Option Dv} {x y s : Option Addr} (h : OAt w O x y s) (o : Ca) (h13 : o.kd ≠ 13) (hl : oLast O < 9223372036854775807) :
    Calls Tryz.prog 10 #[.agg (dkArr x y s), o.agg] w (OPost w O x y s) := by
  by_cases k12 : o.kd = 12
  · obtain ⟨kd, on, A, B, C, E, F, tx, p⟩ := o
    dsimp only at k12
    subst k12
    exact (lcall12 h on A B C E F tx p).mono (fun e w' q => by obtain ⟨rfl, b⟩ := q; exact opost_stay h b)
  by_cases hm : o.kd ≠ 8 ∧ o.kd ≠ 9 ∧ o.kd ≠ 10 ∧ o.kd ≠ 11
  · refine (lcallMoves o hm.1 hm.2.1 hm.2.2.1 hm.2.2.2 k12 h13 (Q := fun wA w' => OPost wA O x y s (.returned (.bool true)) w') (fun wA b => (lMovesAny (h.below b) o hl).mono (fun e w' q => ?_))).mono (fun e w' q => ?_)
    · have he : e = .returned (.bool true) := by obtain ⟨_, e, _⟩ := q; exact e
      subst he
      exact ⟨rfl, q⟩
    · obtain ⟨rfl, wA, b, q⟩ := q
      exact OPost.after b q
  obtain ⟨kd, on, A, B, C, E, F, tx, p⟩ := o
  dsimp only at hm h13 k12
  cases O with
  | none =>
    obtain ⟨rfl, rfl, rfl⟩ := h
    by_cases k8 : kd = 8
    · subst k8
      have hb : ∀ wA, Both 31 32 (fun q => #[.pointer q, .int .i64 A, .int .i64 B, .int .i64 C, .string tx, p.agg]) none none wA (.int .i64 1) (fun _ => False) (fun w2 => Below wA.heap.size wA w2) := Both.nil (fun w => kWriteNil w A B C tx p) (fun w => rdWriteNil w A B C tx p)
      exact (lcall8 on A B C E F tx p (r := 1) (O := fun _ => False) (Q := fun wA w2 => Below wA.heap.size wA w2) (fun _ f => f.elim) (fun wA _ => hb wA)).mono (fun _ _ q => fin_none q)
    by_cases k9 : kd = 9
    · subst k9
      have hb : ∀ wA, Both 33 34 (fun q => #[.pointer q, .int .i64 A, .int .i64 B, .int .i64 C, .int .i64 E, .int .i64 F, p.agg]) none none wA (.int .i64 1) (fun _ => False) (fun w2 => Below wA.heap.size wA w2) := Both.nil (fun w => kFillNil w A B C E F p) (fun w => rdFillNil w A B C E F p)
      exact (lcall9 on A B C E F tx p (r := 1) (O := fun _ => False) (Q := fun wA w2 => Below wA.heap.size wA w2) (fun _ f => f.elim) (fun wA _ => hb wA)).mono (fun _ _ q => fin_none q)
    by_cases k10 : kd = 10
    · subst k10
      have hb : ∀ wA, Both 35 36 (fun q => #[.pointer q, .int .i64 A, .int .i64 B]) none none wA (.int .i64 1) (fun _ => False) (fun w2 => Below wA.heap.size wA w2) := Both.nil (fun w => Calls.below (kScrollNil w A B)) (fun w => Calls.below (rdScrollNil w A B))
      exact (lcall10 on A B C E F tx p (r := 1) (O := fun _ => False) (Q := fun wA w2 => Below wA.heap.size wA w2) (fun _ f => f.elim) (fun wA _ => hb wA)).mono (fun _ _ q => fin_none q)
    obtain rfl : kd = 11 := by omega
    have hb : ∀ wA, Both 18 37 (fun q => #[.pointer q, .int .i64 A, .int .i64 B]) none none wA (.int .i64 1) (fun _ => False) (fun w2 => Below wA.heap.size wA w2) := Both.nil (fun w => Calls.below (kResizeNil w A B)) (fun w => Calls.below (rdResizeNil w A B))
    exact (lcall11 on A B C E F tx p (r := 1) (O := fun _ => False) (Q := fun wA w2 => Below wA.heap.size wA w2) (fun _ f => f.elim) (fun wA _ => hb wA) (Q' := fun wA w3 => Below wA.heap.size wA w3) (fun wA w2 q => (refResizeNil A B w2).mono (by rintro e w3 ⟨rfl, rfl⟩; exact ⟨1, rfl, q⟩))).mono (fun _ _ q => fin_none q)
  | some D =>
    obtain ⟨rfl, rfl, rfl, h⟩ := h
    have hO : ∀ i, D.own i → i < w.heap.size := fun i hi => h.lt hi
    by_cases k8 : kd = 8
    · subst k8
      obtain ⟨L', r, T⟩ := totWrite h.ok A B C tx p
      exact (lcall8 on A B C E F tx p hO (fun wA q => T.both h wA q)).mono (fun _ _ q => fin_some T.le.2 q)
    by_cases k9 : kd = 9
    · subst k9
      obtain ⟨L', r, T⟩ := totFill h.ok A B C E F p
      exact (lcall9 on A B C E F tx p hO (fun wA q => T.both h wA q)).mono (fun _ _ q => fin_some T.le.2 q)
    by_cases k10 : kd = 10
    · subst k10
      obtain ⟨L', r, T⟩ := totScroll h.ok A B
      exact (lcall10 on A B C E F tx p hO (fun wA q => T.both h wA q)).mono (fun _ _ q => fin_some T.le.2 q)
    obtain rfl : kd = 11 := by omega
    obtain ⟨L', r, T⟩ := totResize h.ok A B
    refine (lcall11 on A B C E F tx p hO (fun wA q => T.both h wA q) (Q' := fun wA w3 => ∃ D', D'.L = L' ∧ D'.last = D.last ∧ DvPost wA D D' w3) (fun wA w2 q => ?_)).mono (fun _ _ q => fin_some (by omega) q)
    obtain ⟨D', e1, e2, P⟩ := q
    refine (resize_third A B P).mono ?_
    rintro e w3 ⟨r3, he, D'', f1, f2, P2⟩
    exact ⟨r3, he, D'', f1.trans e1, f2.trans e2, P2⟩
end Go.Proofs.YtjlfibhbfdckpaaGreatDoor

/- The statements' pick. -/
namespace Go.Proofs.YtjlfibhbfdckpaaGreatDoor
open Go.RowKit
attribute [local go_sem ↓] Go.wp_at_zero Go.wp_at_succ
def pickK (c : Int) (n : Nat) : Nat := ((if c < 0 then -(c + 1) else c) % n).toNat
theorem pickK_lt (c : Int) {n : Nat} (h : 0 < n) : pickK c n < n := by
  unfold pickK
  have := Int.emod_lt_of_pos (if c < 0 then -(c + 1) else c) (show (0 : Int) < n by omega)
  have := Int.emod_nonneg (if c < 0 then -(c + 1) else c) (show (n : Int) ≠ 0 by omega)
  omega
theorem pickK_pos {c : Int} {n : Nat} (h : 0 < n) (hc : ¬ c < 0) : c.tmod n = pickK c n := by
  unfold pickK
  rw [if_neg hc, Int.toNat_of_nonneg (Int.emod_nonneg _ (by omega)), Int.tmod_eq_emod_of_nonneg (by omega)]
theorem pickK_neg {c : Int} {n : Nat} (h : 0 < n) (hc : c < 0) : (-(c + 1)).tmod n = pickK c n := by
  unfold pickK
  rw [if_pos hc, Int.toNat_of_nonneg (Int.emod_nonneg _ (by omega)), Int.tmod_eq_emod_of_nonneg (by omega)]
set_option maxHeartbeats 1000000 in
theorem kPick (c : Int) (n : Nat) (w : World) (hn : 0 < n) (hn2 : (n : Int) ≤ 9223372036854775807) (c0 : -9223372036854775808 ≤ c) (c1 : c ≤ 9223372036854775807) :
    Calls Tryz.prog 16 #[.int .i64 c, .int .i64 n] w fun e w' => e = .returned (.int .i64 (pickK c n)) ∧ w' = w := by
  have n0 : ¬ (n : Int) = 0 := by omega
  have n0' : ((n : Int) == 0) = false := by simp; omega
  have lt := pickK_lt c hn
  by_cases hc : c < 0
  · have e := pickK_neg hn hc
    go_enter Tryz.func16, Tryz.ntmps16
    go_wp2
    go_ret
    exact ⟨rfl, rfl⟩
  · have e := pickK_pos hn hc
    go_enter Tryz.func16, Tryz.ntmps16
    go_wp2
    go_ret
    exact ⟨rfl, rfl⟩
end Go.Proofs.YtjlfibhbfdckpaaGreatDoor

/- The statement of pictures: pick. -/
namespace Go.Proofs.YtjlfibhbfdckpaaGreatDoor
open Go.RowKit
attribute [local go_sem ↓] Go.wp_at_zero Go.wp_at_succ
set_option maxHeartbeats 1000000 in
theorem lPickP (c : Int) (n : Nat) (w : World) (hn : 0 < n) (hn2 : (n : Int) ≤ 9223372036854775807) (c0 : -9223372036854775808 ≤ c) (c1 : c ≤ 9223372036854775807) :
    Calls Tryz.prog 26 #[.int .i64 c, .int .i64 n] w fun e w' => e = .returned (.int .i64 (pickK c n)) ∧ w' = w := by
  have n0 : ¬ (n : Int) = 0 := by omega
  have n0' : ((n : Int) == 0) = false := by simp; omega
  have lt := pickK_lt c hn
  by_cases hc : c < 0
  · have e := pickK_neg hn hc
    go_enter Tryz.func26, Tryz.ntmps26
    go_wp2
    go_ret
    exact ⟨rfl, rfl⟩
  · have e := pickK_pos hn hc
    go_enter Tryz.func26, Tryz.ntmps26
    go_wp2
    go_ret
    exact ⟨rfl, rfl⟩
theorem RefAt.keepP {F : Nat → Prop} {w w' : World} {bs bc g cap N : Nat} {s : Rs} (h : RefAt w bs bc g cap N s) (k : Keep F w w') (h1 : ¬ F bs) (h2 : ¬ F bc) (h3 : ¬ F g) : RefAt w' bs bc g cap N s :=
  h.same (k.block _ h.lt h1) (k.block _ h.cels.lt h2) (k.block _ h.cels.glt h3)
end Go.Proofs.YtjlfibhbfdckpaaGreatDoor
