/- Texts of the proof, one behind the other: PcG, Pk, PcZ, PcH. -/
import Derived.Test.YtjlfibhbfdckpaaGreatDoorK09
import Derived.Test.YtjlfibhbfdckpaaGreatDoorK44
/- The statement of pictures: a step of any kind, on a desk or a nil one. -/
namespace Go.Proofs.YtjlfibhbfdckpaaGreatDoor
open Go.RowKit
def oLast (O : Option Dv) : Int := match O with
  | none => 0
  | some D => D.last
/-- What a step leaves of a desk, or of a nil one. -/
def OPost (w : World) (O : Option Dv) (x y s : Option Addr) (e : Ending) (w' : World) : Prop :=
  ∃ O', e = .returned (.bool true) ∧ OAt w' O' x y s ∧ Keep (oOwn O) w w' ∧ (∀ i, oOwn O' i → oOwn O i ∨ w.heap.size ≤ i) ∧ oLast O' ≤ oLast O + 1
theorem DvPost.opost {w w' : World} {D D' : Dv} (h : DvPost w D D' w') (hl : D'.last ≤ D.last + 1) : OPost w (some D) D.xp D.yp D.sp (.returned (.bool true)) w' :=
  ⟨some D', rfl, ⟨h.xp.symm, h.yp.symm, h.sp.symm, h.dv⟩, h.keep, h.own, hl⟩
theorem opost_nil {w w' : World} (b : Below w.heap.size w w') : OPost w none none none none (.returned (.bool true)) w' :=
  ⟨none, rfl, ⟨rfl, rfl, rfl⟩, Keep.below _ b, fun _ hi => hi.elim, by show (0 : Int) ≤ 0 + 1; omega⟩
theorem opost_stay {w w' : World} {O : Option Dv} {x y s : Option Addr} (h : OAt w O x y s) (b : Below w.heap.size w w') : OPost w O x y s (.returned (.bool true)) w' :=
  ⟨O, rfl, h.below b, Keep.below _ b, fun _ hi => .inl hi, by omega⟩
theorem Both.nil {fx fy : Nat} {a : Option Addr → Array Value} {r : Value} (hx : ∀ w, Calls Tryz.prog fx (a none) w fun e w' => e = .returned r ∧ Below w.heap.size w w') (hy : ∀ w, Calls Tryz.prog fy (a none) w fun e w' => e = .returned r ∧ Below w.heap.size w w') (wA : World) :
    Both fx fy a none none wA r (fun _ => False) (fun w2 => Below wA.heap.size wA w2) := by
  refine (hx wA).mono ?_
  rintro e w1 ⟨rfl, b1⟩
  refine ⟨rfl, Keep.below _ b1, ?_⟩
  refine (hy w1).mono ?_
  rintro e w2 ⟨rfl, b2⟩
  have b := b1.trans (b2.mono b1.size)
  exact ⟨rfl, Keep.below _ b, b⟩
theorem DvPost.screen {w w2 w3 : World} {D D' : Dv} (h : DvPost w D D' w2) {q' : Rs} {r : Value} {e : Ending} (hq : q'.Ok) (hr : RPost D'.bs D'.bc D'.g w2 q' r e w3) : ∃ D'', D''.L = D'.L ∧ D''.last = D'.last ∧ DvPost w D D'' w3 := by
  obtain ⟨g', cap', N', _, z, k, hg⟩ := hr
  have z2 := h.keep.size
  have hz3 : ∀ i, (i = D'.bs ∨ i = D'.bc ∨ i = g') → (i = D'.bs ∨ i = D'.bc ∨ i = D'.g) ∨ w2.heap.size ≤ i := fun i hi => by omega
  refine ⟨{ D' with g := g', cap := cap', n := N', q := q' }, rfl, rfl, ⟨h.dv.x.keep k (fun i hi => h.dv.xz i hi), h.dv.y.keep k (fun i hi => h.dv.yz i hi), z, h.dv.ok, h.dv.so, hq, h.dv.l0, h.dv.xy, fun i hi hs => ?_, fun i hi hs => ?_⟩, h.xp, h.yp, h.sp, ?_, ?_⟩
  · rcases hz3 i hs with e | e
    · exact h.dv.xz i hi e
    · have := h.dv.x.lt hi; omega
  · rcases hz3 i hs with e | e
    · exact h.dv.yz i hi e
    · have := h.dv.y.lt hi; omega
  · refine h.keep.trans k (fun i hi e => ?_)
    rcases h.own i (.inr (.inr e)) with q | q
    · exact q
    · omega
  · rintro i (hi | hi | hi)
    · exact h.own i (.inl hi)
    · exact h.own i (.inr (.inl hi))
    · rcases hz3 i hi with e | e
      · exact h.own i (.inr (.inr e))
      · exact .inr (by omega)
section
variable {w : World} {D : Dv}
theorem Tot.both {fx fy : Nat} {a : Option Addr → Array Value} {L' : List Wn} {last' : Int} {r : Value} (h : DvAt w D) (T : Tot fx fy a D.L D.last L' last' r) (wA : World) (b : Below w.heap.size w wA) : Both fx fy a D.xp D.yp wA r D.own fun w2 => ∃ D', D'.L = L' ∧ D'.last = last' ∧ DvPost wA D D' w2 := T.pair (h.below b)
theorem fin_some {L' : List Wn} {last' : Int} (hl : last' ≤ D.last + 1) {e : Ending} {w' : World} (h : e = .returned (.bool true) ∧ ∃ wA, Below w.heap.size w wA ∧ ∃ D', D'.L = L' ∧ D'.last = last' ∧ DvPost wA D D' w') : OPost w (some D) D.xp D.yp D.sp e w' := by
  obtain ⟨rfl, wA, b, D', _, h2, P⟩ := h
  exact (P.after b).opost (by rw [h2]; exact hl)
theorem fin_none {e : Ending} {w' : World} (h : e = .returned (.bool true) ∧ ∃ wA, Below w.heap.size w wA ∧ Below wA.heap.size wA w') : OPost w none none none none e w' := by
  obtain ⟨rfl, wA, b, b2⟩ := h
  exact opost_nil (b.trans (b2.mono b.size))
end
/-- moves, of any kind. -/
theorem lMovesAny {w : World} {O : Option Dv} {x y s : Option Addr} (h : OAt w O x y s) (o : Ca) (hl : oLast O < 9223372036854775807) :
    Calls Tryz.prog 40 #[.agg (dkArr x y s), o.agg] w (OPost w O x y s) := by
  obtain ⟨kd, on, A, B, C, E, F, tx, p⟩ := o
  cases O with
  | none =>
    obtain ⟨rfl, rfl, rfl⟩ := h
    by_cases k1 : kd = 1
    · subst k1
      have hb : ∀ wA, Both 48 96 (fun q => #[.pointer q, .int .i64 A, .int .i64 B, .int .i64 C, .int .i64 E, .int .i64 F]) none none wA (.tuple #[.int .i64 0, .int .i64 1]) (fun _ => False) (fun w2 => Below wA.heap.size wA w2) := Both.nil (fun w => Calls.below (kCreateNil w A B C E F)) (fun w => Calls.below (rdCreateNil w A B C E F))
      exact (lmoves1 on A B C E F tx p (r1 := 0) (r2 := 1) (O := fun _ => False) (Q := fun wA w2 => Below wA.heap.size wA w2) (fun _ f => f.elim) (fun wA _ => hb wA)).mono (fun _ _ q => fin_none q)
    by_cases k2 : kd = 2
    · subst k2
      have hb : ∀ wA, Both 49 97 (fun q => #[.pointer q, .int .i64 A]) none none wA (.int .i64 1) (fun _ => False) (fun w2 => Below wA.heap.size wA w2) := Both.nil (fun w => Calls.below (kDeleteNil w A)) (fun w => Calls.below (rdDeleteNil w A))
      exact (lmoves2 on A B C E F tx p (r := 1) (O := fun _ => False) (Q := fun wA w2 => Below wA.heap.size wA w2) (fun _ f => f.elim) (fun wA _ => hb wA)).mono (fun _ _ q => fin_none q)
    by_cases k3 : kd = 3
    · subst k3
      have hb : ∀ wA, Both 50 98 (fun q => #[.pointer q, .int .i64 A, .int .i64 B, .int .i64 C]) none none wA (.int .i64 1) (fun _ => False) (fun w2 => Below wA.heap.size wA w2) := Both.nil (fun w => Calls.below (kMoveNil w A B C)) (fun w => Calls.below (rdMoveNil w A B C))
      exact (lmoves3 on A B C E F tx p (r := 1) (O := fun _ => False) (Q := fun wA w2 => Below wA.heap.size wA w2) (fun _ f => f.elim) (fun wA _ => hb wA)).mono (fun _ _ q => fin_none q)
    by_cases k4 : kd = 4
    · subst k4
      have hb : ∀ wA, Both 51 99 (fun q => #[.pointer q, .int .i64 A, .int .i64 B, .int .i64 C]) none none wA (.int .i64 1) (fun _ => False) (fun w2 => Below wA.heap.size wA w2) := Both.nil (fun w => Calls.below (kShapeNil w A B C)) (fun w => Calls.below (rdShapeNil w A B C))
      exact (lmoves4 on A B C E F tx p (r := 1) (O := fun _ => False) (Q := fun wA w2 => Below wA.heap.size wA w2) (fun _ f => f.elim) (fun wA _ => hb wA)).mono (fun _ _ q => fin_none q)
    by_cases k5 : kd = 5
    · subst k5
      have hb : ∀ wA, Both 52 100 (fun q => #[.pointer q, .int .i64 A, .bool (on.tmod 2 == 0)]) none none wA (.int .i64 1) (fun _ => False) (fun w2 => Below wA.heap.size wA w2) := Both.nil (fun w => Calls.below (kRaiseNil w A _)) (fun w => Calls.below (rdRaiseNil w A _))
      exact (lmoves5 on A B C E F tx p (r := 1) (O := fun _ => False) (Q := fun wA w2 => Below wA.heap.size wA w2) (fun _ f => f.elim) (fun wA _ => hb wA)).mono (fun _ _ q => fin_none q)
    by_cases k6 : kd = 6
    · subst k6
      have hb : ∀ wA, Both 53 101 (fun q => #[.pointer q, .int .i64 A, .bool (on.tmod 2 == 0)]) none none wA (.int .i64 1) (fun _ => False) (fun w2 => Below wA.heap.size wA w2) := Both.nil (fun w => Calls.below (kShowNil w A _)) (fun w => Calls.below (rdShowNil w A _))
      exact (lmoves6 on A B C E F tx p (r := 1) (O := fun _ => False) (Q := fun wA w2 => Below wA.heap.size wA w2) (fun _ f => f.elim) (fun wA _ => hb wA)).mono (fun _ _ q => fin_none q)
    by_cases k7 : kd = 7
    · subst k7
      have hb : ∀ wA, Both 54 102 (fun q => #[.pointer q, .int .i64 A, .int .i64 B]) none none wA (.int .i64 1) (fun _ => False) (fun w2 => Below wA.heap.size wA w2) := Both.nil (fun w => Calls.below (kGiveNil w A B)) (fun w => Calls.below (rdGiveNil w A B))
      exact (lmoves7 on A B C E F tx p (r := 1) (O := fun _ => False) (Q := fun wA w2 => Below wA.heap.size wA w2) (fun _ f => f.elim) (fun wA _ => hb wA)).mono (fun _ _ q => fin_none q)
    exact (lmovesNo ⟨kd, on, A, B, C, E, F, tx, p⟩ k1 k2 k3 k4 k5 k6 k7).mono (fun e w' q => by obtain ⟨rfl, b⟩ := q; exact opost_nil b)
  | some D =>
    obtain ⟨rfl, rfl, rfl, h⟩ := h
    have hO : ∀ i, D.own i → i < w.heap.size := fun i hi => h.lt hi
    by_cases k1 : kd = 1
    · subst k1
      obtain ⟨L', last', a, b, T⟩ := totCreate h.ok h.l0 hl A B C E F
      exact (lmoves1 on A B C E F tx p hO (fun wA q => T.both h wA q)).mono (fun _ _ q => fin_some T.le.2 q)
    by_cases k2 : kd = 2
    · subst k2
      obtain ⟨L', r, T⟩ := totDelete h.ok A
      exact (lmoves2 on A B C E F tx p hO (fun wA q => T.both h wA q)).mono (fun _ _ q => fin_some T.le.2 q)
    by_cases k3 : kd = 3
    · subst k3
      obtain ⟨L', r, T⟩ := totMove h.ok A B C
      exact (lmoves3 on A B C E F tx p hO (fun wA q => T.both h wA q)).mono (fun _ _ q => fin_some T.le.2 q)
    by_cases k4 : kd = 4
    · subst k4
      obtain ⟨L', r, T⟩ := totShape h.ok A B C
      exact (lmoves4 on A B C E F tx p hO (fun wA q => T.both h wA q)).mono (fun _ _ q => fin_some T.le.2 q)
    by_cases k5 : kd = 5
    · subst k5
      obtain ⟨L', r, T⟩ := totRaise h.ok A (on.tmod 2 == 0)
      exact (lmoves5 on A B C E F tx p hO (fun wA q => T.both h wA q)).mono (fun _ _ q => fin_some T.le.2 q)
    by_cases k6 : kd = 6
    · subst k6
      obtain ⟨L', r, T⟩ := totShow h.ok A (on.tmod 2 == 0)
      exact (lmoves6 on A B C E F tx p hO (fun wA q => T.both h wA q)).mono (fun _ _ q => fin_some T.le.2 q)
    by_cases k7 : kd = 7
    · subst k7
      obtain ⟨L', r, T⟩ := totGive h.ok A B
      exact (lmoves7 on A B C E F tx p hO (fun wA q => T.both h wA q)).mono (fun _ _ q => fin_some T.le.2 q)
    exact (lmovesNo ⟨kd, on, A, B, C, E, F, tx, p⟩ k1 k2 k3 k4 k5 k6 k7).mono (fun e w' q => by obtain ⟨rfl, b⟩ := q; exact opost_stay (O := some D) ⟨rfl, rfl, rfl, h⟩ b)
theorem OPost.after {w wA w' : World} {O : Option Dv} {x y s : Option Addr} {e : Ending} (b : Below w.heap.size w wA) (h : OPost wA O x y s e w') : OPost w O x y s e w' := by
  obtain ⟨O', h1, h2, h3, h4, h5⟩ := h
  exact ⟨O', h1, h2, (Keep.below _ b).trans h3 (fun _ _ q => q), fun i hi => (h4 i hi).imp id (fun e => by have := b.size; omega), h5⟩
theorem resize_third {w : World} {D D' : Dv} {w2 : World} (A B : Int) (P : DvPost w D D' w2) : Calls Tryz.prog 38 #[.pointer D.sp, .int .i64 A, .int .i64 B] w2 fun e w3 => ∃ r3 : Int, e = .returned (.int .i64 r3) ∧ ∃ D'', D''.L = D'.L ∧ D''.last = D'.last ∧ DvPost w D D'' w3 := by
  rw [← P.sp]
  cases hz : sizeB A B with
  | false =>
    refine (refResizeNo D'.bs D'.bc D'.g D'.cap D'.n D'.q A B w2 P.dv.z hz).mono (fun e w3 q => ?_)
    have he : e = .returned (.int .i64 3) := by obtain ⟨_, _, _, e, _⟩ := q; exact e
    exact ⟨3, he, P.screen P.dv.qo q⟩
  | true =>
    obtain ⟨a1, a2, a3, a4⟩ := sizeB_iff.1 hz
    obtain ⟨A, rfl⟩ := Int.eq_ofNat_of_zero_le (show 0 ≤ A by omega)
    obtain ⟨B, rfl⟩ := Int.eq_ofNat_of_zero_le (show 0 ≤ B by omega)
    refine (refResizeYes D'.bs D'.bc D'.g D'.cap D'.n D'.q A B w2 P.dv.z P.dv.qo (by omega) (by omega) (by omega) (by omega)).mono (fun e w3 q => ?_)
    have he : e = .returned (.int .i64 0) := by obtain ⟨_, _, _, e, _⟩ := q; exact e
    exact ⟨0, he, P.screen (resizeR_ok P.dv.qo (by omega) (by omega) (by omega) (by omega)) q⟩
/-- call, of any kind but Flush. -/
theorem lCallAny {w : World} {O : Option Dv} {x y s : Option Addr} (h : OAt w O x y s) (o : Ca) (h13 : o.kd ≠ 13) (hl : oLast O < 9223372036854775807) :
    Calls Tryz.prog 10 #[.agg (dkArr x y s), o.agg] w (OPost w O x y s) := by
  by_cases k12 : o.kd = 12
  · obtain ⟨kd, on, A, B, C, E, F, tx, p⟩ := o
    dsimp only at k12
    subst k12
    exact (lcall12 h on A B C E F tx p).mono (fun e w' q => by obtain ⟨rfl, b⟩ := q; exact opost_stay h b)
  by_cases hm : o.kd ≠ 8 ∧ o.kd ≠ 9 ∧ o.kd ≠ 10 ∧ o.kd ≠ 11
  · refine (lcallMoves o hm.1 hm.2.1 hm.2.2.1 hm.2.2.2 k12 h13 (Q := fun wA w' => OPost wA O x y s (.returned (.bool true)) w') (fun wA b => (lMovesAny (h.below b) o hl).mono (fun e w' q => ?_))).mono (fun e w' q => ?_)
    · have he : e = .returned (.bool true) := by obtain ⟨_, e, _⟩ := q; exact e
      subst he
      exact ⟨rfl, q⟩
    · obtain ⟨rfl, wA, b, q⟩ := q
      exact OPost.after b q
  obtain ⟨kd, on, A, B, C, E, F, tx, p⟩ := o
  dsimp only at hm h13 k12
  cases O with
  | none =>
    obtain ⟨rfl, rfl, rfl⟩ := h
    by_cases k8 : kd = 8
    · subst k8
      have hb : ∀ wA, Both 31 32 (fun q => #[.pointer q, .int .i64 A, .int .i64 B, .int .i64 C, .string tx, p.agg]) none none wA (.int .i64 1) (fun _ => False) (fun w2 => Below wA.heap.size wA w2) := Both.nil (fun w => kWriteNil w A B C tx p) (fun w => rdWriteNil w A B C tx p)
      exact (lcall8 on A B C E F tx p (r := 1) (O := fun _ => False) (Q := fun wA w2 => Below wA.heap.size wA w2) (fun _ f => f.elim) (fun wA _ => hb wA)).mono (fun _ _ q => fin_none q)
    by_cases k9 : kd = 9
    · subst k9
      have hb : ∀ wA, Both 33 34 (fun q => #[.pointer q, .int .i64 A, .int .i64 B, .int .i64 C, .int .i64 E, .int .i64 F, p.agg]) none none wA (.int .i64 1) (fun _ => False) (fun w2 => Below wA.heap.size wA w2) := Both.nil (fun w => kFillNil w A B C E F p) (fun w => rdFillNil w A B C E F p)
      exact (lcall9 on A B C E F tx p (r := 1) (O := fun _ => False) (Q := fun wA w2 => Below wA.heap.size wA w2) (fun _ f => f.elim) (fun wA _ => hb wA)).mono (fun _ _ q => fin_none q)
    by_cases k10 : kd = 10
    · subst k10
      have hb : ∀ wA, Both 35 36 (fun q => #[.pointer q, .int .i64 A, .int .i64 B]) none none wA (.int .i64 1) (fun _ => False) (fun w2 => Below wA.heap.size wA w2) := Both.nil (fun w => Calls.below (kScrollNil w A B)) (fun w => Calls.below (rdScrollNil w A B))
      exact (lcall10 on A B C E F tx p (r := 1) (O := fun _ => False) (Q := fun wA w2 => Below wA.heap.size wA w2) (fun _ f => f.elim) (fun wA _ => hb wA)).mono (fun _ _ q => fin_none q)
    obtain rfl : kd = 11 := by omega
    have hb : ∀ wA, Both 18 37 (fun q => #[.pointer q, .int .i64 A, .int .i64 B]) none none wA (.int .i64 1) (fun _ => False) (fun w2 => Below wA.heap.size wA w2) := Both.nil (fun w => Calls.below (kResizeNil w A B)) (fun w => Calls.below (rdResizeNil w A B))
    exact (lcall11 on A B C E F tx p (r := 1) (O := fun _ => False) (Q := fun wA w2 => Below wA.heap.size wA w2) (fun _ f => f.elim) (fun wA _ => hb wA) (Q' := fun wA w3 => Below wA.heap.size wA w3) (fun wA w2 q => (refResizeNil A B w2).mono (by rintro e w3 ⟨rfl, rfl⟩; exact ⟨1, rfl, q⟩))).mono (fun _ _ q => fin_none q)
  | some D =>
    obtain ⟨rfl, rfl, rfl, h⟩ := h
    have hO : ∀ i, D.own i → i < w.heap.size := fun i hi => h.lt hi
    by_cases k8 : kd = 8
    · subst k8
      obtain ⟨L', r, T⟩ := totWrite h.ok A B C tx p
      exact (lcall8 on A B C E F tx p hO (fun wA q => T.both h wA q)).mono (fun _ _ q => fin_some T.le.2 q)
    by_cases k9 : kd = 9
    · subst k9
      obtain ⟨L', r, T⟩ := totFill h.ok A B C E F p
      exact (lcall9 on A B C E F tx p hO (fun wA q => T.both h wA q)).mono (fun _ _ q => fin_some T.le.2 q)
    by_cases k10 : kd = 10
    · subst k10
      obtain ⟨L', r, T⟩ := totScroll h.ok A B
      exact (lcall10 on A B C E F tx p hO (fun wA q => T.both h wA q)).mono (fun _ _ q => fin_some T.le.2 q)
    obtain rfl : kd = 11 := by omega
    obtain ⟨L', r, T⟩ := totResize h.ok A B
    refine (lcall11 on A B C E F tx p hO (fun wA q => T.both h wA q) (Q' := fun wA w3 => ∃ D', D'.L = L' ∧ D'.last = D.last ∧ DvPost wA D D' w3) (fun wA w2 q => ?_)).mono (fun _ _ q => fin_some (by omega) q)
    obtain ⟨D', e1, e2, P⟩ := q
    refine (resize_third A B P).mono ?_
    rintro e w3 ⟨r3, he, D'', f1, f2, P2⟩
    exact ⟨r3, he, D'', f1.trans e1, f2.trans e2, P2⟩
end Go.Proofs.YtjlfibhbfdckpaaGreatDoor

/- The statements' pick. -/
namespace Go.Proofs.YtjlfibhbfdckpaaGreatDoor
open Go.RowKit
attribute [local go_sem ↓] Go.wp_at_zero Go.wp_at_succ
def pickK (c : Int) (n : Nat) : Nat := ((if c < 0 then -(c + 1) else c) % n).toNat
theorem pickK_lt (c : Int) {n : Nat} (h : 0 < n) : pickK c n < n := by
  unfold pickK
  have := Int.emod_lt_of_pos (if c < 0 then -(c + 1) else c) (show (0 : Int) < n by omega)
  have := Int.emod_nonneg (if c < 0 then -(c + 1) else c) (show (n : Int) ≠ 0 by omega)
  omega
theorem pickK_pos {c : Int} {n : Nat} (h : 0 < n) (hc : ¬ c < 0) : c.tmod n = pickK c n := by
  unfold pickK
  rw [if_neg hc, Int.toNat_of_nonneg (Int.emod_nonneg _ (by omega)), Int.tmod_eq_emod_of_nonneg (by omega)]
theorem pickK_neg {c : Int} {n : Nat} (h : 0 < n) (hc : c < 0) : (-(c + 1)).tmod n = pickK c n := by
  unfold pickK
  rw [if_pos hc, Int.toNat_of_nonneg (Int.emod_nonneg _ (by omega)), Int.tmod_eq_emod_of_nonneg (by omega)]
set_option maxHeartbeats 1000000 in
theorem kPick (c : Int) (n : Nat) (w : World) (hn : 0 < n) (hn2 : (n : Int) ≤ 9223372036854775807) (c0 : -9223372036854775808 ≤ c) (c1 : c ≤ 9223372036854775807) :
    Calls Tryz.prog 16 #[.int .i64 c, .int .i64 n] w fun e w' => e = .returned (.int .i64 (pickK c n)) ∧ w' = w := by
  have n0 : ¬ (n : Int) = 0 := by omega
  have n0' : ((n : Int) == 0) = false := by simp; omega
  have lt := pickK_lt c hn
  by_cases hc : c < 0
  · have e := pickK_neg hn hc
    go_enter Tryz.func16, Tryz.ntmps16
    go_wp2
    go_ret
    exact ⟨rfl, rfl⟩
  · have e := pickK_pos hn hc
    go_enter Tryz.func16, Tryz.ntmps16
    go_wp2
    go_ret
    exact ⟨rfl, rfl⟩
end Go.Proofs.YtjlfibhbfdckpaaGreatDoor

/- The statement of pictures: pick. -/
namespace Go.Proofs.YtjlfibhbfdckpaaGreatDoor
open Go.RowKit
attribute [local go_sem ↓] Go.wp_at_zero Go.wp_at_succ
set_option maxHeartbeats 1000000 in
theorem lPickP (c : Int) (n : Nat) (w : World) (hn : 0 < n) (hn2 : (n : Int) ≤ 9223372036854775807) (c0 : -9223372036854775808 ≤ c) (c1 : c ≤ 9223372036854775807) :
    Calls Tryz.prog 26 #[.int .i64 c, .int .i64 n] w fun e w' => e = .returned (.int .i64 (pickK c n)) ∧ w' = w := by
  have n0 : ¬ (n : Int) = 0 := by omega
  have n0' : ((n : Int) == 0) = false := by simp; omega
  have lt := pickK_lt c hn
  by_cases hc : c < 0
  · have e := pickK_neg hn hc
    go_enter Tryz.func26, Tryz.ntmps26
    go_wp2
    go_ret
    exact ⟨rfl, rfl⟩
  · have e := pickK_pos hn hc
    go_enter Tryz.func26, Tryz.ntmps26
    go_wp2
    go_ret
    exact ⟨rfl, rfl⟩
theorem RefAt.keepP {F : Nat → Prop} {w w' : World} {bs bc g cap N : Nat} {s : Rs} (h : RefAt w bs bc g cap N s) (k : Keep F w w') (h1 : ¬ F bs) (h2 : ¬ F bc) (h3 : ¬ F g) : RefAt w' bs bc g cap N s :=
  h.same (k.block _ h.lt h1) (k.block _ h.cels.lt h2) (k.block _ h.cels.glt h3)
end Go.Proofs.YtjlfibhbfdckpaaGreatDoor

/- The statement of pictures: opened. -/
namespace Go.Proofs.YtjlfibhbfdckpaaGreatDoor
open Go.RowKit
attribute [local go_sem ↓] Go.wp_at_zero Go.wp_at_succ
set_option maxHeartbeats 2000000 in
theorem lOpenedNo (x y : Int) (w : World) (hs : sizeB x y = false) :
    Calls Tryz.prog 9 #[.int .i64 x, .int .i64 y] w fun e w' => e = .returned (.tuple #[.agg (dkArr none none none), .bool true]) ∧ Below w.heap.size w w' := by
  go_enter Tryz.func9, Tryz.ntmps9
  go_wp2_with (first | (go_at_call 15; refine (kNewNo _ _ _ hs).mono ?_; rintro e w' ⟨rfl, hw'⟩; replace hw' := hw'.symm; subst hw') | (go_at_call 29; refine (rdNewNo _ _ _ hs).mono ?_; rintro e w' ⟨rfl, hw'⟩; replace hw' := hw'.symm; subst hw'))
  exact bodyPost_ret (v := .tuple #[.agg (dkArr none none none), .bool true]) (by simp [results, Tryz.results9, go_sem]) rfl ⟨rfl, (Below.refl _ _).alloc (Nat.le_refl _) _⟩
set_option maxHeartbeats 2000000 in
theorem lOpenedYes (W H : Nat) (w : World) (hs : sizeB W H = true) (hw : 2 ≤ w.heap.size) :
    Calls Tryz.prog 9 #[.int .i64 W, .int .i64 H] w fun e w' => ∃ D : Dv, e = .returned (.tuple #[.agg (dkArr D.xp D.yp D.sp), .bool true]) ∧ DvAt w' D ∧ D.L = [rootW W H] ∧ D.last = 0 ∧ Below w.heap.size w w' ∧ ∀ i, D.own i → w.heap.size ≤ i := by
  have hz := sizeB_iff.1 hs
  have Hs : Hid (sizeB W H = true) := hs
  go_enter Tryz.func9, Tryz.ntmps9
  go_wp2_with fail
  go_at_call 15
  refine (kNew W H _ (by omega) (by omega) (by omega) (by omega) (by rw [size_alloc]; omega)).mono ?_
  rintro e wa ⟨M, rfl, D1, b1, o1⟩
  rw [size_alloc] at b1 o1
  have c0 : wa.cell? ⟨w.heap.size, 0, none⟩ = some (.pointer none) := by rw [b1.cells (by omega), cell_of_block (heap_new w _)]; rfl
  have c1 : wa.cell? ⟨w.heap.size, 1, none⟩ = some (.pointer none) := by rw [b1.cells (by omega), cell_of_block (heap_new w _)]; rfl
  have c2 : wa.cell? ⟨w.heap.size, 2, none⟩ = some (.pointer none) := by rw [b1.cells (by omega), cell_of_block (heap_new w _)]; rfl
  have fz : ∀ o, wa.frozen? ⟨w.heap.size, o, none⟩ = false := fun o => by rw [b1.marks (by omega), frozen_of_block (heap_new w _)]
  have HB : Hid (Below w.heap.size w wa) := ((Below.refl _ _).alloc (Nat.le_refl _) _).trans (b1.mono (by omega))
  have hsz : w.heap.size + 1 ≤ wa.heap.size := by have := b1.size; rwa [size_alloc] at this
  have HD : Hid (DkAt wa M [rootW W H] 0 (H * W) (newR W H) newT) := D1
  have HO : Hid (∀ i, M.own [rootW W H] i → w.heap.size + 1 ≤ i ∧ i < wa.heap.size) := fun i hi => ⟨o1 i hi, D1.lt hi⟩
  clear D1 b1 o1
  go_wp2_with fail
  go_at_call 29
  refine (rdNew W H _ Hs.out (by omega)).mono ?_
  rintro e wb ⟨R, rfl, R1, b2, o2⟩
  replace HD : Hid (DkAt wb M [rootW W H] 0 (H * W) (newR W H) newT) := HD.out.below b2
  have HR : Hid (RkAt wb R [rootW W H] 0) := R1
  have HO2 : Hid (∀ i, R.own [rootW W H] i → wa.heap.size ≤ i ∧ i < wb.heap.size) := fun i hi => ⟨o2 i hi, R1.lt hi⟩
  replace HB : Hid (Below w.heap.size w wb) := HB.out.trans (b2.mono (by omega))
  replace c0 : wb.cell? ⟨w.heap.size, 0, none⟩ = some (.pointer none) := by rw [b2.cells (by omega)]; exact c0
  replace c1 : wb.cell? ⟨w.heap.size, 1, none⟩ = some (.pointer none) := by rw [b2.cells (by omega)]; exact c1
  replace c2 : wb.cell? ⟨w.heap.size, 2, none⟩ = some (.pointer none) := by rw [b2.cells (by omega)]; exact c2
  replace fz : ∀ o, wb.frozen? ⟨w.heap.size, o, none⟩ = false := fun o => by rw [b2.marks (by omega)]; exact fz o
  have s2 := b2.size
  clear R1 b2 o2
  go_wp2_with fail
  go_at_call 30
  refine (refNewYes W H _ (by omega) (by omega) (by omega) (by omega)).mono ?_
  rintro e wc ⟨bs, bc, g, cap, rfl, r1, r2, r3, Z1, b3⟩
  replace HD : Hid (DkAt wc M [rootW W H] 0 (H * W) (newR W H) newT) := HD.out.below b3
  replace HR : Hid (RkAt wc R [rootW W H] 0) := HR.out.below b3
  have HZ : Hid (RefAt wc bs bc g cap (H * W) (newR W H)) := Z1
  replace HB : Hid (Below w.heap.size w wc) := HB.out.trans (b3.mono (by omega))
  replace c0 : wc.cell? ⟨w.heap.size, 0, none⟩ = some (.pointer none) := by rw [b3.cells (by omega)]; exact c0
  replace c1 : wc.cell? ⟨w.heap.size, 1, none⟩ = some (.pointer none) := by rw [b3.cells (by omega)]; exact c1
  replace c2 : wc.cell? ⟨w.heap.size, 2, none⟩ = some (.pointer none) := by rw [b3.cells (by omega)]; exact c2
  replace fz : ∀ o, wc.frozen? ⟨w.heap.size, o, none⟩ = false := fun o => by rw [b3.marks (by omega)]; exact fz o
  have s3 := b3.size
  clear Z1 b3
  go_wp2_with fail
  have K : Keep (fun i => i = w.heap.size) wc (((wc.setCell ⟨w.heap.size, 0, none⟩ (.pointer (some ⟨M.t 0, 0, none⟩))).setCell ⟨w.heap.size, 1, none⟩ (.pointer (some ⟨R.d, 0, none⟩))).setCell ⟨w.heap.size, 2, none⟩ (.pointer (some ⟨bs, 0, none⟩))) := (((Keep.refl (fun i => i = w.heap.size) wc).setCell ⟨w.heap.size, 0, none⟩ _ (fun _ => rfl)).setCell ⟨w.heap.size, 1, none⟩ _ (fun _ => rfl)).setCell ⟨w.heap.size, 2, none⟩ _ (fun _ => rfl)
  have hno : ∀ i, (M.own [rootW W H] i ∨ R.own [rootW W H] i ∨ i = bs ∨ i = bc ∨ i = g) → w.heap.size + 1 ≤ i := by
    rintro i (hi | hi | hi)
    · exact (HO.out i hi).1
    · have := (HO2.out i hi).1; omega
    · omega
  refine bodyPost_ret (v := .tuple #[.agg (dkArr (some ⟨M.t 0, 0, none⟩) (some ⟨R.d, 0, none⟩) (some ⟨bs, 0, none⟩)), .bool true]) (by simp [results, Tryz.results9, go_sem, c0, c1, c2]) rfl ⟨⟨M, H * W, newR W H, newT, R, [rootW W H], 0, bs, bc, g, cap, H * W, newR W H⟩, rfl, ⟨HD.out.keep K (fun i hi e => by have := hno i (.inl hi); omega), HR.out.keep K (fun i hi e => by have := hno i (.inr (.inl hi)); omega), HZ.out.keepP K (by omega) (by omega) (by omega), ok_root W H, newR_ok (by omega) (by omega) (by omega) (by omega), newR_ok (by omega) (by omega) (by omega) (by omega), Int.le_refl 0, fun i hi hr => ?_, fun i hi hs => ?_, fun i hi hs => ?_⟩, rfl, rfl, HB.out.trans (K.toBelow (by omega) (fun i hi => by omega)), fun i hi => ?_⟩
  · have := (HO.out i hi).2; have := (HO2.out i hr).1; omega
  · have := (HO.out i hi).2
    have hs' : i = bs ∨ i = bc ∨ i = g := hs
    omega
  · have := (HO2.out i hi).2
    have hs' : i = bs ∨ i = bc ∨ i = g := hs
    omega
  · have := hno i hi; omega
/-- A desk of any size. -/
theorem lOpened (x y : Int) (w : World) (hw : 2 ≤ w.heap.size) :
    Calls Tryz.prog 9 #[.int .i64 x, .int .i64 y] w fun e w' => ∃ O px py ps, e = .returned (.tuple #[.agg (dkArr px py ps), .bool true]) ∧ OAt w' O px py ps ∧ Below w.heap.size w w' ∧ (∀ i, oOwn O i → w.heap.size ≤ i) ∧ oLast O = 0 := by
  cases hs : sizeB x y with
  | false =>
    refine (lOpenedNo x y w hs).mono ?_
    rintro e w' ⟨rfl, b⟩
    exact ⟨none, none, none, none, rfl, ⟨rfl, rfl, rfl⟩, b, fun i hi => False.elim hi, rfl⟩
  | true =>
    obtain ⟨a1, a2, a3, a4⟩ := sizeB_iff.1 hs
    obtain ⟨W, rfl⟩ := Int.eq_ofNat_of_zero_le (show 0 ≤ x by omega)
    obtain ⟨H, rfl⟩ := Int.eq_ofNat_of_zero_le (show 0 ≤ y by omega)
    refine (lOpenedYes W H w hs hw).mono ?_
    rintro e w' ⟨D, rfl, h, _, hl, b, u⟩
    exact ⟨some D, D.xp, D.yp, D.sp, rfl, ⟨rfl, rfl, rfl, h⟩, b, u, hl⟩
end Go.Proofs.YtjlfibhbfdckpaaGreatDoor
