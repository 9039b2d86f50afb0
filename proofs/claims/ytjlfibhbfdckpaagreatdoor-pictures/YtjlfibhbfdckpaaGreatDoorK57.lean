/- Texts of the proof, one behind the other: PcJ, PcL. -/
import Derived.Test.YtjlfibhbfdckpaaGreatDoorK56
/- The statement of pictures: its own example. -/
namespace Go.Proofs.YtjlfibhbfdckpaaGreatDoor
open Go.RowKit
attribute [local go_sem ↓] Go.wp_at_zero Go.wp_at_succ
def exC1 : Ca := ⟨1, 0, 0, 1, 0, 2, 1, ⟨#[]⟩, Pn.plain⟩
def exC8 : Ca := ⟨8, 0, 1, 0, 0, 0, 0, ⟨#[120, 121]⟩, Pn.plain⟩
def exW : Wn := ⟨1, 0, 1, 0, true, 2, 1, fun _ _ => blk Pn.plain⟩
def exL1 : List Wn := [rootW 4 2, exW]
def exG : Nat → Nat → Cel := writeAll 2 1 0 Pn.plain 0 (runesG ⟨#[120, 121]⟩ 2 0) (fun _ _ => blk Pn.plain)
def exL2 : List Wn := updL exL1 1 (fun u => { u with G := exG })
theorem exT : Tree exL2 (fun n => if n = 0 then 0 else 1) 1 := by
  refine ⟨⟨rootW 4 2, [{ exW with G := exG }], rfl, rfl, rfl, fun v hv => ?_⟩, by decide, fun v hv hp => ?_, fun v hv => ?_⟩
  · obtain rfl : v = { exW with G := exG } := by simpa using hv
    exact ⟨by decide, by decide⟩
  · have hv' : v = rootW 4 2 ∨ v = { exW with G := exG } := by simpa [exL2, updL, exL1, rootW, exW] using hv
    rcases hv' with rfl | rfl
    · exact absurd hp (by decide)
    · exact ⟨⟨rootW 4 2, by simp [exL2, updL, exL1, rootW, exW], rfl⟩, by decide⟩
  · split <;> omega
theorem exPic : picP exL2 1 (rootW 4 2) 2 0 = ⟨121, 0, Pn.plain⟩ := by rfl
theorem lEx1 {w : World} {D : Dv} (h : DvAt w D) (hL : D.L = [rootW 4 2]) (hl : D.last = 0) :
    Calls Tryz.prog 10 #[.agg (dkArr D.xp D.yp D.sp), exC1.agg] w fun e w' => e = .returned (.bool true) ∧ ∃ D', D'.L = exL1 ∧ D'.last = 1 ∧ DvPost w D D' w' := by
  have ok := h.ok
  rw [hL, hl] at ok
  have T : Tot 48 96 (fun p => #[.pointer p, .int .i64 0, .int .i64 1, .int .i64 0, .int .i64 2, .int .i64 1]) D.L D.last exL1 1 (.tuple #[.int .i64 1, .int .i64 0]) := by
    rw [hL, hl]
    exact totCreateYes ok (Int.le_refl 0) (by omega) (rootW 4 2) (by simp) 1 0 2 1 (by decide) (by decide) (by decide)
  refine (lcallMoves exC1 (by decide) (by decide) (by decide) (by decide) (by decide) (by decide) (Q := fun wA w' => ∃ D', D'.L = exL1 ∧ D'.last = 1 ∧ DvPost wA D D' w') (fun wA b => ?_)).mono ?_
  · have hA := h.below b
    refine (lmoves1 0 0 1 0 2 1 ⟨#[]⟩ Pn.plain (O := D.own) (Q := fun wA w' => ∃ D', D'.L = exL1 ∧ D'.last = 1 ∧ DvPost wA D D' w') (fun i hi => hA.lt hi) (fun wB q => T.both hA wB q)).mono ?_
    rintro e w' ⟨rfl, wB, q, D', e1, e2, P⟩
    exact ⟨rfl, D', e1, e2, P.after q⟩
  · rintro e w' ⟨rfl, wA, q, D', e1, e2, P⟩
    exact ⟨rfl, D', e1, e2, P.after q⟩
theorem lEx8 {w : World} {D : Dv} (h : DvAt w D) (hL : D.L = exL1) :
    Calls Tryz.prog 10 #[.agg (dkArr D.xp D.yp D.sp), exC8.agg] w fun e w' => e = .returned (.bool true) ∧ ∃ D', D'.L = exL2 ∧ DvPost w D D' w' := by
  have ok := h.ok
  rw [hL] at ok
  have T : Tot 31 32 (fun q => #[.pointer q, .int .i64 1, .int .i64 0, .int .i64 0, .string ⟨#[120, 121]⟩, Pn.plain.agg]) D.L D.last exL2 D.last (.int .i64 0) := by
    rw [hL]
    exact totWriteYes ok exW (by simp [exL1]) 0 0 (by decide) ⟨#[120, 121]⟩ (by decide) Pn.plain (by decide)
  refine (lcall8 0 1 0 0 0 0 ⟨#[120, 121]⟩ Pn.plain (O := D.own) (Q := fun wA w' => ∃ D', D'.L = exL2 ∧ D'.last = D.last ∧ DvPost wA D D' w') (fun i hi => h.lt hi) (fun wB q => T.both h wB q)).mono ?_
  rintro e w' ⟨rfl, wB, q, D', e1, e2, P⟩
  exact ⟨rfl, D', e1, P.after q⟩
end Go.Proofs.YtjlfibhbfdckpaaGreatDoor

/- The statement of pictures: the whole walk. -/
namespace Go.Proofs.YtjlfibhbfdckpaaGreatDoor
open Go.RowKit
attribute [local go_sem ↓] Go.wp_at_zero Go.wp_at_succ
theorem DvPost.below {w w' : World} {D D' : Dv} (h : DvPost w D D' w') {n : Nat} (hn : n ≤ w.heap.size) (hD : ∀ i, D.own i → n ≤ i) : Below n w w' := h.keep.toBelow hn (fun i hi q => by have := hD i q; omega)
set_option maxRecDepth 10000 in
set_option maxHeartbeats 4000000 in
theorem lPictures (x y v u : Int) (a : Option Addr) (n cap : Nat) (cs : List Ca) (w : World) (hw : 2 ≤ w.heap.size) (hF : CasIn w a n cs) (hn : n ≤ 9223372036854775807) :
    Calls Tryz.prog 3 #[.int .i64 x, .int .i64 y, .int .i64 v, .int .i64 u, .slice a n cap] w fun e w' => e = .returned (.bool true) ∧ Below w.heap.size w w' := by
  have HF : Hid (CasIn w a n cs) := hF
  clear hF
  go_enter Tryz.func3, Tryz.ntmps3
  go_wp2_with fail
  go_at_call 8
  refine (lPlays x y v u a n cap cs _ hw HF.out hn).mono ?_
  rintro e w1 ⟨rfl, b1⟩
  have HB : Hid (Below w.heap.size w w1) := b1
  have hs1 := b1.size
  clear b1
  go_wp2_with fail
  go_at_call 9
  refine (lOpenedYes 4 2 _ (by decide) (by omega)).mono ?_
  rintro e w2 ⟨D, rfl, hD, hL, hl, b2, hu⟩
  have HD : Hid (DvAt w2 D) := hD
  have Hu : Hid (∀ i, D.own i → w1.heap.size ≤ i) := hu
  have HL : Hid (D.L = [rootW 4 2] ∧ D.last = 0) := ⟨hL, hl⟩
  replace HB : Hid (Below w.heap.size w w2) := HB.out.trans (b2.mono hs1)
  have hs2 := b2.size
  clear hD hL hl b2 hu
  go_wp2_with fail
  generalize hw3 : w2.alloc _ = w3
  have b3 : Below w2.heap.size w2 w3 := by rw [← hw3]; exact (Below.refl _ _).alloc (Nat.le_refl _) _
  have Hd : Hid (DeAt w3 w2.heap.size D.xp D.yp D.sp) := by show _ = _; rw [← hw3]; exact heap_new w2 _
  have Hlt : Hid (∀ i, D.own i → i < w2.heap.size) := fun i hi => HD.out.lt hi
  replace HD : Hid (DvAt w3 D) := HD.out.below b3
  replace HB : Hid (Below w.heap.size w w3) := HB.out.trans (b3.mono (by omega))
  have hs3 := b3.size
  generalize w2.heap.size = Bd at *
  clear b3 hw3
  go_at_call 10
  refine (lEx1 HD.out HL.out.1 HL.out.2).mono ?_
  rintro e w4 ⟨rfl, D', e1, e2, P⟩
  have hbd3 : Bd < w3.heap.size := Hd.out.lt
  replace Hd : Hid (DeAt w4 Bd D.xp D.yp D.sp) := Hd.out.keep P.keep (fun q => by have := Hlt.out _ q; omega)
  replace HB : Hid (Below w.heap.size w w4) := HB.out.trans (P.below (by omega) (fun i hi => by have := Hu.out i hi; omega))
  have HD4 : Hid (DvAt w4 D') := P.dv
  have HL4 : Hid (D'.L = exL1) := e1
  have Hp4 : Hid (D'.xp = D.xp ∧ D'.yp = D.yp ∧ D'.sp = D.sp) := ⟨P.xp, P.yp, P.sp⟩
  have Hu4 : Hid (∀ i, D'.own i → w1.heap.size ≤ i ∧ i ≠ Bd) := fun i hi => by
    rcases P.own i hi with q | q
    · have := Hu.out i q; have := Hlt.out i q; omega
    · omega
  have hs4 := P.keep.size
  clear P e1 e2 HD HL Hlt
  obtain ⟨d0, d1, d2⟩ := Hd.out.cells
  go_wp2_with fail
  have hcall := lEx8 HD4.out HL4.out
  rw [Hp4.out.1, Hp4.out.2.1, Hp4.out.2.2] at hcall
  go_at_call 10
  refine hcall.mono ?_
  clear hcall
  rintro e w5 ⟨rfl, D2, e1, P⟩
  replace Hd : Hid (DeAt w5 Bd D.xp D.yp D.sp) := Hd.out.keep P.keep (fun q => (Hu4.out _ q).2 rfl)
  replace HB : Hid (Below w.heap.size w w5) := HB.out.trans (P.below (by omega) (fun i hi => by have := Hu4.out i hi; omega))
  have hok := P.dv.ok
  have hx5 := P.dv.x
  rw [e1] at hok hx5
  have hxp : some ⟨D2.M.t 0, 0, none⟩ = D.xp := P.xp.trans Hp4.out.1
  have hcell := kCell exT hok w5 hx5 (rootW 4 2) (by simp [exL2, updL, exL1, rootW, exW]) rfl 2 0 (by decide) (by decide)
  rw [show (some ⟨D2.M.t 0, 0, none⟩ : Option Addr) = D.xp from hxp, show picP exL2 1 (rootW 4 2) ((2 : Nat) : Int) ((0 : Nat) : Int) = ⟨121, 0, Pn.plain⟩ from exPic] at hcell
  have Hcell : Hid (Calls Tryz.prog 11 #[.pointer D.xp, .int .i64 2, .int .i64 0] w5 fun e w' => e = .returned (.tuple #[Cel.agg ⟨121, 0, Pn.plain⟩, .int .i64 0]) ∧ Below w5.heap.size w5 w') := hcell
  clear P e1 hok hx5 hxp hcell d0 d1 d2 HD4 HL4 Hp4 Hu4
  obtain ⟨d0, d1, d2⟩ := Hd.out.cells
  go_wp2_with fail
  go_at_call 11
  refine Hcell.out.mono ?_
  rintro e w6 ⟨rfl, b6⟩
  replace HB : Hid (Below w.heap.size w w6) := HB.out.trans (b6.mono HB.out.size)
  clear d0 d1 d2 b6 Hd Hcell
  dsimp only [Cel.agg, Pn.plain]
  go_wp2_with fail
  go_ret
  refine ⟨?_, ?_⟩
  · first | rfl | simp
  · first | exact HB.out.trans (((Below.refl _ _).alloc (Nat.le_refl _) _).mono HB.out.size) | exact HB.out
end Go.Proofs.YtjlfibhbfdckpaaGreatDoor
