/- Texts of the proof, one behind the other: PcL, PcK. -/
import Derived.Test.YtjlfibhbfdckpaaGreatDoorK46
import Derived.Test.YtjlfibhbfdckpaaGreatDoorCards
import Derived.Test.YtjlfibhbfdckpaaGreatDoorTie
import Derived.WalkKit
import Derived.ProofKit
import Derived.OpenShut
import Derived.ShutString
import Derived.SliceStrings
import Derived.ChangeOld
import Derived.Below
import Derived.Deep.DeepHandedRow
import Derived.Lib.LaidTab
import Derived.Lib.LaidU8T
/- The statement of pictures: the whole walk. -/
namespace Go.Proofs.YtjlfibhbfdckpaaGreatDoor
open Go.RowKit
attribute [local go_sem ↓] Go.wp_at_zero Go.wp_at_succ
theorem DvPost.below {w w' : World} {D D' : Dv} (h : DvPost w D D' w') {n : Nat} (hn : n ≤ w.heap.size) (hD : ∀ i, D.own i → n ≤ i) : Below n w w' := h.keep.toBelow hn (fun i hi q => by have := hD i q; omega)
set_option maxRecDepth 10000 in
set_option maxHeartbeats 4000000 in
theorem lPictures (x y v u : Int) (a : Option Addr) (n cap : Nat) (cs : List Ca) (w : World) (hw : 2 ≤ w.heap.size) (hF : CasIn w a n cs) (hn : n ≤ 9223372036854775807) :
    Calls Tryz.prog 3 #[.int .i64 x, .int .i64 y, .int .i64 v, .int .i64 u, .slice a n cap] w fun e w' => e = .returned (.bool true) ∧ Below w.heap.size w w' := by
  have HF : Hid (CasIn w a n cs) := hF
  clear hF
  go_enter Tryz.func3, Tryz.ntmps3
  go_wp2_with fail
  go_at_call 8
  refine (lPlays x y v u a n cap cs _ hw HF.out hn).mono ?_
  rintro e w1 ⟨rfl, b1⟩
  have HB : Hid (Below w.heap.size w w1) := b1
  have hs1 := b1.size
  clear b1
  go_wp2_with fail
  go_at_call 9
  refine (lOpenedYes 4 2 _ (by decide) (by omega)).mono ?_
  rintro e w2 ⟨D, rfl, hD, hL, hl, b2, hu⟩
  have HD : Hid (DvAt w2 D) := hD
  have Hu : Hid (∀ i, D.own i → w1.heap.size ≤ i) := hu
  have HL : Hid (D.L = [rootW 4 2] ∧ D.last = 0) := ⟨hL, hl⟩
  replace HB : Hid (Below w.heap.size w w2) := HB.out.trans (b2.mono hs1)
  have hs2 := b2.size
  clear hD hL hl b2 hu
  go_wp2_with fail
  generalize hw3 : w2.alloc _ = w3
  have b3 : Below w2.heap.size w2 w3 := by rw [← hw3]; exact (Below.refl _ _).alloc (Nat.le_refl _) _
  have Hd : Hid (DeAt w3 w2.heap.size D.xp D.yp D.sp) := by show _ = _; rw [← hw3]; exact heap_new w2 _
  have Hlt : Hid (∀ i, D.own i → i < w2.heap.size) := fun i hi => HD.out.lt hi
  replace HD : Hid (DvAt w3 D) := HD.out.below b3
  replace HB : Hid (Below w.heap.size w w3) := HB.out.trans (b3.mono (by omega))
  have hs3 := b3.size
  generalize w2.heap.size = Bd at *
  clear b3 hw3
  go_at_call 10
  refine (lEx1 HD.out HL.out.1 HL.out.2).mono ?_
  rintro e w4 ⟨rfl, D', e1, e2, P⟩
  have hbd3 : Bd < w3.heap.size := Hd.out.lt
  replace Hd : Hid (DeAt w4 Bd D.xp D.yp D.sp) := Hd.out.keep P.keep (fun q => by have := Hlt.out _ q; omega)
  replace HB : Hid (Below w.heap.size w w4) := HB.out.trans (P.below (by omega) (fun i hi => by have := Hu.out i hi; omega))
  have HD4 : Hid (DvAt w4 D') := P.dv
  have HL4 : Hid (D'.L = exL1) := e1
  have Hp4 : Hid (D'.xp = D.xp ∧ D'.yp = D.yp ∧ D'.sp = D.sp) := ⟨P.xp, P.yp, P.sp⟩
  have Hu4 : Hid (∀ i, D'.own i → w1.heap.size ≤ i ∧ i ≠ Bd) := fun i hi => by
    rcases P.own i hi with q | q
    · have := Hu.out i q; have := Hlt.out i q; omega
    · omega
  have hs4 := P.keep.size
  clear P e1 e2 HD HL Hlt
  obtain ⟨d0, d1, d2⟩ := Hd.out.cells
  go_wp2_with fail
  have hcall := lEx8 HD4.out HL4.out
  rw [Hp4.out.1, Hp4.out.2.1, Hp4.out.2.2] at hcall
  go_at_call 10
  refine hcall.mono ?_
  clear hcall
  rintro e w5 ⟨rfl, D2, e1, P⟩
  replace Hd : Hid (DeAt w5 Bd D.xp D.yp D.sp) := Hd.out.keep P.keep (fun q => (Hu4.out _ q).2 rfl)
  replace HB : Hid (Below w.heap.size w w5) := HB.out.trans (P.below (by omega) (fun i hi => by have := Hu4.out i hi; omega))
  have hok := P.dv.ok
  have hx5 := P.dv.x
  rw [e1] at hok hx5
  have hxp : some ⟨D2.M.t 0, 0, none⟩ = D.xp := P.xp.trans Hp4.out.1
  have hcell := kCell exT hok w5 hx5 (rootW 4 2) (by simp [exL2, updL, exL1, rootW, exW]) rfl 2 0 (by decide) (by decide)
  rw [show (some ⟨D2.M.t 0, 0, none⟩ : Option Addr) = D.xp from hxp, show picP exL2 1 (rootW 4 2) ((2 : Nat) : Int) ((0 : Nat) : Int) = ⟨121, 0, Pn.plain⟩ from exPic] at hcell
  have Hcell : Hid (Calls Tryz.prog 11 #[.pointer D.xp, .int .i64 2, .int .i64 0] w5 fun e w' => e = .returned (.tuple #[Cel.agg ⟨121, 0, Pn.plain⟩, .int .i64 0]) ∧ Below w5.heap.size w5 w') := hcell
  clear P e1 hok hx5 hxp hcell d0 d1 d2 HD4 HL4 Hp4 Hu4
  obtain ⟨d0, d1, d2⟩ := Hd.out.cells
  go_wp2_with fail
  go_at_call 11
  refine Hcell.out.mono ?_
  rintro e w6 ⟨rfl, b6⟩
  replace HB : Hid (Below w.heap.size w w6) := HB.out.trans (b6.mono HB.out.size)
  clear d0 d1 d2 b6 Hd Hcell
  dsimp only [Cel.agg, Pn.plain]
  go_wp2_with fail
  go_ret
  refine ⟨?_, ?_⟩
  · first | rfl | simp
  · first | exact HB.out.trans (((Below.refl _ _).alloc (Nat.le_refl _) _).mono HB.out.size) | exact HB.out
end Go.Proofs.YtjlfibhbfdckpaaGreatDoor

/- The proof of Pictures: the row and the card. -/
namespace Go.Proofs.YtjlfibhbfdckpaaGreatDoor.pictures
open Go.ChangeShapes Go.WideShapes Go.ChangeAt Go.RowKit
open Go.ChangeMaps (open_string shut_string)
theorem own : ownKnob Tryz.prog.godebug = none := by kernel_rfl
theorem laidOut : laidOutB Tryz.prog = true := by kernel_rfl
/-- The shelf's numbers for the two tables and their types, at this program. -/
def ren : Go.Shelf.Ren := ⟨fun x => x, fun x => if x = 5 then 5 else if x = 119 then 269 else if x = 138 then 271 else 272, fun x => if x = 3 then 0 else 1⟩
theorem types : U8Types Tryz.prog ren := ⟨by kernel_rfl, by kernel_rfl, by kernel_rfl, by kernel_rfl⟩
theorem extra : U8Extra Tryz.prog ren := ⟨by kernel_rfl, by kernel_rfl, by kernel_rfl, by kernel_rfl, by kernel_rfl, by kernel_rfl, by kernel_rfl⟩
theorem first_same : Rows.laid_unicode_utf8_first = Lib.firstData := by kernel_rfl
theorem accept_same : (Rows.laid_unicode_utf8_acceptRanges : DataW Unit) = Lib.acceptData := by kernel_rfl
theorem tabs {W : World} (h : laidMetH Tryz.prog Rows.picturesRow.laid W) : Lib.Utf8Tabs 0 1 W := by
  have h' : laidMet Tryz.prog Rows.picturesRow.laid W := h
  refine utf8Tabs_of_readsT types extra ?_ ?_
  · rw [← first_same]; exact Lib.laidMet.reads h' (by simp [Rows.picturesRow])
  · rw [← accept_same]; exact Lib.laidMet.reads h' (by simp [Rows.picturesRow])
theorem tabs_size {W : World} (h : Lib.Utf8Tabs 0 1 W) : 2 ≤ W.heap.size := World.block_lt_of_cell? _ _ (h.2 0 (by omega)).1
theorem nine {α : Type} {l : List α} (h : l.length = 9) : ∃ a b c d e f g i j, l = [a, b, c, d, e, f, g, i, j] := by
  match l, h with
  | [a, b, c, d, e, f, g, i, j], _ => exact ⟨a, b, c, d, e, f, g, i, j, rfl⟩
theorem five {α : Type} {l : List α} (h : l.length = 5) : ∃ a b c d e, l = [a, b, c, d, e] := by
  match l, h with
  | [a, b, c, d, e], _ => exact ⟨a, b, c, d, e, rfl⟩
theorem thirteen {α : Type} {l : List α} (h : l.length = 13) : ∃ a b c d e f g i j k m n o, l = [a, b, c, d, e, f, g, i, j, k, m, n, o] := by
  match l, h with
  | [a, b, c, d, e, f, g, i, j, k, m, n, o], _ => exact ⟨a, b, c, d, e, f, g, i, j, k, m, n, o, rfl⟩
theorem cInt : Tryz.prog.cellsOf 3 = 1 := by kernel_rfl
theorem cStr : Tryz.prog.cellsOf 9 = 1 := by kernel_rfl
theorem cBool : Tryz.prog.cellsOf 4 = 1 := by kernel_rfl
theorem cPen : Tryz.prog.cellsOf 33 = 5 := by kernel_rfl
theorem cCa : Tryz.prog.cellsOf 35 = 13 := by kernel_rfl
section
variable {H : Type} {enc : TypeId × Value → H} {base : Nat} {sp : Nat → Bool} {held : Bool} {W : World} {a : Option Addr} {n cap : Nat} {d : DataW H} {p : List MemPlace}
theorem pen_at {fuel : Nat} {cs : List Value} {y : DataW H × List MemPlace} (h : DataW.trod enc Tryz.prog W base sp held fuel 33 cs = some y) : ∃ q : Pn, cs = [.int .i64 q.f, .int .i64 q.b, .bool q.bo, .bool q.un, .bool q.re] := by
  obtain ⟨xs, m, _, _, hl, hz, he⟩ := DataW.trod_struct Tryz.underlying33 h
  rw [cPen] at hl
  have hz' : xs.length = 5 := by simpa using hz
  obtain ⟨x0, x1, x2, x3, x4, rfl⟩ := five hz'
  obtain ⟨c0, c1, c2, c3, c4, rfl⟩ := five hl
  have g0 := he 0 _ rfl
  have g1 := he 1 _ rfl
  have g2 := he 2 _ rfl
  have g3 := he 3 _ rfl
  have g4 := he 4 _ rfl
  simp [cInt, cBool] at g0 g1 g2 g3 g4
  obtain ⟨k0, e0, _, _⟩ := DataW.trod_int Tryz.underlying3 g0
  obtain ⟨k1, e1, _, _⟩ := DataW.trod_int Tryz.underlying3 g1
  obtain ⟨k2, e2, _⟩ := DataW.trod_bool Tryz.underlying4 g2
  obtain ⟨k3, e3, _⟩ := DataW.trod_bool Tryz.underlying4 g3
  obtain ⟨k4, e4, _⟩ := DataW.trod_bool Tryz.underlying4 g4
  simp only [List.cons.injEq, and_true] at e0 e1 e2 e3 e4
  subst e0 e1 e2 e3 e4
  exact ⟨⟨k0, k1, k2, k3, k4⟩, rfl⟩
set_option maxRecDepth 10000 in
theorem ca_at {fuel : Nat} {cs : List Value} {y : DataW H × List MemPlace} (h : DataW.trod enc Tryz.prog W base sp held fuel 35 cs = some y) :
    ∃ o : Ca, cs = [Value.int .i64 o.kd, .int .i64 o.on, .int .i64 o.a, .int .i64 o.b, .int .i64 o.c, .int .i64 o.d, .int .i64 o.e, .string o.s, .int .i64 o.p.f, .int .i64 o.p.b, .bool o.p.bo, .bool o.p.un, .bool o.p.re] ∧ (Lit.int .i64 o.on).wf = true := by
  obtain ⟨xs, m, _, _, hl, hz, he⟩ := DataW.trod_struct Tryz.underlying35 h
  rw [cCa] at hl
  have hz' : xs.length = 9 := by simpa using hz
  obtain ⟨x0, x1, x2, x3, x4, x5, x6, x7, x8, rfl⟩ := nine hz'
  obtain ⟨c0, c1, c2, c3, c4, c5, c6, c7, c8, c9, c10, c11, c12, rfl⟩ := thirteen hl
  have g0 := he 0 _ rfl
  have g1 := he 1 _ rfl
  have g2 := he 2 _ rfl
  have g3 := he 3 _ rfl
  have g4 := he 4 _ rfl
  have g5 := he 5 _ rfl
  have g6 := he 6 _ rfl
  have g7 := he 7 _ rfl
  have g8 := he 8 _ rfl
  simp [cInt, cStr, cPen] at g0 g1 g2 g3 g4 g5 g6 g7 g8
  obtain ⟨k0, e0, _, _⟩ := DataW.trod_int Tryz.underlying3 g0
  obtain ⟨k1, e1, _, w1⟩ := DataW.trod_int Tryz.underlying3 g1
  obtain ⟨k2, e2, _, _⟩ := DataW.trod_int Tryz.underlying3 g2
  obtain ⟨k3, e3, _, _⟩ := DataW.trod_int Tryz.underlying3 g3
  obtain ⟨k4, e4, _, _⟩ := DataW.trod_int Tryz.underlying3 g4
  obtain ⟨k5, e5, _, _⟩ := DataW.trod_int Tryz.underlying3 g5
  obtain ⟨k6, e6, _, _⟩ := DataW.trod_int Tryz.underlying3 g6
  obtain ⟨s7, e7, _, _⟩ := DataW.trod_string Tryz.underlying9 g7
  obtain ⟨q, e8⟩ := pen_at g8
  simp only [List.cons.injEq, and_true] at e0 e1 e2 e3 e4 e5 e6 e7 e8
  obtain ⟨f0, f1, f2, f3, f4⟩ := e8
  subst e0 e1 e2 e3 e4 e5 e6 e7 f0 f1 f2 f3 f4
  exact ⟨⟨k0, k1, k2, k3, k4, k5, k6, s7, q⟩, rfl, w1⟩
theorem cas_in (h : DataW.Trod enc Tryz.prog W base (fun _ => true) held 22 (.slice a n cap) d p) : ∃ cs, CasIn W a n cs ∧ n ≤ 9223372036854775807 := by
  obtain ⟨fuel, hf⟩ := h
  rcases DataW.trod_slice Tryz.underlying22 hf with ⟨hcs, _⟩ | ⟨x, l, c, elems, rest, m, _, hcs, hx, _, hl, hm, hlen, hel, _, _⟩
  · simp [Value.cells] at hcs
    obtain ⟨rfl, rfl, rfl⟩ := hcs
    exact ⟨[], fun k hk => by omega, by omega⟩
  · simp [Value.cells] at hcs
    obtain ⟨rfl, rfl, rfl⟩ := hcs
    unfold maxLen at hm
    rw [cCa] at hel
    have each : ∀ i, i < n → ∃ o : Ca, (∀ j, j < 13 → W.cell? ((x.add (i * 13)).add j) = ([Value.int .i64 o.kd, .int .i64 o.on, .int .i64 o.a, .int .i64 o.b, .int .i64 o.c, .int .i64 o.d, .int .i64 o.e, .string o.s, .int .i64 o.p.f, .int .i64 o.p.b, .bool o.p.bo, .bool o.p.un, .bool o.p.re] : List Value)[j]?) ∧ (Lit.int .i64 o.on).wf = true := by
      intro i hi
      have hi' : i < elems.length := by omega
      have h2 := hel i hi
      rw [List.getElem?_eq_getElem hi', Option.bind_eq_some_iff] at h2
      obtain ⟨cs, h3, h4⟩ := h2
      obtain ⟨o, rfl, hw⟩ := ca_at h4
      exact ⟨o, fun j hj => (World.cells?_some h3).2.2 j hj, hw⟩
    classical
    have hget : ∀ (k : Nat) (hk : k < n), ((List.range n).map (fun i => if h : i < n then Classical.choose (each i h) else noCa)).getD k noCa = Classical.choose (each k hk) := by
      intro k hk
      rw [List.getD_eq_getElem?_getD, List.getElem?_map, List.getElem?_range hk]
      simp [hk]
    refine ⟨(List.range n).map (fun i => if h : i < n then Classical.choose (each i h) else noCa), fun k hk => ?_, by omega⟩
    obtain ⟨hc, hw⟩ := Classical.choose_spec (each k hk)
    have h00 := (Classical.choose_spec (each 0 (by omega))).1 0 (by omega)
    rw [hget k hk]
    clear hget
    generalize Classical.choose (each k hk) = o at hc hw ⊢
    obtain ⟨b, off, spot⟩ := x
    have hspot : spot = none := by simpa [Addr.add] using World.cell?_spot h00
    subst hspot
    have hcc : ∀ j, j < 13 → W.cell? ⟨b, off + k * 13 + j, none⟩ = ([Value.int .i64 o.kd, .int .i64 o.on, .int .i64 o.a, .int .i64 o.b, .int .i64 o.c, .int .i64 o.d, .int .i64 o.e, .string o.s, .int .i64 o.p.f, .int .i64 o.p.b, .bool o.p.bo, .bool o.p.un, .bool o.p.re] : List Value)[j]? := fun j hj => by
      have := hc j hj; rw [Go.WideShapes.add_plain, Go.WideShapes.add_plain] at this; exact this
    have hb := bounds_i64 hw
    exact ⟨b, off, rfl, World.block_lt_of_cell? _ _ (hcc 0 (by omega)), hcc 0 (by omega), hcc 1 (by omega), hcc 2 (by omega), hcc 3 (by omega), hcc 4 (by omega), hcc 5 (by omega), hcc 6 (by omega), hcc 7 (by omega), hcc 8 (by omega), hcc 9 (by omega), hcc 10 (by omega), hcc 11 (by omega), hcc 12 (by omega), hb.1, hb.2⟩
end
set_option maxRecDepth 100000 in
/-- WHAT THE WALK GIVES. -/
theorem contract (H : Type) (enc : TypeId × Value → H) (W : World) (base : Nat) (args : Array Value) (ds gs : List (DataW H)) (before : List MemPlace)
    (hval : ∀ (j : Nat) t v, Tryz.f3.params[j]? = some t → args[j]? = some v → Value.okWide Tryz.prog W .any base t v)
    (hW : DataW.Whole enc Tryz.prog Tryz.f3.params.toList Rows.picturesSpec.vars false W args.toList ds gs before) (hL : 2 ≤ W.heap.size) :
    Calls Tryz.prog 3 args W fun e W' => ∃ v, e = .returned v ∧ Rows.picturesSpec.post enc Tryz.prog Tryz.f3 false true false false W args v W' := by
  have hW' := hW
  obtain ⟨p, q, hA0, hV, rfl, hfz, hnd⟩ := hW
  have hA : DataW.TrodAll enc Tryz.prog W 0 (fun _ => true) true Tryz.f3.params.toList args.toList ds p := hA0
  rw [Tryz.params3] at hA hval
  obtain ⟨v0, vs0, d0, ds0, p0, q0, hargs, rfl, rfl, h0, r0⟩ := trodAll_cons hA
  obtain ⟨v1, vs1, d1, ds1, p1, q1, hargs1, rfl, rfl, h1, r1⟩ := trodAll_cons r0
  obtain ⟨v2, vs2, d2, ds2, p2, q2, hargs2, rfl, rfl, h2, r2⟩ := trodAll_cons r1
  obtain ⟨v3, vs3, d3, ds3, p3, q3, hargs3, rfl, rfl, h3, r3⟩ := trodAll_cons r2
  obtain ⟨v4, vs4, d4, ds4, p4, q4, hargs4, rfl, rfl, h4, r4⟩ := trodAll_cons r3
  obtain ⟨rfl, rfl, rfl⟩ := trodAll_nil r4
  subst hargs4 hargs3 hargs2 hargs1
  obtain rfl : args = #[v0, v1, v2, v3, v4] := by cases args; simp_all
  obtain ⟨rfl, rfl⟩ := trodVars_none hV
  have k0 := h0
  have k1 := h1
  have k2 := h2
  have k3 := h3
  have k4 := h4
  have lt0 : ∀ x ∈ p0, x.block < W.heap.size := by obtain ⟨m, hm⟩ := k0; exact DataW.trod_lt m _ _ _ hm
  have lt1 : ∀ x ∈ p1, x.block < W.heap.size := by obtain ⟨m, hm⟩ := k1; exact DataW.trod_lt m _ _ _ hm
  have lt2 : ∀ x ∈ p2, x.block < W.heap.size := by obtain ⟨m, hm⟩ := k2; exact DataW.trod_lt m _ _ _ hm
  have lt3 : ∀ x ∈ p3, x.block < W.heap.size := by obtain ⟨m, hm⟩ := k3; exact DataW.trod_lt m _ _ _ hm
  have lt4 : ∀ x ∈ p4, x.block < W.heap.size := by obtain ⟨m, hm⟩ := k4; exact DataW.trod_lt m _ _ _ hm
  obtain ⟨x, rfl, _, _, hx⟩ := open_int Tryz.underlying3 (hval 0 3 v0 rfl rfl) h0
  obtain ⟨y, rfl, _, _, hy⟩ := open_int Tryz.underlying3 (hval 1 3 v1 rfl rfl) h1
  obtain ⟨z, rfl, _, _, hz⟩ := open_int Tryz.underlying3 (hval 2 3 v2 rfl rfl) h2
  obtain ⟨u, rfl, _, _, hu⟩ := open_int Tryz.underlying3 (hval 3 3 v3 rfl rfl) h3
  obtain ⟨ta, tn, tc, rfl⟩ := okWide_slice Tryz.underlying22 (hval 4 22 v4 rfl rfl)
  obtain ⟨cs, hF, hn⟩ := cas_in h4
  refine (lPictures x y z u ta tn tc cs W hL hF hn).mono fun e W' ⟨he, bel⟩ => ?_
  subst he
  exact ⟨_, rfl, _, _, _, [], _, [], hW', trodAll_mk1 (shut_bool Tryz.underlying4 _),
    (trodAll_cons_mk (Below.trod laidOut (by kernel_rfl) (of_decide_eq_true (by kernel_rfl)) k0 bel lt0) (trodAll_cons_mk (Below.trod laidOut (by kernel_rfl) (of_decide_eq_true (by kernel_rfl)) k1 bel lt1) (trodAll_cons_mk (Below.trod laidOut (by kernel_rfl) (of_decide_eq_true (by kernel_rfl)) k2 bel lt2) (trodAll_cons_mk (Below.trod laidOut (by kernel_rfl) (of_decide_eq_true (by kernel_rfl)) k3 bel lt3) (trodAll_cons_mk (Below.trod laidOut (by kernel_rfl) (of_decide_eq_true (by kernel_rfl)) k4 bel lt4) trodAll_mk0))))), rfl, bel.frame _, fun h => by cases h⟩
/-- A world for the witness: the settled one, the tables holding what is laid. -/
def flatV : DataW Unit → List Value
  | .agg l => l.flatMap fun d => match d with
    | .lit (.int k z) => [.int k z]
    | .agg m => m.map fun d => match d with
      | .lit (.int k z) => .int k z
      | _ => .bool false
    | _ => []
  | _ => []
def lay (d : DataW Unit) : Obj → Obj
  | .cells _ t frozen => .cells (flatV d).toArray t frozen
  | o => o
noncomputable def laidWorld (os : Os) : World :=
  { World.holding Tryz.prog os ⟨#[], #[], []⟩ with heap := (((((World.holding Tryz.prog os ⟨#[], #[], []⟩).heap.modify 0 (lay Rows.laid_unicode_utf8_first)).modify 1 (lay Rows.laid_unicode_utf8_acceptRanges)).modify 3 (lay Rows.laid_internal_strconv_uint64pow10)).modify 4 (lay Rows.laid_math_bits_deBruijn32tab)).modify 5 (lay Rows.laid_math_bits_deBruijn64tab) }
theorem laid_met (os : Os) : laidMet Tryz.prog Rows.picturesRow.laid ((laidWorld os).forCall (fun _ _ => 0) ⟨#[], #[.int .i64 0, .int .i64 0, .int .i64 0, .int .i64 0, .slice none 0 0], []⟩).memory :=
  laidMet_of_run' 8 (by kernel_rfl) (by kernel_rfl)
theorem reads (os : Os) {H : Type} (enc : TypeId × Value → H) : ∃ places, DataW.whole enc Tryz.prog ((laidWorld os).forCall (fun _ _ => 0) ⟨#[], #[.int .i64 0, .int .i64 0, .int .i64 0, .int .i64 0, .slice none 0 0], []⟩).memory Tryz.f3.params.toList Rows.picturesSpec.vars false #[Value.int .i64 0, .int .i64 0, .int .i64 0, .int .i64 0, .slice none 0 0].toList 8 = some ([.lit (.int .i64 0), .lit (.int .i64 0), .lit (.int .i64 0), .lit (.int .i64 0), .nil], [], places) :=
  ⟨[], by kernel_rfl⟩
set_option maxRecDepth 100000 in
theorem lifted (os : Os) (started : os.Started) (H : Type) (enc : TypeId × Value → H) (F : Stop.Interp) :
    ReturnsInHanded {} Tryz.checked os 3 .any ((OpenSpec.ofChange Rows.picturesSpec).preRow enc Tryz.prog Tryz.f3 Rows.picturesRow.domain false Rows.picturesRow.laid) (((OpenSpec.ofChange Rows.picturesSpec).at F).post enc Tryz.prog Tryz.f3 false true false false) := by
  obtain ⟨places, hx⟩ := reads os enc
  refine returnsInHanded_of_row (C := Tryz.checked) (s := OpenSpec.ofChange Rows.picturesSpec) own started (by kernel_rfl) Tryz.func3
    (witness_row_at (enc := enc) (C := Tryz.checked) false (laidWorld os) #[.int .i64 0, .int .i64 0, .int .i64 0, .int .i64 0, .slice none 0 0] rfl (by kernel_rfl) (by kernel_rfl) (by kernel_rfl)
      (OpenSpec.preRow_of_cond 8 hx (by kernel_rfl) (fun k hk => by cases hk) (by kernel_rfl) (laid_met os))) ?_
  intro W base args ds gs before hval hW _ _ _ hL _ _
  exact contract H enc W base args ds gs before hval hW (tabs_size (tabs hL))
theorem said : Rows.PicturesSaid :=
  OpenClaim.holds_of_cond 3 Tryz.f3 rfl rfl rfl rfl rfl rfl rfl ⟨rfl, rfl, rfl, rfl, rfl⟩ rfl rfl rfl rfl rfl (by kernel_rfl) Tryz.func3 (by kernel_rfl)
    (of_decide_eq_true (by kernel_rfl)) (by unfold Func.isWrapper; first | (rw [if_pos (by decide +kernel)]; kernel_rfl) | (rw [if_neg (by decide +kernel)]; exact ⟨rfl, rfl⟩))
    (fun os started H enc _ F => by rw [OpenClaim.pre_eq_preRow]; exact lifted os started H enc F)
theorem plain (f : FuncId) (fn : Func) (hf : Tryz.pinned.checked.prog.funcNamed "casement/casementlaw.Pictures" = some f) (hfn : Tryz.pinned.checked.prog.funcs[f]? = some fn) :
    true = Tryz.pinned.checked.prog.looks [] ∧ ∀ (j : Nat) t, fn.params[j]? = some t → Tryz.pinned.checked.prog.wantsStandIn t = false := by
  obtain rfl : f = 3 := Option.some.inj ((show Tryz.prog.funcNamed "casement/casementlaw.Pictures" = some 3 by kernel_rfl).symm.trans hf) |>.symm
  obtain rfl : fn = Tryz.f3 := (Option.some.inj (Tryz.func3.symm.trans hfn)).symm
  refine ⟨by kernel_rfl, fun j t ht => ?_⟩
  rw [Tryz.params3] at ht
  have hm : t = 3 ∨ t = 22 := by simpa using Array.mem_of_getElem? ht
  rcases hm with rfl | rfl
  · exact (show Tryz.prog.wantsStandIn 3 = false by kernel_rfl)
  · exact (show Tryz.prog.wantsStandIn 22 = false by kernel_rfl)
theorem card : Rows.PicturesCardSaid :=
  Claim7.holds_tied_plain_at .later [] _ _ _ _ said (fun _ h => by cases h) (by kernel_rfl) (fun _ h => by cases h) pictures_row_tie rfl ⟨rfl, rfl⟩ (by kernel_rfl) rfl plain (by kernel_rfl)
end Go.Proofs.YtjlfibhbfdckpaaGreatDoor.pictures
namespace Go.Proofs.YtjlfibhbfdckpaaGreatDoor
theorem pictures_holds : Rows.PicturesCardSaid := pictures.card
#print axioms pictures_holds
end Go.Proofs.YtjlfibhbfdckpaaGreatDoor
