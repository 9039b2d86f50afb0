/- Texts of the proof, one behind the other: SfC, SfD, SpA. -/
import Derived.Test.YtjlfibhbfdckpaaDoorK14
import Derived.Test.YtjlfibhbfdckpaaDoorCards
import Derived.Test.YtjlfibhbfdckpaaDoorTie
import Derived.WalkKit
import Derived.ProofKit
import Derived.OpenShut
import Derived.ShutString
import Derived.SliceStrings
import Derived.ChangeOld
import Derived.Below
import Derived.Deep.DeepHandedRow
import Derived.Lib.LaidTab
import Derived.Lib.LaidU8T
/- The statements without the document's answer: Safe. -/
namespace Go.Proofs.YtjlfibhbfdckpaaDoor
open Go.RowKit
attribute [local go_sem ↓] Go.wp_at_zero Go.wp_at_succ
/-- The program's screen, all its blocks made behind B. -/
structure CsUp (B : Nat) (w : World) (pc bs bg : Nat) (s : Rs) : Prop where
  at' : ∃ g N, CsAt w pc bs bg g N s ∧ B ≤ g
  u1 : B ≤ pc
  u2 : B ≤ bs
  u3 : B ≤ bg
theorem CsUp.below {B : Nat} {w w' : World} {pc bs bg : Nat} {s : Rs} (h : CsUp B w pc bs bg s) (hb : Below w.heap.size w w') : CsUp B w' pc bs bg s := by
  obtain ⟨g, N, C, u⟩ := h.at'
  exact ⟨⟨g, N, C.below hb, u⟩, h.u1, h.u2, h.u3⟩
theorem uFeed {w0 w : World} {pc bs bg : Nat} {s : Rs} (b : ByteArray) (h : CsUp w0.heap.size w pc bs bg s) (hB : Below w0.heap.size w0 w) (T : Tabs w0) (hb : b.size ≤ 9223372036854775807) :
    Calls Tryd.prog 12 #[.pointer (some ⟨pc, 0, none⟩), .string b] w fun e w' => e = .returned (.tuple #[]) ∧ CsUp w0.heap.size w' pc bs bg (feedR s b.data.toList) ∧ Below w0.heap.size w0 w' := by
  obtain ⟨g, N, C, u⟩ := h.at'
  have u2 := h.u2
  have u3 := h.u3
  have T' : Tabs w := T.below hB
  refine (cFeed pc bs bg g N s b w C T' hb).mono ?_
  rintro e w' ⟨g', N', rfl, C', K, hg⟩
  have := hB.size
  exact ⟨rfl, ⟨⟨g', N', C', by omega⟩, h.u1, u2, u3⟩, hB.trans (K.toBelow hB.size (fun i hi => by omega))⟩
theorem uResize {w0 w : World} {pc bs bg : Nat} {s : Rs} {W H : Nat} (h : CsUp w0.heap.size w pc bs bg s) (hB : Below w0.heap.size w0 w) (w1 : 1 ≤ W) (w2 : W ≤ 40) (h1 : 1 ≤ H) (h2 : H ≤ 20) :
    Calls Tryd.prog 15 #[.pointer (some ⟨pc, 0, none⟩), .int .i64 W, .int .i64 H] w fun e w' => e = .returned (.int .i64 0) ∧ CsUp w0.heap.size w' pc bs bg (resizeR s W H) ∧ Below w0.heap.size w0 w' := by
  obtain ⟨g, N, C, u⟩ := h.at'
  have u2 := h.u2
  have u3 := h.u3
  refine (cResizeYes pc bs bg g N s W H w C w1 w2 h1 h2).mono ?_
  rintro e w' ⟨g', N', rfl, C', K, hg⟩
  have := hB.size
  exact ⟨rfl, ⟨⟨g', N', C', by omega⟩, h.u1, u2, u3⟩, hB.trans (K.toBelow hB.size (fun i hi => by omega))⟩
theorem uSound {w : World} {B pc bs bg : Nat} {s : Rs} (h : CsUp B w pc bs bg s) :
    Calls Tryd.prog 13 #[.pointer (some ⟨pc, 0, none⟩)] w fun e w' => e = .returned (.bool true) ∧ Below w.heap.size w w' := by
  obtain ⟨g, N, C, u⟩ := h.at'
  exact kSound pc bs bg g N s w C
theorem uState {w : World} {B pc bs bg : Nat} {s : Rs} (h : CsUp B w pc bs bg s) :
    Calls Tryd.prog 16 #[.pointer (some ⟨pc, 0, none⟩)] w fun e w' => e = .returned (stAgg s.W s.H s.x s.y s.pend s.pen s.top s.bot (groundB s)) ∧ Below w.heap.size w w' := by
  obtain ⟨g, N, C, u⟩ := h.at'
  exact cState pc bs bg g N s w C
/-- What a walk is told of a slice of strings that came in. -/
def StrsIn (w : World) (a : Option Addr) (n : Nat) (ts : List ByteArray) : Prop :=
  ∀ k, k < n → ∃ b off, a = some ⟨b, off, none⟩ ∧ b < w.heap.size ∧ w.cell? ⟨b, off + k, none⟩ = some (.string (ts.getD k ByteArray.empty)) ∧ (ts.getD k ByteArray.empty).size ≤ 9223372036854775807
/-- And of a slice of integers. -/
def IntsIn (w : World) (a : Option Addr) (n : Nat) (zs : List Int) : Prop :=
  ∀ k, k < n → ∃ b off, a = some ⟨b, off, none⟩ ∧ b < w.heap.size ∧ w.cell? ⟨b, off + k, none⟩ = some (.int .i64 (zs.getD k 0)) ∧ -9223372036854775808 ≤ zs.getD k 0 ∧ zs.getD k 0 ≤ 9223372036854775807
theorem tdiv_in {z : Int} {k : Int} (hk : 1 ≤ k) (h0 : -9223372036854775808 ≤ z) (h1 : z ≤ 9223372036854775807) : -9223372036854775808 ≤ z.tdiv k ∧ z.tdiv k ≤ 9223372036854775807 := by
  rcases Int.le_total 0 z with h | h
  · have a := Int.tdiv_nonneg h (by omega : 0 ≤ k)
    have b : z.tdiv k ≤ z := Int.tdiv_le_self _ h
    omega
  · have a := Int.tdiv_nonneg (show 0 ≤ -z by omega) (by omega : 0 ≤ k)
    have b : (-z).tdiv k ≤ -z := Int.tdiv_le_self _ (by omega)
    rw [Int.neg_tdiv] at a b
    omega
set_option maxRecDepth 10000 in
set_option maxHeartbeats 4000000 in
theorem kSafe (x y : Int) (ta : Option Addr) (tn tc : Nat) (ts : List ByteArray) (za : Option Addr) (zn zc : Nat) (zs : List Int) (w : World) (T : Tabs w) (hw : 2 ≤ w.heap.size)
    (x0 : -9223372036854775808 ≤ x) (x1 : x ≤ 9223372036854775807) (y0 : -9223372036854775808 ≤ y) (y1 : y ≤ 9223372036854775807)
    (hT : StrsIn w ta tn ts) (hZ : IntsIn w za zn zs) (ht : tn ≤ 9223372036854775807) :
    Calls Tryd.prog 4 #[.int .i64 x, .int .i64 y, .slice ta tn tc, .slice za zn zc] w fun e w' => e = .returned (.bool true) ∧ Below w.heap.size w w' := by
  have HT : Hid (Tabs w) := T
  have HS : Hid (StrsIn w ta tn ts) := hT
  have HZ : Hid (IntsIn w za zn zs) := hZ
  clear T hT hZ
  go_enter Tryd.func4, Tryd.ntmps4
  go_wp2_with fail
  go_at_call 10
  refine (kWorks _ HT.out hw).mono ?_
  rintro e wa ⟨rfl, b1⟩
  have HB1 : Hid (Below w.heap.size w wa) := b1
  have hwa : 2 ≤ wa.heap.size := Nat.le_trans hw b1.size
  clear b1
  go_wp2_with fail
  go_at_call 11
  refine (kScreen x y _ hwa x0 x1 y0 y1).mono ?_
  rintro e wb ⟨pc, bs, bg, g, N, rfl, C1, b1, q0, q1, q2, q3⟩
  have hsz := HB1.out.size
  have HC2 : Hid (CsUp w.heap.size wb pc bs bg (newR (1 + pickK x 40) (1 + pickK y 20))) := ⟨⟨g, N, C1, by omega⟩, by omega, by omega, by omega⟩
  have HB2 : Hid (Below w.heap.size w wb) := HB1.out.trans (b1.mono hsz)
  clear C1 b1 q0 q1 q2 q3 hsz hwa HB1
  go_wp2_with fail
  go_loopw [11] (fun i w' => ∃ (k : Nat) (s : Rs), k ≤ tn ∧ i = .int .i64 k ∧ CsUp w.heap.size w' pc bs bg s ∧ Below w.heap.size w w') (fun i _ => tn - (intOf i).toNat)
  case atStart => exact ⟨0, _, by omega, rfl, HC2.out, HB2.out⟩
  case round =>
    obtain ⟨k, s, hk, rfl, hC, hB⟩ := hrel
    clear HC2 HB2
    have HC2 : Hid (CsUp w.heap.size wr pc bs bg s) := hC
    have HB2 : Hid (Below w.heap.size w wr) := hB
    by_cases hlt : k < tn
    · obtain ⟨b, off, rfl, hbs, hcell, hsz⟩ := HS.out k hlt
      have hc : wr.cell? ⟨b, off + k, none⟩ = some (.string (ts.getD k ByteArray.empty)) := (hB.cell (p := ⟨b, off + k, none⟩) hbs).trans hcell
      clear hcell hC hB
      generalize ts.getD k ByteArray.empty = tx at *
      have hlt' : (k : Int) < tn := by omega
      go_wp2_with fail
      go_at_call 12
      refine (uFeed tx HC2.out HB2.out HT.out hsz).mono ?_
      rintro e w3 ⟨rfl, C3, B3⟩
      clear HC2 HB2 hc
      have HC2 : Hid (CsUp w.heap.size w3 pc bs bg (feedR s tx.data.toList)) := C3
      have HB2 : Hid (Below w.heap.size w w3) := B3
      clear C3 B3
      generalize feedR s tx.data.toList = s3 at *
      go_wp2_with fail
      go_at_call 13
      refine (uSound HC2.out).mono ?_
      rintro e w4 ⟨rfl, b4⟩
      replace HC2 : Hid (CsUp w.heap.size w4 pc bs bg s3) := HC2.out.below b4
      replace HB2 : Hid (Below w.heap.size w w4) := HB2.out.trans (b4.mono HB2.out.size)
      clear b4
      by_cases hzn : k < zn
      · have hzn' : (k : Int) < zn := by omega
        obtain ⟨zb, zo, rfl, zbs, zcell, zl, zu⟩ := HZ.out k hzn
        have zc : w4.cell? ⟨zb, zo + k, none⟩ = some (.int .i64 (zs.getD k 0)) := (HB2.out.cell (p := ⟨zb, zo + k, none⟩) zbs).trans zcell
        clear zcell
        generalize zs.getD k 0 = z at *
        cases hm : (z.tmod 3 == 0) with
        | true =>
          obtain ⟨p1, p2⟩ := tdiv_in (k := 3) (by omega) zl zu
          obtain ⟨p3, p4⟩ := tdiv_in (k := 5) (by omega) zl zu
          have l1 := pickK_lt (z.tdiv 3) (n := 40) (by omega)
          have l2 := pickK_lt (z.tdiv 5) (n := 20) (by omega)
          obtain ⟨V, hV⟩ : ∃ V, 1 + pickK (z.tdiv 3) 40 = V := ⟨_, rfl⟩
          obtain ⟨G, hG⟩ : ∃ G, 1 + pickK (z.tdiv 5) 20 = G := ⟨_, rfl⟩
          have eV : (1 : Int) + (pickK (z.tdiv 3) 40 : Nat) = (V : Int) := by omega
          have eG : (1 : Int) + (pickK (z.tdiv 5) 20 : Nat) = (G : Int) := by omega
          have V1 : 1 ≤ V := by omega
          have V2 : V ≤ 40 := by omega
          have G1 : 1 ≤ G := by omega
          have G2 : G ≤ 20 := by omega
          clear hV hG
          go_wp2_with fail
          go_at_call 14
          refine (kPick (z.tdiv 3) 40 _ (by omega) (by omega) p1 p2).mono ?_
          rintro e w' ⟨rfl, hw'⟩
          replace hw' := hw'.symm
          subst hw'
          go_wp2_with fail
          go_at_call 14
          refine (kPick (z.tdiv 5) 20 _ (by omega) (by omega) p3 p4).mono ?_
          rintro e w' ⟨rfl, hw'⟩
          replace hw' := hw'.symm
          subst hw'
          go_wp2_with fail
          go_at_call 15
          refine (uResize HC2.out HB2.out V1 V2 G1 G2).mono ?_
          rintro e w5 ⟨rfl, C5, B5⟩
          clear HC2 HB2
          have HC2 : Hid (CsUp w.heap.size w5 pc bs bg (resizeR s3 V G)) := C5
          have HB2 : Hid (Below w.heap.size w w5) := B5
          have HW : Hid ((resizeR s3 V G).W = V ∧ (resizeR s3 V G).H = G ∧ (resizeR s3 V G).pend = false ∧ (resizeR s3 V G).top = 0 ∧ (resizeR s3 V G).bot = (G : Int) - 1) := ⟨rfl, rfl, rfl, rfl, rfl⟩
          clear C5 B5
          generalize resizeR s3 V G = s5 at *
          go_wp2_with fail
          go_at_call 13
          refine (uSound HC2.out).mono ?_
          rintro e w6 ⟨rfl, b6⟩
          replace HC2 : Hid (CsUp w.heap.size w6 pc bs bg s5) := HC2.out.below b6
          replace HB2 : Hid (Below w.heap.size w w6) := HB2.out.trans (b6.mono HB2.out.size)
          clear b6
          go_wp2_with fail
          go_at_call 16
          refine (uState HC2.out).mono ?_
          rintro e w7 ⟨rfl, b7⟩
          replace HC2 : Hid (CsUp w.heap.size w7 pc bs bg s5) := HC2.out.below b7
          replace HB2 : Hid (Below w.heap.size w w7) := HB2.out.trans (b7.mono HB2.out.size)
          clear b7
          obtain ⟨r1, r2, r3, r4, r5⟩ := HW.out
          rw [r1, r2, r3, r4, r5]
          clear r1 r2 r3 r4 r5
          go_wp2_with fail
          exact ⟨⟨k + 1, _, by omega, by simp, HC2.out.below ((Below.refl _ _).alloc (Nat.le_refl _) _), HB2.out.trans (((Below.refl _ _).alloc (Nat.le_refl _) _).mono HB2.out.size)⟩, by simp only [intOf]; omega⟩
        | false =>
          go_wp2_with fail
          exact ⟨⟨k + 1, _, by omega, by simp, HC2.out, HB2.out⟩, by simp only [intOf]; omega⟩
      · have hzn' : ¬ (k : Int) < zn := by omega
        go_wp2_with fail
        exact ⟨⟨k + 1, _, by omega, by simp, HC2.out, HB2.out⟩, by simp only [intOf]; omega⟩
    · have hlt' : ¬ (k : Int) < tn := by omega
      go_wp2_with fail
      go_ret
      exact ⟨rfl, HB2.out⟩
end Go.Proofs.YtjlfibhbfdckpaaDoor

/- The proof of Safe: the row and the card. -/
namespace Go.Proofs.YtjlfibhbfdckpaaDoor.safe
open Go.ChangeShapes Go.WideShapes Go.ChangeAt Go.RowKit
open Go.ChangeMaps (open_string shut_string)
theorem own : ownKnob Tryd.prog.godebug = none := by kernel_rfl
theorem laidOut : laidOutB Tryd.prog = true := by kernel_rfl
/-- The shelf's numbers for the two tables and their types, at this program. -/
def ren : Go.Shelf.Ren := ⟨fun x => x, fun x => if x = 5 then 5 else if x = 119 then 127 else if x = 138 then 129 else 130, fun x => if x = 3 then 0 else 1⟩
theorem types : U8Types Tryd.prog ren := ⟨by kernel_rfl, by kernel_rfl, by kernel_rfl, by kernel_rfl⟩
theorem extra : U8Extra Tryd.prog ren := ⟨by kernel_rfl, by kernel_rfl, by kernel_rfl, by kernel_rfl, by kernel_rfl, by kernel_rfl, by kernel_rfl⟩
theorem first_same : Rows.laid_unicode_utf8_first = Lib.firstData := by kernel_rfl
theorem accept_same : (Rows.laid_unicode_utf8_acceptRanges : DataW Unit) = Lib.acceptData := by kernel_rfl
theorem tabs {W : World} (h : laidMetH Tryd.prog Rows.safeRow.laid W) : Tabs W := by
  have h' : laidMet Tryd.prog Rows.safeRow.laid W := h
  refine utf8Tabs_of_readsT types extra ?_ ?_
  · rw [← first_same]; exact Lib.laidMet.reads h' (by simp [Rows.safeRow])
  · rw [← accept_same]; exact Lib.laidMet.reads h' (by simp [Rows.safeRow])
theorem tabs_size {W : World} (h : Tabs W) : 2 ≤ W.heap.size := World.block_lt_of_cell? _ _ (h.2 0 (by omega)).1
section
variable {H : Type} {enc : TypeId × Value → H} {base : Nat} {sp : Nat → Bool} {held : Bool} {W : World} {a : Option Addr} {n cap : Nat} {d : DataW H} {p : List MemPlace}
theorem strs_at {x : Addr} {ss : List ByteArray} (h : ∀ i, i < ss.length → W.cell? (x.add i) = some (.string (ss.getD i ByteArray.empty))) (hp : 0 < ss.length) :
    ∃ b off, x = ⟨b, off, none⟩ ∧ ∀ j, j < ss.length → W.cell? ⟨b, off + j, none⟩ = some (.string (ss.getD j ByteArray.empty)) := by
  obtain ⟨b, off, spot⟩ := x
  have hspot : spot = none := by simpa [Addr.add] using World.cell?_spot (h 0 hp)
  subst hspot
  exact ⟨b, off, rfl, fun j hj => by rw [← Go.WideShapes.add_plain]; exact h j hj⟩
theorem strs_in (h : DataW.Trod enc Tryd.prog W base (fun _ => true) held 36 (.slice a n cap) d p) : ∃ ts, StrsIn W a n ts ∧ n ≤ 9223372036854775807 := by
  obtain ⟨fuel, hf⟩ := h
  rcases open_strings Tryd.underlying36 Tryd.underlying9 (by kernel_rfl) hf with ⟨hcs, _⟩ | ⟨x, l, c, ss, hcs, _, hl, hm, hz, _, hcell, hwz⟩
  · simp [Value.cells] at hcs
    obtain ⟨rfl, rfl, rfl⟩ := hcs
    exact ⟨[], fun k hk => by omega, by omega⟩
  · simp [Value.cells] at hcs
    obtain ⟨rfl, rfl, rfl⟩ := hcs
    have hz' : ss.length = cap := by simpa using hz
    unfold maxLen at hm
    refine ⟨ss, fun k hk => ?_, by omega⟩
    obtain ⟨b, off, rfl, hc⟩ := strs_at hcell (by omega)
    refine ⟨b, off, rfl, World.block_lt_of_cell? _ _ (hc 0 (by omega)), hc k (by omega), ?_⟩
    have hmem : ss.getD k ByteArray.empty ∈ ss := by
      rw [List.getD_eq_getElem?_getD, List.getElem?_eq_getElem (by omega)]
      exact List.getElem_mem _
    have := hwz _ hmem
    unfold maxLen at this
    omega
theorem ints_in (h : DataW.Trod enc Tryd.prog W base (fun _ => true) held 37 (.slice a n cap) d p) : ∃ zs, IntsIn W a n zs ∧ n ≤ 9223372036854775807 := by
  obtain ⟨fuel, hf⟩ := h
  rcases open_ints Tryd.underlying37 Tryd.underlying3 (by kernel_rfl) hf with ⟨hcs, _⟩ | ⟨x, l, c, zs, hcs, _, hl, hm, hz, _, hcell, hwz⟩
  · simp [Value.cells] at hcs
    obtain ⟨rfl, rfl, rfl⟩ := hcs
    exact ⟨[], fun k hk => by omega, by omega⟩
  · simp [Value.cells] at hcs
    obtain ⟨rfl, rfl, rfl⟩ := hcs
    have hz' : zs.length = cap := by simpa using hz
    unfold maxLen at hm
    refine ⟨zs, fun k hk => ?_, by omega⟩
    obtain ⟨b, off, rfl, hc⟩ := ints_at hcell (by omega)
    refine ⟨b, off, rfl, World.block_lt_of_cell? _ _ (hc 0 (by omega)), hc k (by omega), ?_⟩
    have hmem : zs.getD k 0 ∈ zs := by
      rw [List.getD_eq_getElem?_getD, List.getElem?_eq_getElem (by omega)]
      exact List.getElem_mem _
    exact bounds_i64 (hwz _ hmem)
end
set_option maxRecDepth 100000 in
/-- WHAT THE WALK GIVES. -/
theorem contract (H : Type) (enc : TypeId × Value → H) (W : World) (base : Nat) (args : Array Value) (ds gs : List (DataW H)) (before : List MemPlace)
    (hval : ∀ (j : Nat) t v, Tryd.f4.params[j]? = some t → args[j]? = some v → Value.okWide Tryd.prog W .any base t v)
    (hW : DataW.Whole enc Tryd.prog Tryd.f4.params.toList Rows.safeSpec.vars false W args.toList ds gs before) (hL : laidMetH Tryd.prog Rows.safeRow.laid W) :
    Calls Tryd.prog 4 args W fun e W' => ∃ v, e = .returned v ∧ Rows.safeSpec.post enc Tryd.prog Tryd.f4 false true false false W args v W' := by
  have hW' := hW
  obtain ⟨p, q, hA0, hV, rfl, hfz, hnd⟩ := hW
  have hA : DataW.TrodAll enc Tryd.prog W 0 (fun _ => true) true Tryd.f4.params.toList args.toList ds p := hA0
  rw [Tryd.params4] at hA hval
  obtain ⟨v0, vs0, d0, ds0, p0, q0, hargs, rfl, rfl, h0, r0⟩ := trodAll_cons hA
  obtain ⟨v1, vs1, d1, ds1, p1, q1, hargs1, rfl, rfl, h1, r1⟩ := trodAll_cons r0
  obtain ⟨v2, vs2, d2, ds2, p2, q2, hargs2, rfl, rfl, h2, r2⟩ := trodAll_cons r1
  obtain ⟨v3, vs3, d3, ds3, p3, q3, hargs3, rfl, rfl, h3, r3⟩ := trodAll_cons r2
  obtain ⟨rfl, rfl, rfl⟩ := trodAll_nil r3
  subst hargs3 hargs2 hargs1
  obtain rfl : args = #[v0, v1, v2, v3] := by cases args; simp_all
  obtain ⟨rfl, rfl⟩ := trodVars_none hV
  have T := tabs hL
  have k0 := h0
  have k1 := h1
  have k2 := h2
  have k3 := h3
  have lt0 : ∀ x ∈ p0, x.block < W.heap.size := by obtain ⟨m, hm⟩ := k0; exact DataW.trod_lt m _ _ _ hm
  have lt1 : ∀ x ∈ p1, x.block < W.heap.size := by obtain ⟨m, hm⟩ := k1; exact DataW.trod_lt m _ _ _ hm
  have lt2 : ∀ x ∈ p2, x.block < W.heap.size := by obtain ⟨m, hm⟩ := k2; exact DataW.trod_lt m _ _ _ hm
  have lt3 : ∀ x ∈ p3, x.block < W.heap.size := by obtain ⟨m, hm⟩ := k3; exact DataW.trod_lt m _ _ _ hm
  obtain ⟨x, rfl, _, _, hx⟩ := open_int Tryd.underlying3 (hval 0 3 v0 rfl rfl) h0
  obtain ⟨y, rfl, _, _, hy⟩ := open_int Tryd.underlying3 (hval 1 3 v1 rfl rfl) h1
  obtain ⟨ta, tn, tc, rfl⟩ := okWide_slice Tryd.underlying36 (hval 2 36 v2 rfl rfl)
  obtain ⟨za, zn, zc, rfl⟩ := okWide_slice Tryd.underlying37 (hval 3 37 v3 rfl rfl)
  obtain ⟨ts, hT, ht⟩ := strs_in h2
  obtain ⟨zs, hZ, _⟩ := ints_in h3
  have bx := bounds_i64 hx
  have by' := bounds_i64 hy
  refine (kSafe x y ta tn tc ts za zn zc zs W T (tabs_size T) bx.1 bx.2 by'.1 by'.2 hT hZ ht).mono fun e W' ⟨he, bel⟩ => ?_
  subst he
  exact ⟨_, rfl, _, _, _, [], _, [], hW', trodAll_mk1 (shut_bool Tryd.underlying4 _),
    (trodAll_cons_mk (Below.trod laidOut (by kernel_rfl) (of_decide_eq_true (by kernel_rfl)) k0 bel lt0) (trodAll_cons_mk (Below.trod laidOut (by kernel_rfl) (of_decide_eq_true (by kernel_rfl)) k1 bel lt1) (trodAll_cons_mk (Below.trod laidOut (by kernel_rfl) (of_decide_eq_true (by kernel_rfl)) k2 bel lt2) (trodAll_cons_mk (Below.trod laidOut (by kernel_rfl) (of_decide_eq_true (by kernel_rfl)) k3 bel lt3) trodAll_mk0)))), rfl, bel.frame _, fun h => by cases h⟩
/-- A world for the witness: the settled one, the tables holding what is laid. -/
def lay0 : Obj → Obj
  | .cells _ t frozen => .cells (Lib.firstTab.map fun z => Value.int .u8 z).toArray t frozen
  | o => o
def lay1 : Obj → Obj
  | .cells _ t frozen => .cells ((List.range 16).flatMap fun i => [Value.int .u8 (Lib.accLo i : Nat), Value.int .u8 (Lib.accHi i : Nat)]).toArray t frozen
  | o => o
noncomputable def laidWorld (os : Os) : World :=
  { World.holding Tryd.prog os ⟨#[], #[], []⟩ with heap := ((World.holding Tryd.prog os ⟨#[], #[], []⟩).heap.modify 0 lay0).modify 1 lay1 }
theorem laid_met (os : Os) : laidMet Tryd.prog Rows.safeRow.laid ((laidWorld os).forCall (fun _ _ => 0) ⟨#[], #[.int .i64 0, .int .i64 0, .slice none 0 0, .slice none 0 0], []⟩).memory :=
  laidMet_of_run' 8 (by kernel_rfl) (by kernel_rfl)
theorem reads (os : Os) {H : Type} (enc : TypeId × Value → H) : ∃ places, DataW.whole enc Tryd.prog ((laidWorld os).forCall (fun _ _ => 0) ⟨#[], #[.int .i64 0, .int .i64 0, .slice none 0 0, .slice none 0 0], []⟩).memory Tryd.f4.params.toList Rows.safeSpec.vars false #[Value.int .i64 0, .int .i64 0, .slice none 0 0, .slice none 0 0].toList 8 = some ([.lit (.int .i64 0), .lit (.int .i64 0), .nil, .nil], [], places) :=
  ⟨[], by kernel_rfl⟩
set_option maxRecDepth 100000 in
theorem lifted (os : Os) (started : os.Started) (H : Type) (enc : TypeId × Value → H) (F : Stop.Interp) :
    ReturnsInHanded {} Tryd.checked os 4 .any ((OpenSpec.ofChange Rows.safeSpec).preRow enc Tryd.prog Tryd.f4 Rows.safeRow.domain false Rows.safeRow.laid) (((OpenSpec.ofChange Rows.safeSpec).at F).post enc Tryd.prog Tryd.f4 false true false false) := by
  obtain ⟨places, hx⟩ := reads os enc
  refine returnsInHanded_of_row (C := Tryd.checked) (s := OpenSpec.ofChange Rows.safeSpec) own started (by kernel_rfl) Tryd.func4
    (witness_row_at (enc := enc) (C := Tryd.checked) false (laidWorld os) #[.int .i64 0, .int .i64 0, .slice none 0 0, .slice none 0 0] rfl (by kernel_rfl) (by kernel_rfl) (by kernel_rfl)
      (OpenSpec.preRow_of_cond 8 hx (by kernel_rfl) (fun k hk => by cases hk) (by kernel_rfl) (laid_met os))) ?_
  intro W base args ds gs before hval hW _ _ _ hL _ _
  exact contract H enc W base args ds gs before hval hW hL
theorem said : Rows.SafeSaid :=
  OpenClaim.holds_of_cond 4 Tryd.f4 rfl rfl rfl rfl rfl rfl rfl ⟨rfl, rfl, rfl, rfl, rfl⟩ rfl rfl rfl rfl rfl (by kernel_rfl) Tryd.func4 (by kernel_rfl)
    (of_decide_eq_true (by kernel_rfl)) (by unfold Func.isWrapper; first | (rw [if_pos (by decide +kernel)]; kernel_rfl) | (rw [if_neg (by decide +kernel)]; exact ⟨rfl, rfl⟩))
    (fun os started H enc _ F => by rw [OpenClaim.pre_eq_preRow]; exact lifted os started H enc F)
theorem plain (f : FuncId) (fn : Func) (hf : Tryd.pinned.checked.prog.funcNamed "casement/casementkeep.Safe" = some f) (hfn : Tryd.pinned.checked.prog.funcs[f]? = some fn) :
    false = Tryd.pinned.checked.prog.looks [] ∧ ∀ (j : Nat) t, fn.params[j]? = some t → Tryd.pinned.checked.prog.wantsStandIn t = false := by
  obtain rfl : f = 4 := Option.some.inj ((show Tryd.prog.funcNamed "casement/casementkeep.Safe" = some 4 by kernel_rfl).symm.trans hf) |>.symm
  obtain rfl : fn = Tryd.f4 := (Option.some.inj (Tryd.func4.symm.trans hfn)).symm
  refine ⟨by kernel_rfl, fun j t ht => ?_⟩
  rw [Tryd.params4] at ht
  have hm : t = 3 ∨ t = 36 ∨ t = 37 := by simpa using Array.mem_of_getElem? ht
  rcases hm with rfl | rfl | rfl
  · exact (show Tryd.prog.wantsStandIn 3 = false by kernel_rfl)
  · exact (show Tryd.prog.wantsStandIn 36 = false by kernel_rfl)
  · exact (show Tryd.prog.wantsStandIn 37 = false by kernel_rfl)
theorem card : Rows.SafeCardSaid :=
  Claim7.holds_tied_plain_at .later [] _ _ _ _ said (fun _ h => by cases h) (by kernel_rfl) (fun _ h => by cases h) safe_row_tie rfl ⟨rfl, rfl⟩ (by kernel_rfl) rfl plain (by kernel_rfl)
end Go.Proofs.YtjlfibhbfdckpaaDoor.safe
namespace Go.Proofs.YtjlfibhbfdckpaaDoor
theorem safe_holds : Rows.SafeCardSaid := safe.card
#print axioms safe_holds
end Go.Proofs.YtjlfibhbfdckpaaDoor

/- The statements without the document's answer: what Split needs of two screens. -/
namespace Go.Proofs.YtjlfibhbfdckpaaDoor
open Go.RowKit
open Wd (wd)
attribute [local go_sem ↓] Go.wp_at_zero Go.wp_at_succ
set_option maxHeartbeats 1000000 in
/-- Feed, told with the cells' block. -/
theorem cFeedS (pc bs bg g N : Nat) (s : Rs) (b : ByteArray) (w : World) (h : CsAt w pc bs bg g N s) (T : Tabs w) (hb : b.size ≤ 9223372036854775807) :
    Calls Tryd.prog 12 #[.pointer (some ⟨pc, 0, none⟩), .string b] w fun e w' => e = .returned (.tuple #[]) ∧ CsAt w' pc bs bg g N (feedR s b.data.toList) ∧ Keep (fun i => i = bs ∨ i = bg ∨ i = g) w w' := by
  have HC : Hid (CsAt w pc bs bg g N s) := h
  have HT : Hid (Tabs w) := T
  have c0 := h.c0
  clear h T
  go_enter Tryd.func12, Tryd.ntmps12
  go_wp2_with (first | (go_at_call 25; refine (cNone pc bs bg g N s _ HC.out).mono ?_; rintro e w' ⟨rfl, hw'⟩; replace hw' := hw'.symm; subst hw'))
  go_at_call 26
  obtain ⟨t, P, tie⟩ := HC.out.pr
  have l1 := HC.out.l1
  have l2 := HC.out.l2
  have l3 := HC.out.l3
  refine (sFeed bs bg g N s t b _ P HC.out.ok HT.out tie (by omega) (by omega) (by omega) (by omega) (by omega) (by omega) hb).mono ?_
  rintro e wa ⟨rfl, P1, K1⟩
  have HP1 : Hid (∃ t, PrAt wa bs bg g N (feedR s b.data.toList) t ∧ Tie (feedR s b.data.toList).B t) := P1
  clear P tie P1
  go_wp2_with fail
  go_end0
  have q := HC.out
  exact ⟨rfl, ⟨by rw [K1.block _ q.lt (fun h => by have := q.ne1; have := q.ne2; have := q.ne3; omega)]; exact q.blk, HP1.out, feed_ok _ q.ok, q.ne1, q.ne2, q.ne3, l1, l2, l3⟩, K1⟩
/-- What is odd is not seen. -/
theorem CsAt.noOdd {w : World} {pc bs bg g N : Nat} {s : Rs} (h : CsAt w pc bs bg g N (oddR s)) : CsAt w pc bs bg g N s := by
  obtain ⟨t, P, T⟩ := h.pr
  exact ⟨h.blk, ⟨t, P.congr s rfl rfl rfl (fun _ _ _ _ => rfl), T⟩, h.ok.cong rfl rfl rfl rfl rfl rfl rfl rfl, h.ne1, h.ne2, h.ne3, h.l1, h.l2, h.l3⟩
theorem feed_append (s : Rs) (a b : List UInt8) : feedR s (a ++ b) = feedR (feedR s a) b := List.foldl_append
theorem ground_nil {s : Rs} (h : groundB s = true) : s.B = ⟨#[]⟩ := by
  unfold groundB at h
  rw [ByteArray.toList_eq] at h
  cases hB : s.B with
  | mk d =>
    rw [hB] at h
    cases d with
    | mk l => cases l with
      | nil => rfl
      | cons a r => simp at h
/-- What stands for nothing changes nothing. -/
theorem nothing {s : Rs} (h : groundB s = true) (c : UInt8) (hc : c ∈ ([0, 7, 127, 128, 193, 245, 255, 9, 11, 31] : List UInt8)) : feedR s [c] = oddR s := by
  have hB := ground_nil h
  show oneR s c = oddR s
  unfold oneR
  rw [hB]
  show groundR s c = oddR s
  simp only [List.mem_cons, List.mem_nil_iff, or_false] at hc
  rcases hc with rfl | rfl | rfl | rfl | rfl | rfl | rfl | rfl | rfl | rfl <;> simp [groundR, longR]
/-- A screen of the program, its blocks from lo up to hi. -/
def Own (lo hi : Nat) (w : World) (pc : Nat) (s : Rs) : Prop :=
  ∃ bs bg g N, CsAt w pc bs bg g N s ∧ lo ≤ pc ∧ pc < hi ∧ lo ≤ bs ∧ bs < hi ∧ lo ≤ bg ∧ bg < hi ∧ lo ≤ g ∧ g < hi
theorem Own.below {lo hi : Nat} {w w' : World} {pc : Nat} {s : Rs} (h : Own lo hi w pc s) (b : Below w.heap.size w w') : Own lo hi w' pc s := by
  obtain ⟨bs, bg, g, N, C, r⟩ := h
  exact ⟨bs, bg, g, N, C.below b, r⟩
theorem Own.keep {lo hi lo' hi' : Nat} {w w' : World} {pc : Nat} {s : Rs} (h : Own lo hi w pc s) (k : Keep (fun i => lo' ≤ i ∧ i < hi') w w') (d : hi ≤ lo' ∨ hi' ≤ lo) : Own lo hi w' pc s := by
  obtain ⟨bs, bg, g, N, C, r⟩ := h
  exact ⟨bs, bg, g, N, C.keep k (by omega) (by omega) (by omega) (by omega), r⟩
theorem Own.drew {lo hi : Nat} {w : World} {pc : Nat} {s : Rs} (h : Own lo hi w pc s) : Own lo hi w.drew pc s := by
  obtain ⟨bs, bg, g, N, C, r⟩ := h
  exact ⟨bs, bg, g, N, C.same rfl rfl rfl rfl, r⟩
theorem Own.noOdd {lo hi : Nat} {w : World} {pc : Nat} {s : Rs} (h : Own lo hi w pc (oddR s)) : Own lo hi w pc s := by
  obtain ⟨bs, bg, g, N, C, r⟩ := h
  exact ⟨bs, bg, g, N, C.noOdd, r⟩
theorem ownFeed {lo hi : Nat} {w : World} {pc : Nat} {s : Rs} (h : Own lo hi w pc s) (T : Tabs w) (b : ByteArray) (hb : b.size ≤ 9223372036854775807) :
    Calls Tryd.prog 12 #[.pointer (some ⟨pc, 0, none⟩), .string b] w fun e w' => e = .returned (.tuple #[]) ∧ Own lo hi w' pc (feedR s b.data.toList) ∧ Keep (fun i => lo ≤ i ∧ i < hi) w w' := by
  obtain ⟨bs, bg, g, N, C, r⟩ := h
  refine (cFeedS pc bs bg g N s b w C T hb).mono ?_
  rintro e w' ⟨rfl, C', K⟩
  exact ⟨rfl, ⟨bs, bg, g, N, C', r⟩, K.mono (fun i hi => by omega)⟩
theorem ownState {lo hi : Nat} {w : World} {pc : Nat} {s : Rs} (h : Own lo hi w pc s) :
    Calls Tryd.prog 16 #[.pointer (some ⟨pc, 0, none⟩)] w fun e w' => e = .returned (stAgg s.W s.H s.x s.y s.pend s.pen s.top s.bot (groundB s)) ∧ Below w.heap.size w w' := by
  obtain ⟨bs, bg, g, N, C, r⟩ := h
  exact cState pc bs bg g N s w C
theorem ownCell {lo hi : Nat} {w : World} {pc : Nat} {s : Rs} (h : Own lo hi w pc s) (x y : Int) :
    Calls Tryd.prog 23 #[.pointer (some ⟨pc, 0, none⟩), .int .i64 x, .int .i64 y] w fun e w' => e = .returned (.tuple #[(cellAt s x y).agg, .int .i64 (errAt s x y)]) ∧ Below w.heap.size w w' := by
  obtain ⟨bs, bg, g, N, C, r⟩ := h
  exact cCell pc bs bg g N s x y w C
theorem Own.ok {lo hi : Nat} {w : World} {pc : Nat} {s : Rs} (h : Own lo hi w pc s) : s.Ok := by
  obtain ⟨bs, bg, g, N, C, r⟩ := h
  exact C.ok
theorem ownScreen (x y : Int) (w : World) (hw : 2 ≤ w.heap.size) (x0 : -9223372036854775808 ≤ x) (x1 : x ≤ 9223372036854775807) (y0 : -9223372036854775808 ≤ y) (y1 : y ≤ 9223372036854775807) :
    Calls Tryd.prog 11 #[.int .i64 x, .int .i64 y] w fun e w' => ∃ pc, e = .returned (.pointer (some ⟨pc, 0, none⟩)) ∧ Own w.heap.size w'.heap.size w' pc (newR (1 + pickK x 40) (1 + pickK y 20)) ∧ Below w.heap.size w w' := by
  refine (kScreen x y w hw x0 x1 y0 y1).mono ?_
  rintro e w' ⟨pc, bs, bg, g, N, rfl, C, b, q0, q1, q2, q3⟩
  obtain ⟨t, P, _⟩ := C.pr
  exact ⟨pc, rfl, ⟨bs, bg, g, N, C, q0, C.lt, q1, P.lt, q2, P.gr.lt, q3, P.gr.glt⟩, b⟩
set_option maxRecDepth 10000 in
set_option maxHeartbeats 4000000 in
theorem kSame (la ha pa lb hb pb : Nat) (s : Rs) (w : World) (h : Own la ha w pa s) (k : Own lb hb w pb s) :
    Calls Tryd.prog 17 #[.pointer (some ⟨pa, 0, none⟩), .pointer (some ⟨pb, 0, none⟩)] w fun e w' => e = .returned (.bool true) ∧ Below w.heap.size w w' := by
  have HA : Hid (Own la ha w pa s) := h
  have HC : Hid (Own lb hb w pb s) := k
  have W1 := h.ok.w1
  have W2 := h.ok.w2
  have H1 := h.ok.h1
  have H2 := h.ok.h2
  clear h k
  go_enter Tryd.func17, Tryd.ntmps17
  go_wp2_with fail
  go_at_call 16
  refine (ownState HA.out).mono ?_
  rintro e wa ⟨rfl, b1⟩
  replace HA : Hid (Own la ha wa pa s) := HA.out.below b1
  replace HC : Hid (Own lb hb wa pb s) := HC.out.below b1
  have HB1 : Hid (Below w.heap.size w wa) := b1
  clear b1
  go_wp2_with fail
  generalize hWb : wa.alloc _ = wb
  have bb : Below wa.heap.size wa wb := by rw [← hWb]; exact (Below.refl _ _).alloc (Nat.le_refl _) _
  have St : StAt wb wa.heap.size s := by rw [← hWb]; exact heap_new wa _
  have HSt : Hid (StAt wb wa.heap.size s) := St
  replace HA : Hid (Own la ha wb pa s) := HA.out.below bb
  replace HC : Hid (Own lb hb wb pb s) := HC.out.below bb
  replace HB1 : Hid (Below w.heap.size w wb) := HB1.out.trans (bb.mono HB1.out.size)
  generalize wa.heap.size = Bt at *
  clear hWb bb St
  have t0 : wb.cell? ⟨Bt, 0, none⟩ = some (.int .i64 s.W) := cell_of_block HSt.out 0
  have t1 : wb.cell? ⟨Bt, 1, none⟩ = some (.int .i64 s.H) := cell_of_block HSt.out 1
  have t2 : wb.cell? ⟨Bt, 2, none⟩ = some (.int .i64 s.x) := cell_of_block HSt.out 2
  have t3 : wb.cell? ⟨Bt, 3, none⟩ = some (.int .i64 s.y) := cell_of_block HSt.out 3
  have t4 : wb.cell? ⟨Bt, 4, none⟩ = some (.bool s.pend) := cell_of_block HSt.out 4
  have t5 : wb.cell? ⟨Bt, 5, none⟩ = some (.int .i64 s.pen.f) := cell_of_block HSt.out 5
  have t6 : wb.cell? ⟨Bt, 6, none⟩ = some (.int .i64 s.pen.b) := cell_of_block HSt.out 6
  have t7 : wb.cell? ⟨Bt, 7, none⟩ = some (.bool s.pen.bo) := cell_of_block HSt.out 7
  have t8 : wb.cell? ⟨Bt, 8, none⟩ = some (.bool s.pen.un) := cell_of_block HSt.out 8
  have t9 : wb.cell? ⟨Bt, 9, none⟩ = some (.bool s.pen.re) := cell_of_block HSt.out 9
  have t10 : wb.cell? ⟨Bt, 10, none⟩ = some (.int .i64 s.top) := cell_of_block HSt.out 10
  have t11 : wb.cell? ⟨Bt, 11, none⟩ = some (.int .i64 s.bot) := cell_of_block HSt.out 11
  have t12 : wb.cell? ⟨Bt, 12, none⟩ = some (.bool (groundB s)) := cell_of_block HSt.out 12
  have lt : Bt < wb.heap.size := HSt.out.lt
  have HD : Hid (Own lb hb wb.drew pb s) := HC.out.drew
  go_region_held3 (fun w' => w'.cell? ⟨Bt, 0, none⟩ = some (.int .i64 s.W) ∧ w'.cell? ⟨Bt, 1, none⟩ = some (.int .i64 s.H) ∧ w'.cell? ⟨Bt, 2, none⟩ = some (.int .i64 s.x) ∧ w'.cell? ⟨Bt, 3, none⟩ = some (.int .i64 s.y) ∧ w'.cell? ⟨Bt, 4, none⟩ = some (.bool s.pend) ∧ w'.cell? ⟨Bt, 5, none⟩ = some (.int .i64 s.pen.f) ∧ w'.cell? ⟨Bt, 6, none⟩ = some (.int .i64 s.pen.b) ∧ w'.cell? ⟨Bt, 7, none⟩ = some (.bool s.pen.bo) ∧ w'.cell? ⟨Bt, 8, none⟩ = some (.bool s.pen.un) ∧ w'.cell? ⟨Bt, 9, none⟩ = some (.bool s.pen.re) ∧ w'.cell? ⟨Bt, 10, none⟩ = some (.int .i64 s.top) ∧ w'.cell? ⟨Bt, 11, none⟩ = some (.int .i64 s.bot) ∧ w'.cell? ⟨Bt, 12, none⟩ = some (.bool (groundB s))) (simp [*]) (first | (go_at_call 16; refine (ownState HD.out).mono ?_; rintro e w2 ⟨rfl, b2⟩; have e1 := b2.cells (b := Bt) lt; have B2 : Below wb.heap.size wb w2 := below_drew' b2))
  replace HA : Hid (Own la ha w2 pa s) := HA.out.below B2
  replace HC : Hid (Own lb hb w2 pb s) := HC.out.below B2
  replace HSt : Hid (StAt w2 Bt s) := HSt.out.below B2
  replace HB1 : Hid (Below w.heap.size w w2) := HB1.out.trans (B2.mono HB1.out.size)
  clear t0 t1 t2 t3 t4 t5 t6 t7 t8 t9 t10 t11 t12 e1 B2 HD b2 lt
  go_wp2_with fail
  go_loopw [6] (fun i w' => ∃ y : Nat, y ≤ s.H ∧ i = .int .i64 y ∧ Own la ha w' pa s ∧ Own lb hb w' pb s ∧ Below w.heap.size w w' ∧ StAt w' Bt s) (fun i _ => s.H - (intOf i).toNat)
  case atStart => exact ⟨0, by omega, rfl, HA.out, HC.out, HB1.out, HSt.out⟩
  case round =>
    obtain ⟨y, hy, rfl, hA, hC, hB, hS⟩ := hrel
    clear HA HC HB1 HSt
    have HA : Hid (Own la ha wr pa s) := hA
    have HC : Hid (Own lb hb wr pb s) := hC
    have HB1 : Hid (Below w.heap.size w wr) := hB
    have HSt : Hid (StAt wr Bt s) := hS
    have t0 := hS.c0
    have t1 := hS.c1
    clear hA hC hB hS
    by_cases hlt : y < s.H
    · have hlt' : (y : Int) < s.H := by omega
      go_wp2_with fail
      clear t0 t1
      go_loopw [7] (fun i w' => ∃ x : Nat, x ≤ s.W ∧ i = .int .i64 x ∧ Own la ha w' pa s ∧ Own lb hb w' pb s ∧ Below w.heap.size w w' ∧ StAt w' Bt s) (fun i _ => s.W - (intOf i).toNat)
      case atStart => exact ⟨0, by omega, rfl, HA.out, HC.out, HB1.out, HSt.out⟩
      case round =>
        obtain ⟨x, hx, rfl, hA, hC, hB, hS⟩ := hrel
        clear HA HC HB1 HSt
        have HA : Hid (Own la ha wr pa s) := hA
        have HC : Hid (Own lb hb wr pb s) := hC
        have HB1 : Hid (Below w.heap.size w wr) := hB
        have HSt : Hid (StAt wr Bt s) := hS
        have t0 := hS.c0
        have t1 := hS.c1
        clear hA hC hB hS
        by_cases hltx : x < s.W
        · have hltx' : (x : Int) < s.W := by omega
          go_wp2_with fail
          clear t0 t1
          go_at_call 23
          refine (ownCell HA.out x y).mono ?_
          rintro e w3 ⟨rfl, b3⟩
          obtain ⟨c, hc⟩ : ∃ c, cellAt s x y = c := ⟨_, rfl⟩
          obtain ⟨er, her⟩ : ∃ er, errAt s x y = er := ⟨_, rfl⟩
          rw [hc, her]
          replace HA : Hid (Own la ha w3 pa s) := HA.out.below b3
          replace HC : Hid (Own lb hb w3 pb s) := HC.out.below b3
          replace HB1 : Hid (Below w.heap.size w w3) := HB1.out.trans (b3.mono HB1.out.size)
          replace HSt : Hid (StAt w3 Bt s) := HSt.out.below b3
          clear b3
          go_wp2_with fail
          generalize hw4 : w3.alloc _ = w4
          have b4 : Below w3.heap.size w3 w4 := by rw [← hw4]; exact (Below.refl _ _).alloc (Nat.le_refl _) _
          have A4 : CelAt w4 w3.heap.size 0 c := by rw [← hw4]; exact cel_new' w3 c _ rfl _
          replace HA : Hid (Own la ha w4 pa s) := HA.out.below b4
          replace HC : Hid (Own lb hb w4 pb s) := HC.out.below b4
          replace HB1 : Hid (Below w.heap.size w w4) := HB1.out.trans (b4.mono HB1.out.size)
          replace HSt : Hid (StAt w4 Bt s) := HSt.out.below b4
          have l4 : w3.heap.size < w4.heap.size := A4.lt
          generalize w3.heap.size = Bc at *
          clear b4 hw4
          go_at_call 23
          refine (ownCell HC.out x y).mono ?_
          rintro e w5 ⟨rfl, b5⟩
          rw [hc, her]
          replace HA : Hid (Own la ha w5 pa s) := HA.out.below b5
          replace HC : Hid (Own lb hb w5 pb s) := HC.out.below b5
          replace HB1 : Hid (Below w.heap.size w w5) := HB1.out.trans (b5.mono HB1.out.size)
          replace HSt : Hid (StAt w5 Bt s) := HSt.out.below b5
          obtain ⟨a0, a1, a2, a3, a4, a5, a6⟩ := A4.below b5 l4
          simp only [Nat.zero_add] at a1 a2 a3 a4 a5 a6
          replace l4 : Bc < w5.heap.size := Nat.lt_of_lt_of_le l4 b5.size
          clear b5 A4
          go_wp2_with fail
          exact ⟨⟨x + 1, by omega, by simp, HA.out.below ((Below.refl _ _).alloc (Nat.le_refl _) _), HC.out.below ((Below.refl _ _).alloc (Nat.le_refl _) _), HB1.out.trans (((Below.refl _ _).alloc (Nat.le_refl _) _).mono HB1.out.size), HSt.out.below ((Below.refl _ _).alloc (Nat.le_refl _) _)⟩, by simp only [intOf]; omega⟩
        · have hltx' : ¬ (x : Int) < s.W := by omega
          go_wp2_with fail
          exact ⟨⟨y + 1, by omega, by simp, HA.out, HC.out, HB1.out, HSt.out⟩, by simp only [intOf]; omega⟩
    · have hlt' : ¬ (y : Int) < s.H := by omega
      go_wp2_with fail
      go_ret
      exact ⟨rfl, HB1.out⟩
end Go.Proofs.YtjlfibhbfdckpaaDoor
