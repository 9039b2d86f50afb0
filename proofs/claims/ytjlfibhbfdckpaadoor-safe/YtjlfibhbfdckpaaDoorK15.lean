/- Texts of the proof, one behind the other: SfC, SfD. -/
import Derived.Test.YtjlfibhbfdckpaaDoorK14
import Derived.Test.YtjlfibhbfdckpaaDoorCards
import Derived.Test.YtjlfibhbfdckpaaDoorTie
import Derived.WalkKit
import Derived.ProofKit
import Derived.OpenShut
import Derived.ShutString
import Derived.SliceStrings
import Derived.ChangeOld
import Derived.Below
import Derived.Deep.DeepHandedRow
import Derived.Lib.LaidTab
import Derived.Lib.LaidU8T
/- The statements without the document's answer: Safe. -/
namespace Go.Proofs.YtjlfibhbfdckpaaDoor
open Go.RowKit
attribute [local go_sem ↓] Go.wp_at_zero Go.wp_at_succ
/-- The program's screen, all its blocks made behind B. -/
structure CsUp (B : Nat) (w : World) (pc bs bg : Nat) (s : Rs) : Prop where
  at' : ∃ g N, CsAt w pc bs bg g N s ∧ B ≤ g
  u1 : B ≤ pc
  u2 : B ≤ bs
  u3 : B ≤ bg
theorem CsUp.below {B : Nat} {w w' : World} {pc bs bg : Nat} {s : Rs} (h : CsUp B w pc bs bg s) (hb : Below w.heap.size w w') : CsUp B w' pc bs bg s := by
  obtain ⟨g, N, C, u⟩ := h.at'
  exact ⟨⟨g, N, C.below hb, u⟩, h.u1, h.u2, h.u3⟩
theorem uFeed {w0 w : World} {pc bs bg : Nat} {s : Rs} (b : ByteArray) (h : CsUp w0.heap.size w pc bs bg s) (hB : Below w0.heap.size w0 w) (T : Tabs w0) (hb : b.size ≤ 9223372036854775807) :
    Calls Tryd.prog 12 #[.pointer (some ⟨pc, 0, none⟩), .string b] w fun e w' => e = .returned (.tuple #[]) ∧ CsUp w0.heap.size w' pc bs bg (feedR s b.data.toList) ∧ Below w0.heap.size w0 w' := by
  obtain ⟨g, N, C, u⟩ := h.at'
  have u2 := h.u2
  have u3 := h.u3
  have T' : Tabs w := T.below hB
  refine (cFeed pc bs bg g N s b w C T' hb).mono ?_
  rintro e w' ⟨g', N', rfl, C', K, hg⟩
  have := hB.size
  exact ⟨rfl, ⟨⟨g', N', C', by omega⟩, h.u1, u2, u3⟩, hB.trans (K.toBelow hB.size (fun i hi => by omega))⟩
theorem uResize {w0 w : World} {pc bs bg : Nat} {s : Rs} {W H : Nat} (h : CsUp w0.heap.size w pc bs bg s) (hB : Below w0.heap.size w0 w) (w1 : 1 ≤ W) (w2 : W ≤ 40) (h1 : 1 ≤ H) (h2 : H ≤ 20) :
    Calls Tryd.prog 15 #[.pointer (some ⟨pc, 0, none⟩), .int .i64 W, .int .i64 H] w fun e w' => e = .returned (.int .i64 0) ∧ CsUp w0.heap.size w' pc bs bg (resizeR s W H) ∧ Below w0.heap.size w0 w' := by
  obtain ⟨g, N, C, u⟩ := h.at'
  have u2 := h.u2
  have u3 := h.u3
  refine (cResizeYes pc bs bg g N s W H w C w1 w2 h1 h2).mono ?_
  rintro e w' ⟨g', N', rfl, C', K, hg⟩
  have := hB.size
  exact ⟨rfl, ⟨⟨g', N', C', by omega⟩, h.u1, u2, u3⟩, hB.trans (K.toBelow hB.size (fun i hi => by omega))⟩
theorem uSound {w : World} {B pc bs bg : Nat} {s : Rs} (h : CsUp B w pc bs bg s) :
    Calls Tryd.prog 13 #[.pointer (some ⟨pc, 0, none⟩)] w fun e w' => e = .returned (.bool true) ∧ Below w.heap.size w w' := by
  obtain ⟨g, N, C, u⟩ := h.at'
  exact kSound pc bs bg g N s w C
theorem uState {w : World} {B pc bs bg : Nat} {s : Rs} (h : CsUp B w pc bs bg s) :
    Calls Tryd.prog 16 #[.pointer (some ⟨pc, 0, none⟩)] w fun e w' => e = .returned (stAgg s.W s.H s.x s.y s.pend s.pen s.top s.bot (groundB s)) ∧ Below w.heap.size w w' := by
  obtain ⟨g, N, C, u⟩ := h.at'
  exact cState pc bs bg g N s w C
/-- What a walk is told of a slice of strings that came in. -/
def StrsIn (w : World) (a : Option Addr) (n : Nat) (ts : List ByteArray) : Prop :=
  ∀ k, k < n → ∃ b off, a = some ⟨b, off, none⟩ ∧ b < w.heap.size ∧ w.cell? ⟨b, off + k, none⟩ = some (.string (ts.getD k ByteArray.empty)) ∧ (ts.getD k ByteArray.empty).size ≤ 9223372036854775807
/-- And of a slice of integers. -/
def IntsIn (w : World) (a : Option Addr) (n : Nat) (zs : List Int) : Prop :=
  ∀ k, k < n → ∃ b off, a = some ⟨b, off, none⟩ ∧ b < w.heap.size ∧ w.cell? ⟨b, off + k, none⟩ = some (.int .i64 (zs.getD k 0)) ∧ -9223372036854775808 ≤ zs.getD k 0 ∧ zs.getD k 0 ≤ 9223372036854775807
theorem tdiv_in {z : Int} {k : Int} (hk : 1 ≤ k) (h0 : -9223372036854775808 ≤ z) (h1 : z ≤ 9223372036854775807) : -9223372036854775808 ≤ z.tdiv k ∧ z.tdiv k ≤ 9223372036854775807 := by
  rcases Int.le_total 0 z with h | h
  · have a := Int.tdiv_nonneg h (by omega : 0 ≤ k)
    have b : z.tdiv k ≤ z := Int.tdiv_le_self _ h
    omega
  · have a := Int.tdiv_nonneg (show 0 ≤ -z by omega) (by omega : 0 ≤ k)
    have b : (-z).tdiv k ≤ -z := Int.tdiv_le_self _ (by omega)
    rw [Int.neg_tdiv] at a b
    omega
set_option maxRecDepth 10000 in
set_option maxHeartbeats 4000000 in
theorem kSafe (x y : Int) (ta : Option Addr) (tn tc : Nat) (ts : List ByteArray) (za : Option Addr) (zn zc : Nat) (zs : List Int) (w : World) (T : Tabs w) (hw : 2 ≤ w.heap.size)
    (x0 : -9223372036854775808 ≤ x) (x1 : x ≤ 9223372036854775807) (y0 : -9223372036854775808 ≤ y) (y1 : y ≤ 9223372036854775807)
    (hT : StrsIn w ta tn ts) (hZ : IntsIn w za zn zs) (ht : tn ≤ 9223372036854775807) :
    Calls Tryd.prog 4 #[.int .i64 x, .int .i64 y, .slice ta tn tc, .slice za zn zc] w fun e w' => e = .returned (.bool true) ∧ Below w.heap.size w w' := by
  have HT : Hid (Tabs w) := T
  have HS : Hid (StrsIn w ta tn ts) := hT
  have HZ : Hid (IntsIn w za zn zs) := hZ
  clear T hT hZ
  go_enter Tryd.func4, Tryd.ntmps4
  go_wp2_with fail
  go_at_call 10
  refine (kWorks _ HT.out hw).mono ?_
  rintro e wa ⟨rfl, b1⟩
  have HB1 : Hid (Below w.heap.size w wa) := b1
  have hwa : 2 ≤ wa.heap.size := Nat.le_trans hw b1.size
  clear b1
  go_wp2_with fail
  go_at_call 11
  refine (kScreen x y _ hwa x0 x1 y0 y1).mono ?_
  rintro e wb ⟨pc, bs, bg, g, N, rfl, C1, b1, q0, q1, q2, q3⟩
  have hsz := HB1.out.size
  have HC2 : Hid (CsUp w.heap.size wb pc bs bg (newR (1 + pickK x 40) (1 + pickK y 20))) := ⟨⟨g, N, C1, by omega⟩, by omega, by omega, by omega⟩
  have HB2 : Hid (Below w.heap.size w wb) := HB1.out.trans (b1.mono hsz)
  clear C1 b1 q0 q1 q2 q3 hsz hwa HB1
  go_wp2_with fail
  go_loopw [11] (fun i w' => ∃ (k : Nat) (s : Rs), k ≤ tn ∧ i = .int .i64 k ∧ CsUp w.heap.size w' pc bs bg s ∧ Below w.heap.size w w') (fun i _ => tn - (intOf i).toNat)
  case atStart => exact ⟨0, _, by omega, rfl, HC2.out, HB2.out⟩
  case round =>
    obtain ⟨k, s, hk, rfl, hC, hB⟩ := hrel
    clear HC2 HB2
    have HC2 : Hid (CsUp w.heap.size wr pc bs bg s) := hC
    have HB2 : Hid (Below w.heap.size w wr) := hB
    by_cases hlt : k < tn
    · obtain ⟨b, off, rfl, hbs, hcell, hsz⟩ := HS.out k hlt
      have hc : wr.cell? ⟨b, off + k, none⟩ = some (.string (ts.getD k ByteArray.empty)) := (hB.cell (p := ⟨b, off + k, none⟩) hbs).trans hcell
      clear hcell hC hB
      generalize ts.getD k ByteArray.empty = tx at *
      have hlt' : (k : Int) < tn := by omega
      go_wp2_with fail
      go_at_call 12
      refine (uFeed tx HC2.out HB2.out HT.out hsz).mono ?_
      rintro e w3 ⟨rfl, C3, B3⟩
      clear HC2 HB2 hc
      have HC2 : Hid (CsUp w.heap.size w3 pc bs bg (feedR s tx.data.toList)) := C3
      have HB2 : Hid (Below w.heap.size w w3) := B3
      clear C3 B3
      generalize feedR s tx.data.toList = s3 at *
      go_wp2_with fail
      go_at_call 13
      refine (uSound HC2.out).mono ?_
      rintro e w4 ⟨rfl, b4⟩
      replace HC2 : Hid (CsUp w.heap.size w4 pc bs bg s3) := HC2.out.below b4
      replace HB2 : Hid (Below w.heap.size w w4) := HB2.out.trans (b4.mono HB2.out.size)
      clear b4
      by_cases hzn : k < zn
      · have hzn' : (k : Int) < zn := by omega
        obtain ⟨zb, zo, rfl, zbs, zcell, zl, zu⟩ := HZ.out k hzn
        have zc : w4.cell? ⟨zb, zo + k, none⟩ = some (.int .i64 (zs.getD k 0)) := (HB2.out.cell (p := ⟨zb, zo + k, none⟩) zbs).trans zcell
        clear zcell
        generalize zs.getD k 0 = z at *
        cases hm : (z.tmod 3 == 0) with
        | true =>
          obtain ⟨p1, p2⟩ := tdiv_in (k := 3) (by omega) zl zu
          obtain ⟨p3, p4⟩ := tdiv_in (k := 5) (by omega) zl zu
          have l1 := pickK_lt (z.tdiv 3) (n := 40) (by omega)
          have l2 := pickK_lt (z.tdiv 5) (n := 20) (by omega)
          obtain ⟨V, hV⟩ : ∃ V, 1 + pickK (z.tdiv 3) 40 = V := ⟨_, rfl⟩
          obtain ⟨G, hG⟩ : ∃ G, 1 + pickK (z.tdiv 5) 20 = G := ⟨_, rfl⟩
          have eV : (1 : Int) + (pickK (z.tdiv 3) 40 : Nat) = (V : Int) := by omega
          have eG : (1 : Int) + (pickK (z.tdiv 5) 20 : Nat) = (G : Int) := by omega
          have V1 : 1 ≤ V := by omega
          have V2 : V ≤ 40 := by omega
          have G1 : 1 ≤ G := by omega
          have G2 : G ≤ 20 := by omega
          clear hV hG
          go_wp2_with fail
          go_at_call 14
          refine (kPick (z.tdiv 3) 40 _ (by omega) (by omega) p1 p2).mono ?_
          rintro e w' ⟨rfl, hw'⟩
          replace hw' := hw'.symm
          subst hw'
          go_wp2_with fail
          go_at_call 14
          refine (kPick (z.tdiv 5) 20 _ (by omega) (by omega) p3 p4).mono ?_
          rintro e w' ⟨rfl, hw'⟩
          replace hw' := hw'.symm
          subst hw'
          go_wp2_with fail
          go_at_call 15
          refine (uResize HC2.out HB2.out V1 V2 G1 G2).mono ?_
          rintro e w5 ⟨rfl, C5, B5⟩
          clear HC2 HB2
          have HC2 : Hid (CsUp w.heap.size w5 pc bs bg (resizeR s3 V G)) := C5
          have HB2 : Hid (Below w.heap.size w w5) := B5
          have HW : Hid ((resizeR s3 V G).W = V ∧ (resizeR s3 V G).H = G ∧ (resizeR s3 V G).pend = false ∧ (resizeR s3 V G).top = 0 ∧ (resizeR s3 V G).bot = (G : Int) - 1) := ⟨rfl, rfl, rfl, rfl, rfl⟩
          clear C5 B5
          generalize resizeR s3 V G = s5 at *
          go_wp2_with fail
          go_at_call 13
          refine (uSound HC2.out).mono ?_
          rintro e w6 ⟨rfl, b6⟩
          replace HC2 : Hid (CsUp w.heap.size w6 pc bs bg s5) := HC2.out.below b6
          replace HB2 : Hid (Below w.heap.size w w6) := HB2.out.trans (b6.mono HB2.out.size)
          clear b6
          go_wp2_with fail
          go_at_call 16
          refine (uState HC2.out).mono ?_
          rintro e w7 ⟨rfl, b7⟩
          replace HC2 : Hid (CsUp w.heap.size w7 pc bs bg s5) := HC2.out.below b7
          replace HB2 : Hid (Below w.heap.size w w7) := HB2.out.trans (b7.mono HB2.out.size)
          clear b7
          obtain ⟨r1, r2, r3, r4, r5⟩ := HW.out
          rw [r1, r2, r3, r4, r5]
          clear r1 r2 r3 r4 r5
          go_wp2_with fail
          exact ⟨⟨k + 1, _, by omega, by simp, HC2.out.below ((Below.refl _ _).alloc (Nat.le_refl _) _), HB2.out.trans (((Below.refl _ _).alloc (Nat.le_refl _) _).mono HB2.out.size)⟩, by simp only [intOf]; omega⟩
        | false =>
          go_wp2_with fail
          exact ⟨⟨k + 1, _, by omega, by simp, HC2.out, HB2.out⟩, by simp only [intOf]; omega⟩
      · have hzn' : ¬ (k : Int) < zn := by omega
        go_wp2_with fail
        exact ⟨⟨k + 1, _, by omega, by simp, HC2.out, HB2.out⟩, by simp only [intOf]; omega⟩
    · have hlt' : ¬ (k : Int) < tn := by omega
      go_wp2_with fail
      go_ret
      exact ⟨rfl, HB2.out⟩
end Go.Proofs.YtjlfibhbfdckpaaDoor

/- The proof of Safe: the row and the card. -/
namespace Go.Proofs.YtjlfibhbfdckpaaDoor.safe
open Go.ChangeShapes Go.WideShapes Go.ChangeAt Go.RowKit
open Go.ChangeMaps (open_string shut_string)
theorem own : ownKnob Tryd.prog.godebug = none := by kernel_rfl
theorem laidOut : laidOutB Tryd.prog = true := by kernel_rfl
/-- The shelf's numbers for the two tables and their types, at this program. -/
def ren : Go.Shelf.Ren := ⟨fun x => x, fun x => if x = 5 then 5 else if x = 119 then 127 else if x = 138 then 129 else 130, fun x => if x = 3 then 0 else 1⟩
theorem types : U8Types Tryd.prog ren := ⟨by kernel_rfl, by kernel_rfl, by kernel_rfl, by kernel_rfl⟩
theorem extra : U8Extra Tryd.prog ren := ⟨by kernel_rfl, by kernel_rfl, by kernel_rfl, by kernel_rfl, by kernel_rfl, by kernel_rfl, by kernel_rfl⟩
theorem first_same : Rows.laid_unicode_utf8_first = Lib.firstData := by kernel_rfl
theorem accept_same : (Rows.laid_unicode_utf8_acceptRanges : DataW Unit) = Lib.acceptData := by kernel_rfl
theorem tabs {W : World} (h : laidMetH Tryd.prog Rows.safeRow.laid W) : Tabs W := by
  have h' : laidMet Tryd.prog Rows.safeRow.laid W := h
  refine utf8Tabs_of_readsT types extra ?_ ?_
  · rw [← first_same]; exact Lib.laidMet.reads h' (by simp [Rows.safeRow])
  · rw [← accept_same]; exact Lib.laidMet.reads h' (by simp [Rows.safeRow])
theorem tabs_size {W : World} (h : Tabs W) : 2 ≤ W.heap.size := World.block_lt_of_cell? _ _ (h.2 0 (by omega)).1
section
variable {H : Type} {enc : TypeId × Value → H} {base : Nat} {sp : Nat → Bool} {held : Bool} {W : World} {a : Option Addr} {n cap : Nat} {d : DataW H} {p : List MemPlace}
theorem strs_at {x : Addr} {ss : List ByteArray} (h : ∀ i, i < ss.length → W.cell? (x.add i) = some (.string (ss.getD i ByteArray.empty))) (hp : 0 < ss.length) :
    ∃ b off, x = ⟨b, off, none⟩ ∧ ∀ j, j < ss.length → W.cell? ⟨b, off + j, none⟩ = some (.string (ss.getD j ByteArray.empty)) := by
  obtain ⟨b, off, spot⟩ := x
  have hspot : spot = none := by simpa [Addr.add] using World.cell?_spot (h 0 hp)
  subst hspot
  exact ⟨b, off, rfl, fun j hj => by rw [← Go.WideShapes.add_plain]; exact h j hj⟩
theorem strs_in (h : DataW.Trod enc Tryd.prog W base (fun _ => true) held 36 (.slice a n cap) d p) : ∃ ts, StrsIn W a n ts ∧ n ≤ 9223372036854775807 := by
  obtain ⟨fuel, hf⟩ := h
  rcases open_strings Tryd.underlying36 Tryd.underlying9 (by kernel_rfl) hf with ⟨hcs, _⟩ | ⟨x, l, c, ss, hcs, _, hl, hm, hz, _, hcell, hwz⟩
  · simp [Value.cells] at hcs
    obtain ⟨rfl, rfl, rfl⟩ := hcs
    exact ⟨[], fun k hk => by omega, by omega⟩
  · simp [Value.cells] at hcs
    obtain ⟨rfl, rfl, rfl⟩ := hcs
    have hz' : ss.length = cap := by simpa using hz
    unfold maxLen at hm
    refine ⟨ss, fun k hk => ?_, by omega⟩
    obtain ⟨b, off, rfl, hc⟩ := strs_at hcell (by omega)
    refine ⟨b, off, rfl, World.block_lt_of_cell? _ _ (hc 0 (by omega)), hc k (by omega), ?_⟩
    have hmem : ss.getD k ByteArray.empty ∈ ss := by
      rw [List.getD_eq_getElem?_getD, List.getElem?_eq_getElem (by omega)]
      exact List.getElem_mem _
    have := hwz _ hmem
    unfold maxLen at this
    omega
theorem ints_in (h : DataW.Trod enc Tryd.prog W base (fun _ => true) held 37 (.slice a n cap) d p) : ∃ zs, IntsIn W a n zs ∧ n ≤ 9223372036854775807 := by
  obtain ⟨fuel, hf⟩ := h
  rcases open_ints Tryd.underlying37 Tryd.underlying3 (by kernel_rfl) hf with ⟨hcs, _⟩ | ⟨x, l, c, zs, hcs, _, hl, hm, hz, _, hcell, hwz⟩
  · simp [Value.cells] at hcs
    obtain ⟨rfl, rfl, rfl⟩ := hcs
    exact ⟨[], fun k hk => by omega, by omega⟩
  · simp [Value.cells] at hcs
    obtain ⟨rfl, rfl, rfl⟩ := hcs
    have hz' : zs.length = cap := by simpa using hz
    unfold maxLen at hm
    refine ⟨zs, fun k hk => ?_, by omega⟩
    obtain ⟨b, off, rfl, hc⟩ := ints_at hcell (by omega)
    refine ⟨b, off, rfl, World.block_lt_of_cell? _ _ (hc 0 (by omega)), hc k (by omega), ?_⟩
    have hmem : zs.getD k 0 ∈ zs := by
      rw [List.getD_eq_getElem?_getD, List.getElem?_eq_getElem (by omega)]
      exact List.getElem_mem _
    exact bounds_i64 (hwz _ hmem)
end
set_option maxRecDepth 100000 in
/-- WHAT THE WALK GIVES. -/
theorem contract (H : Type) (enc : TypeId × Value → H) (W : World) (base : Nat) (args : Array Value) (ds gs : List (DataW H)) (before : List MemPlace)
    (hval : ∀ (j : Nat) t v, Tryd.f4.params[j]? = some t → args[j]? = some v → Value.okWide Tryd.prog W .any base t v)
    (hW : DataW.Whole enc Tryd.prog Tryd.f4.params.toList Rows.safeSpec.vars false W args.toList ds gs before) (hL : laidMetH Tryd.prog Rows.safeRow.laid W) :
    Calls Tryd.prog 4 args W fun e W' => ∃ v, e = .returned v ∧ Rows.safeSpec.post enc Tryd.prog Tryd.f4 false true false false W args v W' := by
  have hW' := hW
  obtain ⟨p, q, hA0, hV, rfl, hfz, hnd⟩ := hW
  have hA : DataW.TrodAll enc Tryd.prog W 0 (fun _ => true) true Tryd.f4.params.toList args.toList ds p := hA0
  rw [Tryd.params4] at hA hval
  obtain ⟨v0, vs0, d0, ds0, p0, q0, hargs, rfl, rfl, h0, r0⟩ := trodAll_cons hA
  obtain ⟨v1, vs1, d1, ds1, p1, q1, hargs1, rfl, rfl, h1, r1⟩ := trodAll_cons r0
  obtain ⟨v2, vs2, d2, ds2, p2, q2, hargs2, rfl, rfl, h2, r2⟩ := trodAll_cons r1
  obtain ⟨v3, vs3, d3, ds3, p3, q3, hargs3, rfl, rfl, h3, r3⟩ := trodAll_cons r2
  obtain ⟨rfl, rfl, rfl⟩ := trodAll_nil r3
  subst hargs3 hargs2 hargs1
  obtain rfl : args = #[v0, v1, v2, v3] := by cases args; simp_all
  obtain ⟨rfl, rfl⟩ := trodVars_none hV
  have T := tabs hL
  have k0 := h0
  have k1 := h1
  have k2 := h2
  have k3 := h3
  have lt0 : ∀ x ∈ p0, x.block < W.heap.size := by obtain ⟨m, hm⟩ := k0; exact DataW.trod_lt m _ _ _ hm
  have lt1 : ∀ x ∈ p1, x.block < W.heap.size := by obtain ⟨m, hm⟩ := k1; exact DataW.trod_lt m _ _ _ hm
  have lt2 : ∀ x ∈ p2, x.block < W.heap.size := by obtain ⟨m, hm⟩ := k2; exact DataW.trod_lt m _ _ _ hm
  have lt3 : ∀ x ∈ p3, x.block < W.heap.size := by obtain ⟨m, hm⟩ := k3; exact DataW.trod_lt m _ _ _ hm
  obtain ⟨x, rfl, _, _, hx⟩ := open_int Tryd.underlying3 (hval 0 3 v0 rfl rfl) h0
  obtain ⟨y, rfl, _, _, hy⟩ := open_int Tryd.underlying3 (hval 1 3 v1 rfl rfl) h1
  obtain ⟨ta, tn, tc, rfl⟩ := okWide_slice Tryd.underlying36 (hval 2 36 v2 rfl rfl)
  obtain ⟨za, zn, zc, rfl⟩ := okWide_slice Tryd.underlying37 (hval 3 37 v3 rfl rfl)
  obtain ⟨ts, hT, ht⟩ := strs_in h2
  obtain ⟨zs, hZ, _⟩ := ints_in h3
  have bx := bounds_i64 hx
  have by' := bounds_i64 hy
  refine (kSafe x y ta tn tc ts za zn zc zs W T (tabs_size T) bx.1 bx.2 by'.1 by'.2 hT hZ ht).mono fun e W' ⟨he, bel⟩ => ?_
  subst he
  exact ⟨_, rfl, _, _, _, [], _, [], hW', trodAll_mk1 (shut_bool Tryd.underlying4 _),
    (trodAll_cons_mk (Below.trod laidOut (by kernel_rfl) (of_decide_eq_true (by kernel_rfl)) k0 bel lt0) (trodAll_cons_mk (Below.trod laidOut (by kernel_rfl) (of_decide_eq_true (by kernel_rfl)) k1 bel lt1) (trodAll_cons_mk (Below.trod laidOut (by kernel_rfl) (of_decide_eq_true (by kernel_rfl)) k2 bel lt2) (trodAll_cons_mk (Below.trod laidOut (by kernel_rfl) (of_decide_eq_true (by kernel_rfl)) k3 bel lt3) trodAll_mk0)))), rfl, bel.frame _, fun h => by cases h⟩
/-- A world for the witness: the settled one, the tables holding what is laid. -/
def lay0 : Obj → Obj
  | .cells _ t frozen => .cells (Lib.firstTab.map fun z => Value.int .u8 z).toArray t frozen
  | o => o
def lay1 : Obj → Obj
  | .cells _ t frozen => .cells ((List.range 16).flatMap fun i => [Value.int .u8 (Lib.accLo i : Nat), Value.int .u8 (Lib.accHi i : Nat)]).toArray t frozen
  | o => o
noncomputable def laidWorld (os : Os) : World :=
  { World.holding Tryd.prog os ⟨#[], #[], []⟩ with heap := ((World.holding Tryd.prog os ⟨#[], #[], []⟩).heap.modify 0 lay0).modify 1 lay1 }
theorem laid_met (os : Os) : laidMet Tryd.prog Rows.safeRow.laid ((laidWorld os).forCall (fun _ _ => 0) ⟨#[], #[.int .i64 0, .int .i64 0, .slice none 0 0, .slice none 0 0], []⟩).memory :=
  laidMet_of_run' 8 (by kernel_rfl) (by kernel_rfl)
theorem reads (os : Os) {H : Type} (enc : TypeId × Value → H) : ∃ places, DataW.whole enc Tryd.prog ((laidWorld os).forCall (fun _ _ => 0) ⟨#[], #[.int .i64 0, .int .i64 0, .slice none 0 0, .slice none 0 0], []⟩).memory Tryd.f4.params.toList Rows.safeSpec.vars false #[Value.int .i64 0, .int .i64 0, .slice none 0 0, .slice none 0 0].toList 8 = some ([.lit (.int .i64 0), .lit (.int .i64 0), .nil, .nil], [], places) :=
  ⟨[], by kernel_rfl⟩
set_option maxRecDepth 100000 in
theorem lifted (os : Os) (started : os.Started) (H : Type) (enc : TypeId × Value → H) (F : Stop.Interp) :
    ReturnsInHanded {} Tryd.checked os 4 .any ((OpenSpec.ofChange Rows.safeSpec).preRow enc Tryd.prog Tryd.f4 Rows.safeRow.domain false Rows.safeRow.laid) (((OpenSpec.ofChange Rows.safeSpec).at F).post enc Tryd.prog Tryd.f4 false true false false) := by
  obtain ⟨places, hx⟩ := reads os enc
  refine returnsInHanded_of_row (C := Tryd.checked) (s := OpenSpec.ofChange Rows.safeSpec) own started (by kernel_rfl) Tryd.func4
    (witness_row_at (enc := enc) (C := Tryd.checked) false (laidWorld os) #[.int .i64 0, .int .i64 0, .slice none 0 0, .slice none 0 0] rfl (by kernel_rfl) (by kernel_rfl) (by kernel_rfl)
      (OpenSpec.preRow_of_cond 8 hx (by kernel_rfl) (fun k hk => by cases hk) (by kernel_rfl) (laid_met os))) ?_
  intro W base args ds gs before hval hW _ _ _ hL _ _
  exact contract H enc W base args ds gs before hval hW hL
theorem said : Rows.SafeSaid :=
  OpenClaim.holds_of_cond 4 Tryd.f4 rfl rfl rfl rfl rfl rfl rfl ⟨rfl, rfl, rfl, rfl, rfl⟩ rfl rfl rfl rfl rfl (by kernel_rfl) Tryd.func4 (by kernel_rfl)
    (of_decide_eq_true (by kernel_rfl)) (by unfold Func.isWrapper; first | (rw [if_pos (by decide +kernel)]; kernel_rfl) | (rw [if_neg (by decide +kernel)]; exact ⟨rfl, rfl⟩))
    (fun os started H enc _ F => by rw [OpenClaim.pre_eq_preRow]; exact lifted os started H enc F)
theorem plain (f : FuncId) (fn : Func) (hf : Tryd.pinned.checked.prog.funcNamed "casement/casementkeep.Safe" = some f) (hfn : Tryd.pinned.checked.prog.funcs[f]? = some fn) :
    false = Tryd.pinned.checked.prog.looks [] ∧ ∀ (j : Nat) t, fn.params[j]? = some t → Tryd.pinned.checked.prog.wantsStandIn t = false := by
  obtain rfl : f = 4 := Option.some.inj ((show Tryd.prog.funcNamed "casement/casementkeep.Safe" = some 4 by kernel_rfl).symm.trans hf) |>.symm
  obtain rfl : fn = Tryd.f4 := (Option.some.inj (Tryd.func4.symm.trans hfn)).symm
  refine ⟨by kernel_rfl, fun j t ht => ?_⟩
  rw [Tryd.params4] at ht
  have hm : t = 3 ∨ t = 36 ∨ t = 37 := by simpa using Array.mem_of_getElem? ht
  rcases hm with rfl | rfl | rfl
  · exact (show Tryd.prog.wantsStandIn 3 = false by kernel_rfl)
  · exact (show Tryd.prog.wantsStandIn 36 = false by kernel_rfl)
  · exact (show Tryd.prog.wantsStandIn 37 = false by kernel_rfl)
theorem card : Rows.SafeCardSaid :=
  Claim7.holds_tied_plain_at .later [] _ _ _ _ said (fun _ h => by cases h) (by kernel_rfl) (fun _ h => by cases h) safe_row_tie rfl ⟨rfl, rfl⟩ (by kernel_rfl) rfl plain (by kernel_rfl)
end Go.Proofs.YtjlfibhbfdckpaaDoor.safe
namespace Go.Proofs.YtjlfibhbfdckpaaDoor
theorem safe_holds : Rows.SafeCardSaid := safe.card
#print axioms safe_holds
end Go.Proofs.YtjlfibhbfdckpaaDoor
