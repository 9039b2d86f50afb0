/- Texts of the proof, one behind the other: SfC, SpA, RfA, RfD. -/
import Derived.Test.YtknhohbepkapdaaDoorK02
import Derived.Test.YtknhohbepkapdaaDoorK03
import Derived.Test.YtknhohbepkapdaaDoorK14
import Derived.Test.YtknhohbepkapdaaDoorChecked
import Derived.WalkSpells
import Derived.WalkLawsBesides
import Derived.Deep.RegionHeld3
import Derived.Deep.DrawnRows
import Derived.BigRegion
import Derived.Deep.QuietTactic
import Derived.BigQuiet
import Derived.Deep.RegionLaw
import Derived.Deep.AppendLies
/- The statements without the document's answer: Safe. -/
namespace Go.Proofs.YtknhohbepkapdaaDoor
open Go.RowKit
attribute [local go_sem ↓] Go.wp_at_zero Go.wp_at_succ
/-- The program's screen, all its blocks made behind B. -/
structure CsUp (B : Nat) (w : World) (pc bs bg : Nat) (s : Rs) : Prop where
  at' : ∃ g N, CsAt w pc bs bg g N s ∧ B ≤ g
  u1 : B ≤ pc
  u2 : B ≤ bs
  u3 : B ≤ bg
theorem CsUp.below {B : Nat} {w w' : World} {pc bs bg : Nat} {s : Rs} (h : CsUp B w pc bs bg s) (hb : Below w.heap.size w w') : CsUp B w' pc bs bg s := by
  obtain ⟨g, N, C, u⟩ := h.at'
  exact ⟨⟨g, N, C.below hb, u⟩, h.u1, h.u2, h.u3⟩
theorem uFeed {w0 w : World} {pc bs bg : Nat} {s : Rs} (b : ByteArray) (h : CsUp w0.heap.size w pc bs bg s) (hB : Below w0.heap.size w0 w) (T : Tabs w0) (hb : b.size ≤ 9223372036854775807) :
    Calls Tryd.prog 12 #[.pointer (some ⟨pc, 0, none⟩), .string b] w fun e w' => e = .returned (.tuple #[]) ∧ CsUp w0.heap.size w' pc bs bg (feedR s b.data.toList) ∧ Below w0.heap.size w0 w' := by
  obtain ⟨g, N, C, u⟩ := h.at'
  have u2 := h.u2
  have u3 := h.u3
  have T' : Tabs w := T.below hB
  refine (cFeed pc bs bg g N s b w C T' hb).mono ?_
  rintro e w' ⟨g', N', rfl, C', K, hg⟩
  have := hB.size
  exact ⟨rfl, ⟨⟨g', N', C', by omega⟩, h.u1, u2, u3⟩, hB.trans (K.toBelow hB.size (fun i hi => by omega))⟩
theorem uResize {w0 w : World} {pc bs bg : Nat} {s : Rs} {W H : Nat} (h : CsUp w0.heap.size w pc bs bg s) (hB : Below w0.heap.size w0 w) (w1 : 1 ≤ W) (w2 : W ≤ 40) (h1 : 1 ≤ H) (h2 : H ≤ 20) :
    Calls Tryd.prog 15 #[.pointer (some ⟨pc, 0, none⟩), .int .i64 W, .int .i64 H] w fun e w' => e = .returned (.int .i64 0) ∧ CsUp w0.heap.size w' pc bs bg (resizeR s W H) ∧ Below w0.heap.size w0 w' := by
  obtain ⟨g, N, C, u⟩ := h.at'
  have u2 := h.u2
  have u3 := h.u3
  refine (cResizeYes pc bs bg g N s W H w C w1 w2 h1 h2).mono ?_
  rintro e w' ⟨g', N', rfl, C', K, hg⟩
  have := hB.size
  exact ⟨rfl, ⟨⟨g', N', C', by omega⟩, h.u1, u2, u3⟩, hB.trans (K.toBelow hB.size (fun i hi => by omega))⟩
theorem uSound {w : World} {B pc bs bg : Nat} {s : Rs} (h : CsUp B w pc bs bg s) :
    Calls Tryd.prog 13 #[.pointer (some ⟨pc, 0, none⟩)] w fun e w' => e = .returned (.bool true) ∧ Below w.heap.size w w' := by
  obtain ⟨g, N, C, u⟩ := h.at'
  exact kSound pc bs bg g N s w C
theorem uState {w : World} {B pc bs bg : Nat} {s : Rs} (h : CsUp B w pc bs bg s) :
    Calls Tryd.prog 16 #[.pointer (some ⟨pc, 0, none⟩)] w fun e w' => e = .returned (stAgg s.W s.H s.x s.y s.pend s.pen s.top s.bot (groundB s)) ∧ Below w.heap.size w w' := by
  obtain ⟨g, N, C, u⟩ := h.at'
  exact cState pc bs bg g N s w C
/-- What a walk is told of a slice of strings that came in. -/
def StrsIn (w : World) (a : Option Addr) (n : Nat) (ts : List ByteArray) : Prop :=
  ∀ k, k < n → ∃ b off, a = some ⟨b, off, none⟩ ∧ b < w.heap.size ∧ w.cell? ⟨b, off + k, none⟩ = some (.string (ts.getD k ByteArray.empty)) ∧ (ts.getD k ByteArray.empty).size ≤ 9223372036854775807
/-- And of a slice of integers. -/
def IntsIn (w : World) (a : Option Addr) (n : Nat) (zs : List Int) : Prop :=
  ∀ k, k < n → ∃ b off, a = some ⟨b, off, none⟩ ∧ b < w.heap.size ∧ w.cell? ⟨b, off + k, none⟩ = some (.int .i64 (zs.getD k 0)) ∧ -9223372036854775808 ≤ zs.getD k 0 ∧ zs.getD k 0 ≤ 9223372036854775807
theorem tdiv_in {z : Int} {k : Int} (hk : 1 ≤ k) (h0 : -9223372036854775808 ≤ z) (h1 : z ≤ 9223372036854775807) : -9223372036854775808 ≤ z.tdiv k ∧ z.tdiv k ≤ 9223372036854775807 := by
  rcases Int.le_total 0 z with h | h
  · have a := Int.tdiv_nonneg h (by omega : 0 ≤ k)
    have b : z.tdiv k ≤ z := Int.tdiv_le_self _ h
    omega
  · have a := Int.tdiv_nonneg (show 0 ≤ -z by omega) (by omega : 0 ≤ k)
    have b : (-z).tdiv k ≤ -z := Int.tdiv_le_self _ (by omega)
    rw [Int.neg_tdiv] at a b
    omega
set_option maxRecDepth 10000 in
set_option maxHeartbeats 4000000 in
theorem kSafe (x y : Int) (ta : Option Addr) (tn tc : Nat) (ts : List ByteArray) (za : Option Addr) (zn zc : Nat) (zs : List Int) (w : World) (T : Tabs w) (hw : 2 ≤ w.heap.size)
    (x0 : -9223372036854775808 ≤ x) (x1 : x ≤ 9223372036854775807) (y0 : -9223372036854775808 ≤ y) (y1 : y ≤ 9223372036854775807)
    (hT : StrsIn w ta tn ts) (hZ : IntsIn w za zn zs) (ht : tn ≤ 9223372036854775807) :
    Calls Tryd.prog 4 #[.int .i64 x, .int .i64 y, .slice ta tn tc, .slice za zn zc] w fun e w' => e = .returned (.bool true) ∧ Below w.heap.size w w' := by
  have HT : Hid (Tabs w) := T
  have HS : Hid (StrsIn w ta tn ts) := hT
  have HZ : Hid (IntsIn w za zn zs) := hZ
  clear T hT hZ
  go_enter Tryd.func4, Tryd.ntmps4
  go_wp2_with fail
  go_at_call 10
  refine (kWorks _ HT.out hw).mono ?_
  rintro e wa ⟨rfl, b1⟩
  have HB1 : Hid (Below w.heap.size w wa) := b1
  have hwa : 2 ≤ wa.heap.size := Nat.le_trans hw b1.size
  clear b1
  go_wp2_with fail
  go_at_call 11
  refine (kScreen x y _ hwa x0 x1 y0 y1).mono ?_
  rintro e wb ⟨pc, bs, bg, g, N, rfl, C1, b1, q0, q1, q2, q3⟩
  have hsz := HB1.out.size
  have HC2 : Hid (CsUp w.heap.size wb pc bs bg (newR (1 + pickK x 40) (1 + pickK y 20))) := ⟨⟨g, N, C1, by omega⟩, by omega, by omega, by omega⟩
  have HB2 : Hid (Below w.heap.size w wb) := HB1.out.trans (b1.mono hsz)
  clear C1 b1 q0 q1 q2 q3 hsz hwa HB1
  go_wp2_with fail
  go_loopw [11] (fun i w' => ∃ (k : Nat) (s : Rs), k ≤ tn ∧ i = .int .i64 k ∧ CsUp w.heap.size w' pc bs bg s ∧ Below w.heap.size w w') (fun i _ => tn - (intOf i).toNat)
  case atStart => exact ⟨0, _, by omega, rfl, HC2.out, HB2.out⟩
  case round =>
    obtain ⟨k, s, hk, rfl, hC, hB⟩ := hrel
    clear HC2 HB2
    have HC2 : Hid (CsUp w.heap.size wr pc bs bg s) := hC
    have HB2 : Hid (Below w.heap.size w wr) := hB
    by_cases hlt : k < tn
    · obtain ⟨b, off, rfl, hbs, hcell, hsz⟩ := HS.out k hlt
      have hc : wr.cell? ⟨b, off + k, none⟩ = some (.string (ts.getD k ByteArray.empty)) := (hB.cell (p := ⟨b, off + k, none⟩) hbs).trans hcell
      clear hcell hC hB
      generalize ts.getD k ByteArray.empty = tx at *
      have hlt' : (k : Int) < tn := by omega
      go_wp2_with fail
      go_at_call 12
      refine (uFeed tx HC2.out HB2.out HT.out hsz).mono ?_
      rintro e w3 ⟨rfl, C3, B3⟩
      clear HC2 HB2 hc
      have HC2 : Hid (CsUp w.heap.size w3 pc bs bg (feedR s tx.data.toList)) := C3
      have HB2 : Hid (Below w.heap.size w w3) := B3
      clear C3 B3
      generalize feedR s tx.data.toList = s3 at *
      go_wp2_with fail
      go_at_call 13
      refine (uSound HC2.out).mono ?_
      rintro e w4 ⟨rfl, b4⟩
      replace HC2 : Hid (CsUp w.heap.size w4 pc bs bg s3) := HC2.out.below b4
      replace HB2 : Hid (Below w.heap.size w w4) := HB2.out.trans (b4.mono HB2.out.size)
      clear b4
      by_cases hzn : k < zn
      · have hzn' : (k : Int) < zn := by omega
        obtain ⟨zb, zo, rfl, zbs, zcell, zl, zu⟩ := HZ.out k hzn
        have zc : w4.cell? ⟨zb, zo + k, none⟩ = some (.int .i64 (zs.getD k 0)) := (HB2.out.cell (p := ⟨zb, zo + k, none⟩) zbs).trans zcell
        clear zcell
        generalize zs.getD k 0 = z at *
        cases hm : (z.tmod 3 == 0) with
        | true =>
          obtain ⟨p1, p2⟩ := tdiv_in (k := 3) (by omega) zl zu
          obtain ⟨p3, p4⟩ := tdiv_in (k := 5) (by omega) zl zu
          have l1 := pickK_lt (z.tdiv 3) (n := 40) (by omega)
          have l2 := pickK_lt (z.tdiv 5) (n := 20) (by omega)
          obtain ⟨V, hV⟩ : ∃ V, 1 + pickK (z.tdiv 3) 40 = V := ⟨_, rfl⟩
          obtain ⟨G, hG⟩ : ∃ G, 1 + pickK (z.tdiv 5) 20 = G := ⟨_, rfl⟩
          have eV : (1 : Int) + (pickK (z.tdiv 3) 40 : Nat) = (V : Int) := by omega
          have eG : (1 : Int) + (pickK (z.tdiv 5) 20 : Nat) = (G : Int) := by omega
          have V1 : 1 ≤ V := by omega
          have V2 : V ≤ 40 := by omega
          have G1 : 1 ≤ G := by omega
          have G2 : G ≤ 20 := by omega
          clear hV hG
          go_wp2_with fail
          go_at_call 14
          refine (kPick (z.tdiv 3) 40 _ (by omega) (by omega) p1 p2).mono ?_
          rintro e w' ⟨rfl, hw'⟩
          replace hw' := hw'.symm
          subst hw'
          go_wp2_with fail
          go_at_call 14
          refine (kPick (z.tdiv 5) 20 _ (by omega) (by omega) p3 p4).mono ?_
          rintro e w' ⟨rfl, hw'⟩
          replace hw' := hw'.symm
          subst hw'
          go_wp2_with fail
          go_at_call 15
          refine (uResize HC2.out HB2.out V1 V2 G1 G2).mono ?_
          rintro e w5 ⟨rfl, C5, B5⟩
          clear HC2 HB2
          have HC2 : Hid (CsUp w.heap.size w5 pc bs bg (resizeR s3 V G)) := C5
          have HB2 : Hid (Below w.heap.size w w5) := B5
          have HW : Hid ((resizeR s3 V G).W = V ∧ (resizeR s3 V G).H = G ∧ (resizeR s3 V G).pend = false ∧ (resizeR s3 V G).top = 0 ∧ (resizeR s3 V G).bot = (G : Int) - 1) := ⟨rfl, rfl, rfl, rfl, rfl⟩
          clear C5 B5
          generalize resizeR s3 V G = s5 at *
          go_wp2_with fail
          go_at_call 13
          refine (uSound HC2.out).mono ?_
          rintro e w6 ⟨rfl, b6⟩
          replace HC2 : Hid (CsUp w.heap.size w6 pc bs bg s5) := HC2.out.below b6
          replace HB2 : Hid (Below w.heap.size w w6) := HB2.out.trans (b6.mono HB2.out.size)
          clear b6
          go_wp2_with fail
          go_at_call 16
          refine (uState HC2.out).mono ?_
          rintro e w7 ⟨rfl, b7⟩
          replace HC2 : Hid (CsUp w.heap.size w7 pc bs bg s5) := HC2.out.below b7
          replace HB2 : Hid (Below w.heap.size w w7) := HB2.out.trans (b7.mono HB2.out.size)
          clear b7
          obtain ⟨r1, r2, r3, r4, r5⟩ := HW.out
          rw [r1, r2, r3, r4, r5]
          clear r1 r2 r3 r4 r5
          go_wp2_with fail
          exact ⟨⟨k + 1, _, by omega, by simp, HC2.out.below ((Below.refl _ _).alloc (Nat.le_refl _) _), HB2.out.trans (((Below.refl _ _).alloc (Nat.le_refl _) _).mono HB2.out.size)⟩, by simp only [intOf]; omega⟩
        | false =>
          go_wp2_with fail
          exact ⟨⟨k + 1, _, by omega, by simp, HC2.out, HB2.out⟩, by simp only [intOf]; omega⟩
      · have hzn' : ¬ (k : Int) < zn := by omega
        go_wp2_with fail
        exact ⟨⟨k + 1, _, by omega, by simp, HC2.out, HB2.out⟩, by simp only [intOf]; omega⟩
    · have hlt' : ¬ (k : Int) < tn := by omega
      go_wp2_with fail
      go_ret
      exact ⟨rfl, HB2.out⟩
end Go.Proofs.YtknhohbepkapdaaDoor

/- The statements without the document's answer: what Split needs of two screens. -/
namespace Go.Proofs.YtknhohbepkapdaaDoor
open Go.RowKit
open Wd (wd)
attribute [local go_sem ↓] Go.wp_at_zero Go.wp_at_succ
set_option maxHeartbeats 1000000 in
/-- Feed, told with the cells' block. -/
theorem cFeedS (pc bs bg g N : Nat) (s : Rs) (b : ByteArray) (w : World) (h : CsAt w pc bs bg g N s) (T : Tabs w) (hb : b.size ≤ 9223372036854775807) :
    Calls Tryd.prog 12 #[.pointer (some ⟨pc, 0, none⟩), .string b] w fun e w' => e = .returned (.tuple #[]) ∧ CsAt w' pc bs bg g N (feedR s b.data.toList) ∧ Keep (fun i => i = bs ∨ i = bg ∨ i = g) w w' := by
  have HC : Hid (CsAt w pc bs bg g N s) := h
  have HT : Hid (Tabs w) := T
  have c0 := h.c0
  clear h T
  go_enter Tryd.func12, Tryd.ntmps12
  go_wp2_with (first | (go_at_call 25; refine (cNone pc bs bg g N s _ HC.out).mono ?_; rintro e w' ⟨rfl, hw'⟩; replace hw' := hw'.symm; subst hw'))
  go_at_call 26
  obtain ⟨t, P, tie⟩ := HC.out.pr
  have l1 := HC.out.l1
  have l2 := HC.out.l2
  have l3 := HC.out.l3
  refine (sFeed bs bg g N s t b _ P HC.out.ok HT.out tie (by omega) (by omega) (by omega) (by omega) (by omega) (by omega) hb).mono ?_
  rintro e wa ⟨rfl, P1, K1⟩
  have HP1 : Hid (∃ t, PrAt wa bs bg g N (feedR s b.data.toList) t ∧ Tie (feedR s b.data.toList).B t) := P1
  clear P tie P1
  go_wp2_with fail
  go_end0
  have q := HC.out
  exact ⟨rfl, ⟨by rw [K1.block _ q.lt (fun h => by have := q.ne1; have := q.ne2; have := q.ne3; omega)]; exact q.blk, HP1.out, feed_ok _ q.ok, q.ne1, q.ne2, q.ne3, l1, l2, l3⟩, K1⟩
/-- What is odd is not seen. -/
theorem CsAt.noOdd {w : World} {pc bs bg g N : Nat} {s : Rs} (h : CsAt w pc bs bg g N (oddR s)) : CsAt w pc bs bg g N s := by
  obtain ⟨t, P, T⟩ := h.pr
  exact ⟨h.blk, ⟨t, P.congr s rfl rfl rfl (fun _ _ _ _ => rfl), T⟩, h.ok.cong rfl rfl rfl rfl rfl rfl rfl rfl, h.ne1, h.ne2, h.ne3, h.l1, h.l2, h.l3⟩
theorem feed_append (s : Rs) (a b : List UInt8) : feedR s (a ++ b) = feedR (feedR s a) b := List.foldl_append
theorem ground_nil {s : Rs} (h : groundB s = true) : s.B = ⟨#[]⟩ := by
  unfold groundB at h
  rw [ByteArray.toList_eq] at h
  cases hB : s.B with
  | mk d =>
    rw [hB] at h
    cases d with
    | mk l => cases l with
      | nil => rfl
      | cons a r => simp at h
/-- What stands for nothing changes nothing. -/
theorem nothing {s : Rs} (h : groundB s = true) (c : UInt8) (hc : c ∈ ([0, 7, 127, 128, 193, 245, 255, 9, 11, 31] : List UInt8)) : feedR s [c] = oddR s := by
  have hB := ground_nil h
  show oneR s c = oddR s
  unfold oneR
  rw [hB]
  show groundR s c = oddR s
  simp only [List.mem_cons, List.mem_nil_iff, or_false] at hc
  rcases hc with rfl | rfl | rfl | rfl | rfl | rfl | rfl | rfl | rfl | rfl <;> simp [groundR, longR]
/-- A screen of the program, its blocks from lo up to hi. -/
def Own (lo hi : Nat) (w : World) (pc : Nat) (s : Rs) : Prop :=
  ∃ bs bg g N, CsAt w pc bs bg g N s ∧ lo ≤ pc ∧ pc < hi ∧ lo ≤ bs ∧ bs < hi ∧ lo ≤ bg ∧ bg < hi ∧ lo ≤ g ∧ g < hi
theorem Own.below {lo hi : Nat} {w w' : World} {pc : Nat} {s : Rs} (h : Own lo hi w pc s) (b : Below w.heap.size w w') : Own lo hi w' pc s := by
  obtain ⟨bs, bg, g, N, C, r⟩ := h
  exact ⟨bs, bg, g, N, C.below b, r⟩
theorem Own.keep {lo hi lo' hi' : Nat} {w w' : World} {pc : Nat} {s : Rs} (h : Own lo hi w pc s) (k : Keep (fun i => lo' ≤ i ∧ i < hi') w w') (d : hi ≤ lo' ∨ hi' ≤ lo) : Own lo hi w' pc s := by
  obtain ⟨bs, bg, g, N, C, r⟩ := h
  exact ⟨bs, bg, g, N, C.keep k (by omega) (by omega) (by omega) (by omega), r⟩
theorem Own.drew {lo hi : Nat} {w : World} {pc : Nat} {s : Rs} (h : Own lo hi w pc s) : Own lo hi w.drew pc s := by
  obtain ⟨bs, bg, g, N, C, r⟩ := h
  exact ⟨bs, bg, g, N, C.same rfl rfl rfl rfl, r⟩
theorem Own.noOdd {lo hi : Nat} {w : World} {pc : Nat} {s : Rs} (h : Own lo hi w pc (oddR s)) : Own lo hi w pc s := by
  obtain ⟨bs, bg, g, N, C, r⟩ := h
  exact ⟨bs, bg, g, N, C.noOdd, r⟩
theorem ownFeed {lo hi : Nat} {w : World} {pc : Nat} {s : Rs} (h : Own lo hi w pc s) (T : Tabs w) (b : ByteArray) (hb : b.size ≤ 9223372036854775807) :
    Calls Tryd.prog 12 #[.pointer (some ⟨pc, 0, none⟩), .string b] w fun e w' => e = .returned (.tuple #[]) ∧ Own lo hi w' pc (feedR s b.data.toList) ∧ Keep (fun i => lo ≤ i ∧ i < hi) w w' := by
  obtain ⟨bs, bg, g, N, C, r⟩ := h
  refine (cFeedS pc bs bg g N s b w C T hb).mono ?_
  rintro e w' ⟨rfl, C', K⟩
  exact ⟨rfl, ⟨bs, bg, g, N, C', r⟩, K.mono (fun i hi => by omega)⟩
theorem ownState {lo hi : Nat} {w : World} {pc : Nat} {s : Rs} (h : Own lo hi w pc s) :
    Calls Tryd.prog 16 #[.pointer (some ⟨pc, 0, none⟩)] w fun e w' => e = .returned (stAgg s.W s.H s.x s.y s.pend s.pen s.top s.bot (groundB s)) ∧ Below w.heap.size w w' := by
  obtain ⟨bs, bg, g, N, C, r⟩ := h
  exact cState pc bs bg g N s w C
theorem ownCell {lo hi : Nat} {w : World} {pc : Nat} {s : Rs} (h : Own lo hi w pc s) (x y : Int) :
    Calls Tryd.prog 23 #[.pointer (some ⟨pc, 0, none⟩), .int .i64 x, .int .i64 y] w fun e w' => e = .returned (.tuple #[(cellAt s x y).agg, .int .i64 (errAt s x y)]) ∧ Below w.heap.size w w' := by
  obtain ⟨bs, bg, g, N, C, r⟩ := h
  exact cCell pc bs bg g N s x y w C
theorem Own.ok {lo hi : Nat} {w : World} {pc : Nat} {s : Rs} (h : Own lo hi w pc s) : s.Ok := by
  obtain ⟨bs, bg, g, N, C, r⟩ := h
  exact C.ok
theorem ownScreen (x y : Int) (w : World) (hw : 2 ≤ w.heap.size) (x0 : -9223372036854775808 ≤ x) (x1 : x ≤ 9223372036854775807) (y0 : -9223372036854775808 ≤ y) (y1 : y ≤ 9223372036854775807) :
    Calls Tryd.prog 11 #[.int .i64 x, .int .i64 y] w fun e w' => ∃ pc, e = .returned (.pointer (some ⟨pc, 0, none⟩)) ∧ Own w.heap.size w'.heap.size w' pc (newR (1 + pickK x 40) (1 + pickK y 20)) ∧ Below w.heap.size w w' := by
  refine (kScreen x y w hw x0 x1 y0 y1).mono ?_
  rintro e w' ⟨pc, bs, bg, g, N, rfl, C, b, q0, q1, q2, q3⟩
  obtain ⟨t, P, _⟩ := C.pr
  exact ⟨pc, rfl, ⟨bs, bg, g, N, C, q0, C.lt, q1, P.lt, q2, P.gr.lt, q3, P.gr.glt⟩, b⟩
set_option maxRecDepth 10000 in
set_option maxHeartbeats 4000000 in
theorem kSame (la ha pa lb hb pb : Nat) (s : Rs) (w : World) (h : Own la ha w pa s) (k : Own lb hb w pb s) :
    Calls Tryd.prog 17 #[.pointer (some ⟨pa, 0, none⟩), .pointer (some ⟨pb, 0, none⟩)] w fun e w' => e = .returned (.bool true) ∧ Below w.heap.size w w' := by
  have HA : Hid (Own la ha w pa s) := h
  have HC : Hid (Own lb hb w pb s) := k
  have W1 := h.ok.w1
  have W2 := h.ok.w2
  have H1 := h.ok.h1
  have H2 := h.ok.h2
  clear h k
  go_enter Tryd.func17, Tryd.ntmps17
  go_wp2_with fail
  go_at_call 16
  refine (ownState HA.out).mono ?_
  rintro e wa ⟨rfl, b1⟩
  replace HA : Hid (Own la ha wa pa s) := HA.out.below b1
  replace HC : Hid (Own lb hb wa pb s) := HC.out.below b1
  have HB1 : Hid (Below w.heap.size w wa) := b1
  clear b1
  go_wp2_with fail
  generalize hWb : wa.alloc _ = wb
  have bb : Below wa.heap.size wa wb := by rw [← hWb]; exact (Below.refl _ _).alloc (Nat.le_refl _) _
  have St : StAt wb wa.heap.size s := by rw [← hWb]; exact heap_new wa _
  have HSt : Hid (StAt wb wa.heap.size s) := St
  replace HA : Hid (Own la ha wb pa s) := HA.out.below bb
  replace HC : Hid (Own lb hb wb pb s) := HC.out.below bb
  replace HB1 : Hid (Below w.heap.size w wb) := HB1.out.trans (bb.mono HB1.out.size)
  generalize wa.heap.size = Bt at *
  clear hWb bb St
  have t0 : wb.cell? ⟨Bt, 0, none⟩ = some (.int .i64 s.W) := cell_of_block HSt.out 0
  have t1 : wb.cell? ⟨Bt, 1, none⟩ = some (.int .i64 s.H) := cell_of_block HSt.out 1
  have t2 : wb.cell? ⟨Bt, 2, none⟩ = some (.int .i64 s.x) := cell_of_block HSt.out 2
  have t3 : wb.cell? ⟨Bt, 3, none⟩ = some (.int .i64 s.y) := cell_of_block HSt.out 3
  have t4 : wb.cell? ⟨Bt, 4, none⟩ = some (.bool s.pend) := cell_of_block HSt.out 4
  have t5 : wb.cell? ⟨Bt, 5, none⟩ = some (.int .i64 s.pen.f) := cell_of_block HSt.out 5
  have t6 : wb.cell? ⟨Bt, 6, none⟩ = some (.int .i64 s.pen.b) := cell_of_block HSt.out 6
  have t7 : wb.cell? ⟨Bt, 7, none⟩ = some (.bool s.pen.bo) := cell_of_block HSt.out 7
  have t8 : wb.cell? ⟨Bt, 8, none⟩ = some (.bool s.pen.un) := cell_of_block HSt.out 8
  have t9 : wb.cell? ⟨Bt, 9, none⟩ = some (.bool s.pen.re) := cell_of_block HSt.out 9
  have t10 : wb.cell? ⟨Bt, 10, none⟩ = some (.int .i64 s.top) := cell_of_block HSt.out 10
  have t11 : wb.cell? ⟨Bt, 11, none⟩ = some (.int .i64 s.bot) := cell_of_block HSt.out 11
  have t12 : wb.cell? ⟨Bt, 12, none⟩ = some (.bool (groundB s)) := cell_of_block HSt.out 12
  have lt : Bt < wb.heap.size := HSt.out.lt
  have HD : Hid (Own lb hb wb.drew pb s) := HC.out.drew
  go_region_held3 (fun w' => w'.cell? ⟨Bt, 0, none⟩ = some (.int .i64 s.W) ∧ w'.cell? ⟨Bt, 1, none⟩ = some (.int .i64 s.H) ∧ w'.cell? ⟨Bt, 2, none⟩ = some (.int .i64 s.x) ∧ w'.cell? ⟨Bt, 3, none⟩ = some (.int .i64 s.y) ∧ w'.cell? ⟨Bt, 4, none⟩ = some (.bool s.pend) ∧ w'.cell? ⟨Bt, 5, none⟩ = some (.int .i64 s.pen.f) ∧ w'.cell? ⟨Bt, 6, none⟩ = some (.int .i64 s.pen.b) ∧ w'.cell? ⟨Bt, 7, none⟩ = some (.bool s.pen.bo) ∧ w'.cell? ⟨Bt, 8, none⟩ = some (.bool s.pen.un) ∧ w'.cell? ⟨Bt, 9, none⟩ = some (.bool s.pen.re) ∧ w'.cell? ⟨Bt, 10, none⟩ = some (.int .i64 s.top) ∧ w'.cell? ⟨Bt, 11, none⟩ = some (.int .i64 s.bot) ∧ w'.cell? ⟨Bt, 12, none⟩ = some (.bool (groundB s))) (simp [*]) (first | (go_at_call 16; refine (ownState HD.out).mono ?_; rintro e w2 ⟨rfl, b2⟩; have e1 := b2.cells (b := Bt) lt; have B2 : Below wb.heap.size wb w2 := below_drew' b2))
  replace HA : Hid (Own la ha w2 pa s) := HA.out.below B2
  replace HC : Hid (Own lb hb w2 pb s) := HC.out.below B2
  replace HSt : Hid (StAt w2 Bt s) := HSt.out.below B2
  replace HB1 : Hid (Below w.heap.size w w2) := HB1.out.trans (B2.mono HB1.out.size)
  clear t0 t1 t2 t3 t4 t5 t6 t7 t8 t9 t10 t11 t12 e1 B2 HD b2 lt
  go_wp2_with fail
  go_loopw [6] (fun i w' => ∃ y : Nat, y ≤ s.H ∧ i = .int .i64 y ∧ Own la ha w' pa s ∧ Own lb hb w' pb s ∧ Below w.heap.size w w' ∧ StAt w' Bt s) (fun i _ => s.H - (intOf i).toNat)
  case atStart => exact ⟨0, by omega, rfl, HA.out, HC.out, HB1.out, HSt.out⟩
  case round =>
    obtain ⟨y, hy, rfl, hA, hC, hB, hS⟩ := hrel
    clear HA HC HB1 HSt
    have HA : Hid (Own la ha wr pa s) := hA
    have HC : Hid (Own lb hb wr pb s) := hC
    have HB1 : Hid (Below w.heap.size w wr) := hB
    have HSt : Hid (StAt wr Bt s) := hS
    have t0 := hS.c0
    have t1 := hS.c1
    clear hA hC hB hS
    by_cases hlt : y < s.H
    · have hlt' : (y : Int) < s.H := by omega
      go_wp2_with fail
      clear t0 t1
      go_loopw [7] (fun i w' => ∃ x : Nat, x ≤ s.W ∧ i = .int .i64 x ∧ Own la ha w' pa s ∧ Own lb hb w' pb s ∧ Below w.heap.size w w' ∧ StAt w' Bt s) (fun i _ => s.W - (intOf i).toNat)
      case atStart => exact ⟨0, by omega, rfl, HA.out, HC.out, HB1.out, HSt.out⟩
      case round =>
        obtain ⟨x, hx, rfl, hA, hC, hB, hS⟩ := hrel
        clear HA HC HB1 HSt
        have HA : Hid (Own la ha wr pa s) := hA
        have HC : Hid (Own lb hb wr pb s) := hC
        have HB1 : Hid (Below w.heap.size w wr) := hB
        have HSt : Hid (StAt wr Bt s) := hS
        have t0 := hS.c0
        have t1 := hS.c1
        clear hA hC hB hS
        by_cases hltx : x < s.W
        · have hltx' : (x : Int) < s.W := by omega
          go_wp2_with fail
          clear t0 t1
          go_at_call 23
          refine (ownCell HA.out x y).mono ?_
          rintro e w3 ⟨rfl, b3⟩
          obtain ⟨c, hc⟩ : ∃ c, cellAt s x y = c := ⟨_, rfl⟩
          obtain ⟨er, her⟩ : ∃ er, errAt s x y = er := ⟨_, rfl⟩
          rw [hc, her]
          replace HA : Hid (Own la ha w3 pa s) := HA.out.below b3
          replace HC : Hid (Own lb hb w3 pb s) := HC.out.below b3
          replace HB1 : Hid (Below w.heap.size w w3) := HB1.out.trans (b3.mono HB1.out.size)
          replace HSt : Hid (StAt w3 Bt s) := HSt.out.below b3
          clear b3
          go_wp2_with fail
          generalize hw4 : w3.alloc _ = w4
          have b4 : Below w3.heap.size w3 w4 := by rw [← hw4]; exact (Below.refl _ _).alloc (Nat.le_refl _) _
          have A4 : CelAt w4 w3.heap.size 0 c := by rw [← hw4]; exact cel_new' w3 c _ rfl _
          replace HA : Hid (Own la ha w4 pa s) := HA.out.below b4
          replace HC : Hid (Own lb hb w4 pb s) := HC.out.below b4
          replace HB1 : Hid (Below w.heap.size w w4) := HB1.out.trans (b4.mono HB1.out.size)
          replace HSt : Hid (StAt w4 Bt s) := HSt.out.below b4
          have l4 : w3.heap.size < w4.heap.size := A4.lt
          generalize w3.heap.size = Bc at *
          clear b4 hw4
          go_at_call 23
          refine (ownCell HC.out x y).mono ?_
          rintro e w5 ⟨rfl, b5⟩
          rw [hc, her]
          replace HA : Hid (Own la ha w5 pa s) := HA.out.below b5
          replace HC : Hid (Own lb hb w5 pb s) := HC.out.below b5
          replace HB1 : Hid (Below w.heap.size w w5) := HB1.out.trans (b5.mono HB1.out.size)
          replace HSt : Hid (StAt w5 Bt s) := HSt.out.below b5
          obtain ⟨a0, a1, a2, a3, a4, a5, a6⟩ := A4.below b5 l4
          simp only [Nat.zero_add] at a1 a2 a3 a4 a5 a6
          replace l4 : Bc < w5.heap.size := Nat.lt_of_lt_of_le l4 b5.size
          clear b5 A4
          go_wp2_with fail
          exact ⟨⟨x + 1, by omega, by simp, HA.out.below ((Below.refl _ _).alloc (Nat.le_refl _) _), HC.out.below ((Below.refl _ _).alloc (Nat.le_refl _) _), HB1.out.trans (((Below.refl _ _).alloc (Nat.le_refl _) _).mono HB1.out.size), HSt.out.below ((Below.refl _ _).alloc (Nat.le_refl _) _)⟩, by simp only [intOf]; omega⟩
        · have hltx' : ¬ (x : Int) < s.W := by omega
          go_wp2_with fail
          exact ⟨⟨y + 1, by omega, by simp, HA.out, HC.out, HB1.out, HSt.out⟩, by simp only [intOf]; omega⟩
    · have hlt' : ¬ (y : Int) < s.H := by omega
      go_wp2_with fail
      go_ret
      exact ⟨rfl, HB1.out⟩
end Go.Proofs.YtknhohbepkapdaaDoor

/- The document's cells: blank, in, at. -/
namespace Go.Proofs.YtknhohbepkapdaaDoor
open Go.RowKit
attribute [local go_sem ↓] Go.wp_at_zero Go.wp_at_succ
theorem refBlank (n : Pn) (w : World) :
    Calls Tryd.prog 51 #[n.agg] w fun e w' => e = .returned (blk n).agg ∧ Below w.heap.size w w' := by
  go_enter Tryd.func51, Tryd.ntmps51
  go_wp2
  exact bodyPost_ret (v := (blk n).agg) (by simp [results, Tryd.results51, go_sem, blk]) rfl ⟨rfl, ((Below.refl _ _).alloc (Nat.le_refl _) _).alloc (by simp) _⟩
set_option maxHeartbeats 1000000 in
theorem refIn (bc W H : Nat) (x y : Int) (w : World)
    (h0 : w.cell? ⟨bc, 0, none⟩ = some (.int .i64 W)) (h1 : w.cell? ⟨bc, 1, none⟩ = some (.int .i64 H)) :
    Calls Tryd.prog 39 #[.pointer (some ⟨bc, 0, none⟩), .int .i64 x, .int .i64 y] w fun e w' => e = .returned (.bool (inG W H x y)) ∧ w' = w := by
  rcases (by omega : x < 0 ∨ (0 ≤ x ∧ x < W) ∨ (0 ≤ x ∧ (W : Int) ≤ x)) with a1 | ⟨a1, a2⟩ | ⟨a1, a2⟩
  all_goals rcases (by omega : y < 0 ∨ (0 ≤ y ∧ y < H) ∨ (0 ≤ y ∧ (H : Int) ≤ y)) with b1 | ⟨b1, b2⟩ | ⟨b1, b2⟩
  all_goals
    go_enter Tryd.func39, Tryd.ntmps39
    go_wp2
    go_ret
    exact ⟨by simp [inG]; omega, rfl⟩
set_option maxHeartbeats 1000000 in
theorem refAt (bc g cap W H N : Nat) (G : Nat → Nat → Cel) (x y : Int) (w : World) (h : Cels w bc g cap W H N G) (x0 : 0 ≤ x) (x1 : x < W) (y0 : 0 ≤ y) (y1 : y < H) :
    Calls Tryd.prog 40 #[.pointer (some ⟨bc, 0, none⟩), .int .i64 x, .int .i64 y] w fun e w' => e = .returned (G x.toNat y.toNat).agg ∧ Below w.heap.size w w' := by
  obtain ⟨x, rfl⟩ := Int.eq_ofNat_of_zero_le x0
  obtain ⟨y, rfl⟩ := Int.eq_ofNat_of_zero_le y0
  simp only [Int.toNat_natCast]
  have hl : y * W + x < N := by rw [h.hN]; exact place_lt (by omega) (by omega)
  have hlen := h.nle
  have h0 := h.c0
  have h2 := h.c2
  have hc := h.grid.cel x y (by omega) (by omega)
  obtain ⟨i, hi⟩ : ∃ i, y * W + x = i := ⟨_, rfl⟩
  obtain ⟨m, hm⟩ : ∃ m, y * W = m := ⟨_, rfl⟩
  rw [hi] at hl hc
  rw [hm] at hi
  generalize G x y = c at *
  clear h
  have hw1 : IntKind.i64.wrap ((y : Int) * (W : Int)) = (m : Int) := by rw [← Int.natCast_mul, hm]; exact wrap_id _ (by omega) (by omega)
  have hw2 : IntKind.i64.wrap ((m : Int) + (x : Int)) = (i : Int) := by rw [wrap_id _ (by omega) (by omega)]; omega
  have hi1 : (0 : Int) ≤ (i : Int) := by omega
  have hi2 : (i : Int) < (N : Int) := by omega
  clear hm hi
  obtain ⟨c0, c1, c2, c3, c4, c5, c6⟩ := hc
  have n1 := World.new_ne w _ h0
  have n2 := World.new_ne w _ c0
  go_enter Tryd.func40, Tryd.ntmps40
  go_wp2
  go_region_held3 (fun w' => w'.cell? ⟨bc, 0, none⟩ = some (.int .i64 W) ∧ w'.cell? ⟨bc, 2, none⟩ = some (.slice (some ⟨g, 0, none⟩) N cap) ∧ w'.cell? ⟨g, i * 7, none⟩ = some (.int .i32 c.r) ∧ w'.cell? ⟨g, i * 7 + 1, none⟩ = some (.int .i64 c.p) ∧ w'.cell? ⟨g, i * 7 + 2, none⟩ = some (.int .i64 c.n.f) ∧ w'.cell? ⟨g, i * 7 + 3, none⟩ = some (.int .i64 c.n.b) ∧ w'.cell? ⟨g, i * 7 + 4, none⟩ = some (.bool c.n.bo) ∧ w'.cell? ⟨g, i * 7 + 5, none⟩ = some (.bool c.n.un) ∧ w'.cell? ⟨g, i * 7 + 6, none⟩ = some (.bool c.n.re)) (go_keep) (fail)
  go_wp2
  exact bodyPost_ret (v := c.agg) (by simp [results, Tryd.results40, go_sem]) rfl ⟨rfl, ((Below.refl _ _).alloc (Nat.le_refl _) _).drew⟩
end Go.Proofs.YtknhohbepkapdaaDoor

/- The document's cells: made. -/
namespace Go.Proofs.YtknhohbepkapdaaDoor
open Go.RowKit
attribute [local go_sem ↓] Go.wp_at_zero Go.wp_at_succ
theorem info_zero : (Tryd.prog.info? 56).bind (·.zero) = some (Cel.agg ⟨0, 0, Pn.plain⟩) := by kernel_rfl
theorem info_size : (Tryd.prog.info? 56).map (·.size) = some 7 := by kernel_rfl
theorem info_bytes : (Tryd.prog.info? 56).map (·.bytes) = some 40 := by kernel_rfl
theorem info_cell : ∃ i : TypeInfo, Tryd.prog.info? 56 = some i ∧ i.zero = some (Cel.agg ⟨0, 0, Pn.plain⟩) ∧ i.size = 7 ∧ i.bytes = 40 := by
  have h1 := info_zero
  have h2 := info_size
  have h3 := info_bytes
  cases h : Tryd.prog.info? 56 with
  | none => rw [h] at h2; simp at h2
  | some i => rw [h] at h1 h2 h3; exact ⟨i, rfl, by simpa using h1, by simpa using h2, by simpa using h3⟩
abbrev celArr (c : Cel) : Array Value := #[.int .i32 c.r, .int .i64 c.p, .int .i64 c.n.f, .int .i64 c.n.b, .bool c.n.bo, .bool c.n.un, .bool c.n.re]
theorem step_append_cel {ops : Array Oper} {o : Oper} {a : Act} {K : Act → World → Prop} {Q : Exit → Act → World → Prop} {E : Prop} (w : World) (hgd : o.guard = none) (s x : Operand)
    (ho : o.op = .call { callee := .builtin .append, args := #[s, x], argTypes := #[85, 85] }) (base : Nat) (v : Value) (L : List Cel) (c : Cel) (k : Nat) (hk : L.length = k) (hs : a.eval s = v)
    (hown : w.ownsRow base 56 7 v k (flat L)) (b : Nat) (hx : a.eval x = .slice (some ⟨b, 0, none⟩) 1 1) (hb : w.heap[b]? = some (.cells (celArr c) 56)) (hL : k ≤ 1000) (hbase : base ≤ w.heap.size)
    (h : ∀ g cap w', w'.ownsRow base 56 7 (.slice (some ⟨g, 0, none⟩) (k + 1) cap) (k + 1) (flat (L ++ [c])) → w.grownBy w' v.ownBlock → (v.ownBlock = some g ∨ g = w.heap.size) → g < w'.heap.size → K (a.put o.dst (.slice (some ⟨g, 0, none⟩) (k + 1) cap)) w') :
    if Region.wanted o (yielded ops a.tmps) = true then Oper.wp Tryd.prog o a w K Q else E := by
  obtain ⟨ti, i1, i2, i3, i4⟩ := info_cell
  refine step_append_lies w hgd s x 85 ho base 56 ti _ 7 40 Tryd.underlying85 i1 i2 i3 i4 rfl (by decide) v k (flat L) hs hown ⟨b, 0, none⟩ 1 1 c.vals hx rfl (World.news_of_block hb) (one_vals c) (by decide) (by unfold maxLen; omega) (by omega) hbase w.heap.size rfl ?_
  intro g cap w' h1 h2 h3 h4
  rw [← flat_one c, ← flat_append] at h1
  exact h g cap w' h1 h2 h3 h4
theorem list_append_cel {ops : Array Oper} {rest : List Oper} {o : Oper} {a : Act} {Q : Exit → Act → World → Prop} (w : World) (hgd : o.guard = none) (s x : Operand)
    (ho : o.op = .call { callee := .builtin .append, args := #[s, x], argTypes := #[85, 85] }) (base : Nat) (v : Value) (L : List Cel) (c : Cel) (k : Nat) (hk : L.length = k) (hs : a.eval s = v)
    (hown : w.ownsRow base 56 7 v k (flat L)) (b : Nat) (hx : a.eval x = .slice (some ⟨b, 0, none⟩) 1 1) (hb : w.heap[b]? = some (.cells (celArr c) 56)) (hL : k ≤ 1000) (hbase : base ≤ w.heap.size)
    (h : ∀ g cap w', w'.ownsRow base 56 7 (.slice (some ⟨g, 0, none⟩) (k + 1) cap) (k + 1) (flat (L ++ [c])) → w.grownBy w' v.ownBlock → (v.ownBlock = some g ∨ g = w.heap.size) → g < w'.heap.size → wpList Tryd.prog ops Q rest (a.put o.dst (.slice (some ⟨g, 0, none⟩) (k + 1) cap)) w') :
    wpList Tryd.prog ops Q (o :: rest) a w := by
  obtain ⟨ti, i1, i2, i3, i4⟩ := info_cell
  refine wpList_append_lies w hgd s x 85 ho base 56 ti _ 7 40 Tryd.underlying85 i1 i2 i3 i4 rfl (by decide) v k (flat L) hs hown ⟨b, 0, none⟩ 1 1 c.vals hx rfl (World.news_of_block hb) (one_vals c) (by decide) (by unfold maxLen; omega) (by omega) hbase w.heap.size rfl ?_
  intro g cap w' h1 h2 h3 h4
  rw [← flat_one c, ← flat_append] at h1
  exact h g cap w' h1 h2 h3 h4
set_option maxHeartbeats 2000000 in
theorem refMade (W H : Nat) (w : World) (w1 : 1 ≤ W) (w2 : W ≤ 40) (h1 : 1 ≤ H) (h2 : H ≤ 20) :
    Calls Tryd.prog 33 #[.int .i64 W, .int .i64 H] w fun e w' => ∃ bc g cap, e = .returned (.pointer (some ⟨bc, 0, none⟩)) ∧ w.heap.size ≤ bc ∧ w.heap.size ≤ g ∧ Cels w' bc g cap W H (H * W) (fun _ _ => blk Pn.plain) ∧ Below w.heap.size w w' := by
  obtain ⟨ti, i1, i2, i3, i4⟩ := info_cell
  obtain ⟨N, hN⟩ : ∃ N, H * W = N := ⟨_, rfl⟩
  have hNle : N ≤ 800 := by rw [← hN]; exact Nat.mul_le_mul h2 w2
  have hv1 : IntKind.i64.wrap ((W : Int) * (H : Int)) = (N : Int) := by rw [← Int.natCast_mul, Nat.mul_comm, hN]; exact wrap_id _ (by omega) (by omega)
  have hv2 : (W : Int) * (H : Int) = (N : Int) := by rw [← Int.natCast_mul, Nat.mul_comm, hN]
  have HN : Hid (H * W = N) := hN
  clear hN
  go_enter Tryd.func33, Tryd.ntmps33
  go_wp2_with fail
  go_loopw [6] (fun i w' => ∃ (k : Nat) (v : Value), k ≤ N ∧ i = .int .i64 k ∧ w'.heap[w.heap.size]? = some (.cells #[.int .i64 W, .int .i64 H, v] 87) ∧ w'.ownsRow (w.heap.size + 1) 56 7 v k (flat (List.replicate k (blk Pn.plain))) ∧ Below w.heap.size w w') (fun i _ => N - (intOf i).toNat)
  case atStart => exact ⟨0, _, by omega, rfl, heap_new _ _, World.ownsRow_nil _ _ _ _, (Below.refl _ _).alloc (Nat.le_refl _) _⟩
  case round =>
    obtain ⟨k, v, hk, rfl, hb, hrow, hB⟩ := hrel
    by_cases hlt : k < N
    · have c2 : wr.cell? ⟨w.heap.size, 2, none⟩ = some v := by rw [cell_of_block hb]; rfl
      have fr : ∀ o, wr.frozen? ⟨w.heap.size, o, none⟩ = false := frozen_of_block hb
      have hlt' : (k : Int) < (N : Int) := by omega
      have hbl : w.heap.size < wr.heap.size := World.block_lt_of_cell? _ _ c2
      have Hrow : Hid (wr.ownsRow (w.heap.size + 1) 56 7 v k (flat (List.replicate k (blk Pn.plain)))) := hrow
      have Hb : Hid (wr.heap[w.heap.size]? = some (.cells #[.int .i64 W, .int .i64 H, v] 87)) := hb
      clear hrow hb
      go_wp2_with fail
      go_region_law (first | (go_simp; go_at_call 51; refine (refBlank Pn.plain _).mono ?_; rintro e w5 ⟨rfl, hb5⟩; have hb6 := below_drew' hb5; have e1 := hb6.cells hbl; have e2 := hb6.marks hbl; have Hr6 : Hid (w5.ownsRow (w.heap.size + 1) 56 7 v k (flat (List.replicate k (blk Pn.plain)))) := row_same Hrow.out (fun g hg => hb6.block _ (Hrow.out.lt g hg).2); have s6 := hb6.size; have l6 : w.heap.size < w5.heap.size := Nat.lt_of_lt_of_le hbl s6; clear hb5) | (refine step_append_cel _ (by rfl) (.tmp 22) (.tmp 25) (by rfl) (w.heap.size + 1) v (List.replicate k (blk Pn.plain)) (blk Pn.plain) k (by simp) (by simp [Act.eval]) (row_same Hr6.out (fun g hg => Below.heap_alloc _ _ _ (Hr6.out.lt g hg).2)) w5.heap.size (by simp [Act.eval]) (heap_new w5 _) (by omega) (by simp; omega) ?_; intro g7 cap7 w7 hr7 hg7 ho7 hl7; have hbk : w7.heap[w.heap.size]? = some (.cells #[.int .i64 W, .int .i64 H, v] 87) := (hg7.block _ (by simp; omega) (fun e => by have := (Hr6.out.lt _ e.symm).1; omega)).trans ((Below.heap_alloc _ _ _ (by omega)).trans ((hb6.block _ hbl).trans Hb.out)); have c7 : w7.cell? ⟨w.heap.size, 2, none⟩ = some v := (cell_of_block hbk 2); have f7 : w7.frozen? ⟨w.heap.size, 2, none⟩ = false := frozen_of_block hbk 2))
      all_goals
        have hB7 : Below w.heap.size w (w7.setCell ⟨w.heap.size, 2, none⟩ (.slice (some ⟨g7, 0, none⟩) (k + 1) cap7)) :=
          (((hB.trans (hb6.mono (Nat.le_of_lt hbl))).alloc (Nat.le_of_lt l6) _).grown hg7 (by simp; omega) (fun i hi => by have := (Hr6.out.lt i hi).1; omega)).setCell (Nat.le_refl _) _
        have hr8 : (w7.setCell ⟨w.heap.size, 2, none⟩ (.slice (some ⟨g7, 0, none⟩) (k + 1) cap7)).ownsRow (w.heap.size + 1) 56 7 (.slice (some ⟨g7, 0, none⟩) (k + 1) cap7) (k + 1) (flat (List.replicate (k + 1) (blk Pn.plain))) := by
          rw [List.replicate_succ']
          refine row_same hr7 (fun i hi => Below.heap_setCell _ _ _ _ ?_)
          have := (hr7.lt i hi).1
          show i ≠ w.heap.size
          omega
        have hb8 := heap_set_same hbk 2 (.slice (some ⟨g7, 0, none⟩) (k + 1) cap7)
        generalize hW8 : w7.setCell ⟨w.heap.size, 2, none⟩ (.slice (some ⟨g7, 0, none⟩) (k + 1) cap7) = w8 at *
        clear hr7 hg7 ho7 hl7 c7 f7 hbk hW8 Hr6 e1 e2 hb6
        go_wp2_with fail
        go_roundw
        case rel => exact ⟨k + 1, _, by omega, by go_num, hb8, hr8, hB7⟩
        case measure => simp [intOf]; omega
    · obtain rfl : k = N := by omega
      obtain ⟨g, cap, rfl⟩ := row_slice hrow (by rw [← HN.out]; exact Nat.mul_pos h1 w1)
      have hg := row_ge hrow
      have hC : Cels wr w.heap.size g cap W H k (fun _ _ => blk Pn.plain) :=
        ⟨hb, ⟨fun x y hx hy => row_cel hrow _ _ (List.getElem?_replicate_of_lt (by rw [← HN.out]; exact place_lt hx hy)), row_free hrow⟩, HN.out.symm, by omega, w1, w2, h1, h2⟩
      have HC : Hid (Cels wr w.heap.size g cap W H k (fun _ _ => blk Pn.plain)) := hC
      clear hC hb hrow
      go_wp2_with fail
      go_ret
      exact ⟨w.heap.size, g, cap, rfl, Nat.le_refl _, by omega, by rw [HN.out]; exact HC.out, hB⟩
end Go.Proofs.YtknhohbepkapdaaDoor
