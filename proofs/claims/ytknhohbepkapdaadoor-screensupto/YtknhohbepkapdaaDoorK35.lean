/- Texts of the proof, one behind the other: ShG, SfD. -/
import Derived.Test.YtknhohbepkapdaaDoorK15
import Derived.Test.YtknhohbepkapdaaDoorK34
import Derived.Test.YtknhohbepkapdaaDoorCards
import Derived.Test.YtknhohbepkapdaaDoorTie
import Derived.WalkKit
import Derived.ProofKit
import Derived.OpenShut
import Derived.ShutString
import Derived.SliceStrings
import Derived.ChangeOld
import Derived.Below
import Derived.Deep.DeepHandedRow
import Derived.Lib.LaidTab
import Derived.Lib.LaidU8T
/- The statement with the document's answer: Screens. -/
namespace Go.Proofs.YtknhohbepkapdaaDoor
open Go.RowKit
attribute [local go_sem ↓] Go.wp_at_zero Go.wp_at_succ
/-- A step of the script. -/
structure Fd where
  on : Int
  sz : Int
  W : Int
  H : Int
  lk : Int
  tx : ByteArray
def noFd : Fd := ⟨0, 0, 0, 0, 0, ByteArray.empty⟩
/-- What the walk is told of the script. -/
def FdsIn (w : World) (a : Option Addr) (n : Nat) (fs : List Fd) : Prop :=
  ∀ k, k < n → ∃ b off, a = some ⟨b, off, none⟩ ∧ b < w.heap.size ∧ w.cell? ⟨b, off + k * 6, none⟩ = some (.int .i64 (fs.getD k noFd).on) ∧ w.cell? ⟨b, off + k * 6 + 1, none⟩ = some (.int .i64 (fs.getD k noFd).sz) ∧ w.cell? ⟨b, off + k * 6 + 2, none⟩ = some (.int .i64 (fs.getD k noFd).W) ∧ w.cell? ⟨b, off + k * 6 + 3, none⟩ = some (.int .i64 (fs.getD k noFd).H) ∧ w.cell? ⟨b, off + k * 6 + 4, none⟩ = some (.int .i64 (fs.getD k noFd).lk) ∧ w.cell? ⟨b, off + k * 6 + 5, none⟩ = some (.string (fs.getD k noFd).tx)
    ∧ -9223372036854775808 ≤ (fs.getD k noFd).on ∧ (fs.getD k noFd).on ≤ 9223372036854775807
def sumTo (fs : List Fd) (k : Nat) : Nat := ((fs.take k).map fun f => f.tx.size).sum
def AlAt (w : World) (b : Nat) (xa ya xb yb : Option Addr) : Prop := w.heap[b]? = some (.cells #[.pointer xa, .pointer ya, .pointer xb, .pointer yb, .pointer none, .pointer none] 26)
theorem AlAt.keep {F : Nat → Prop} {w w' : World} {b : Nat} {xa ya xb yb : Option Addr} (h : AlAt w b xa ya xb yb) (k : Keep F w w') (hF : ¬ F b) : AlAt w' b xa ya xb yb := by
  unfold AlAt at *; rw [k.block _ (Array.getElem?_eq_some_iff.1 h).1 hF]; exact h
theorem AlAt.below {w w' : World} {b : Nat} {xa ya xb yb : Option Addr} (h : AlAt w b xa ya xb yb) (hb : Below w.heap.size w w') : AlAt w' b xa ya xb yb := h.keep (Keep.below (fun _ => False) hb) id
theorem AlAt.lt {w : World} {b : Nat} {xa ya xb yb : Option Addr} (h : AlAt w b xa ya xb yb) : b < w.heap.size := (Array.getElem?_eq_some_iff.1 h).1
/-- Two pairs and what holds them, in the midst of the script. -/
structure ScAt (w0 : World) (Ba Bb Bl : Nat) (xa ya xb yb : Option Addr) (A Bq : Option (Bk × Rs)) (m : Nat) (w : World) : Prop where
  pA : PairIs w A xa ya
  pB : PairIs w Bq xb yb
  sA : sepB A
  sB : sepB Bq
  dj : ∀ i, allB A i → ¬ allB Bq i
  uA : ∀ i, allB A i → w0.heap.size ≤ i ∧ i ≠ Ba ∧ i ≠ Bb ∧ i ≠ Bl
  uB : ∀ i, allB Bq i → w0.heap.size ≤ i ∧ i ≠ Ba ∧ i ≠ Bb ∧ i ≠ Bl
  zA : bszB A ≤ m
  zB : bszB Bq ≤ m
  bel : Below w0.heap.size w0 w
  qa : PpAt w Ba xa ya
  qb : PpAt w Bb xb yb
  ql : AlAt w Bl xa ya xb yb
section
variable {w0 w w' : World} {Ba Bb Bl m m' : Nat} {xa ya xb yb : Option Addr} {A Bq A' : Option (Bk × Rs)}
theorem ScAt.below (h : ScAt w0 Ba Bb Bl xa ya xb yb A Bq m w) (b : Below w.heap.size w w') : ScAt w0 Ba Bb Bl xa ya xb yb A Bq m w' :=
  ⟨h.pA.below b, h.pB.below b, h.sA, h.sB, h.dj, h.uA, h.uB, h.zA, h.zB, h.bel.trans (b.mono h.bel.size), h.qa.below b, h.qb.below b, h.ql.below b⟩
theorem ScAt.more (h : ScAt w0 Ba Bb Bl xa ya xb yb A Bq m w) (hm : m ≤ m') : ScAt w0 Ba Bb Bl xa ya xb yb A Bq m' w :=
  ⟨h.pA, h.pB, h.sA, h.sB, h.dj, h.uA, h.uB, Nat.le_trans h.zA hm, Nat.le_trans h.zB hm, h.bel, h.qa, h.qb, h.ql⟩
theorem ScAt.feedA (h : ScAt w0 Ba Bb Bl xa ya xb yb A Bq m w) (P : PairIs w' A' xa ya) (S : sepB A') (K : Keep (allB A) w w') (u : ∀ i, allB A' i → allB A i ∨ w.heap.size ≤ i) (hz : bszB A' ≤ m') (hm : m ≤ m') : ScAt w0 Ba Bb Bl xa ya xb yb A' Bq m' w' := by
  have la := h.qa.lt
  have lb := h.qb.lt
  have ll := h.ql.lt
  have sz := h.bel.size
  refine ⟨P, h.pB.keep K (fun i hi q => h.dj i q hi), S, h.sB, fun i hi q => ?_, fun i hi => ?_, h.uB, hz, Nat.le_trans h.zB hm, h.bel.trans (K.toBelow sz (fun i hi q => ?_)), h.qa.keep K (fun q => (h.uA _ q).2.1 rfl), h.qb.keep K (fun q => (h.uA _ q).2.2.1 rfl), h.ql.keep K (fun q => (h.uA _ q).2.2.2 rfl)⟩
  · rcases u i hi with e | e
    · exact h.dj i e q
    · have := h.pB.lt q; omega
  · rcases u i hi with e | e
    · exact h.uA i e
    · exact ⟨by omega, by omega, by omega, by omega⟩
  · have := (h.uA i q).1; omega
theorem ScAt.swap (h : ScAt w0 Ba Bb Bl xa ya xb yb A Bq m w) (P : PairIs w' A' xb yb) (S : sepB A') (K : Keep (allB Bq) w w') (u : ∀ i, allB A' i → allB Bq i ∨ w.heap.size ≤ i) (hz : bszB A' ≤ m') (hm : m ≤ m') : ScAt w0 Ba Bb Bl xa ya xb yb A A' m' w' := by
  have la := h.qa.lt
  have lb := h.qb.lt
  have ll := h.ql.lt
  have sz := h.bel.size
  refine ⟨h.pA.keep K (fun i hi q => h.dj i hi q), P, h.sA, S, fun i hi q => ?_, h.uA, fun i hi => ?_, Nat.le_trans h.zA hm, hz, h.bel.trans (K.toBelow sz (fun i hi q => ?_)), h.qa.keep K (fun q => (h.uB _ q).2.1 rfl), h.qb.keep K (fun q => (h.uB _ q).2.2.1 rfl), h.ql.keep K (fun q => (h.uB _ q).2.2.2 rfl)⟩
  · rcases u i q with e | e
    · exact h.dj i hi e
    · have := h.pA.lt hi; omega
  · rcases u i hi with e | e
    · exact h.uB i e
    · exact ⟨by omega, by omega, by omega, by omega⟩
  · have := (h.uB i q).1; omega
end
theorem sum_step (fs : List Fd) (k : Nat) : sumTo fs (k + 1) = sumTo fs k + (fs.getD k noFd).tx.size := by
  unfold sumTo
  by_cases h : k < fs.length
  · rw [List.take_succ_eq_append_getElem h, List.map_append, List.sum_append]
    congr 1
    simp [List.getD_eq_getElem?_getD, h]
  · rw [List.take_of_length_le (by omega), List.take_of_length_le (by omega)]
    simp [List.getD_eq_getElem?_getD, List.getElem?_eq_none (show fs.length ≤ k by omega), noFd]
theorem sum_mono (fs : List Fd) {k n : Nat} (h : k ≤ n) : sumTo fs k ≤ sumTo fs n := by
  induction n with
  | zero => have : k = 0 := by omega
            subst this; exact Nat.le_refl _
  | succ n ih =>
    rcases Nat.eq_or_lt_of_le h with e | e
    · subst e; exact Nat.le_refl _
    · rw [sum_step]; have := ih (by omega); omega
set_option maxRecDepth 10000 in
set_option maxHeartbeats 4000000 in
theorem lScreens (x y v u : Int) (a : Option Addr) (n cap : Nat) (fs : List Fd) (w : World) (T : Tabs w) (hw : 2 ≤ w.heap.size) (hF : FdsIn w a n fs) (hn : n ≤ 9223372036854775807) (hsum : sumTo fs n ≤ 10000000000) :
    Calls Tryd.prog 3 #[.int .i64 x, .int .i64 y, .int .i64 v, .int .i64 u, .slice a n cap] w fun e w' => e = .returned (.bool true) ∧ Below w.heap.size w w' := by
  have HT : Hid (Tabs w) := T
  have HF : Hid (FdsIn w a n fs) := hF
  have Hsum : Hid (sumTo fs n ≤ 10000000000) := hsum
  clear T hF hsum
  go_enter Tryd.func3, Tryd.ntmps3
  go_wp2_with fail
  go_at_call 6
  refine (lScreen x y _ hw).mono ?_
  rintro e w1 ⟨A, xa, ya, rfl, PA, SA, b1, uA, zA⟩
  have HPA : Hid (PairIs w1 A xa ya) := PA
  have HSA : Hid (sepB A) := SA
  have HuA : Hid (∀ i, allB A i → w.heap.size ≤ i) := uA
  have HzA : Hid (bszB A = 0) := zA
  have HB : Hid (Below w.heap.size w w1) := b1
  clear PA SA uA zA b1
  have HltA : Hid (∀ i, allB A i → i < w1.heap.size) := fun i hi => HPA.out.lt hi
  have hs1 : w.heap.size ≤ w1.heap.size := HB.out.size
  go_wp2_with fail
  generalize hw2 : w1.alloc _ = w2
  have b2 : Below w1.heap.size w1 w2 := by rw [← hw2]; exact (Below.refl _ _).alloc (Nat.le_refl _) _
  have HPa : Hid (PpAt w2 w1.heap.size xa ya) := by show _ = _; rw [← hw2]; exact heap_new w1 _
  replace HPA : Hid (PairIs w2 A xa ya) := HPA.out.below b2
  replace HB : Hid (Below w.heap.size w w2) := HB.out.trans (b2.mono hs1)
  have hs2 : w1.heap.size < w2.heap.size := HPa.out.lt
  generalize w1.heap.size = Ba at *
  clear b2 hw2
  go_at_call 6
  refine (lScreen v u _ (by omega)).mono ?_
  rintro e w3 ⟨Bq, xb, yb, rfl, PB, SB, b3, uB, zB⟩
  have HPB : Hid (PairIs w3 Bq xb yb) := PB
  have HSB : Hid (sepB Bq) := SB
  have HuB : Hid (∀ i, allB Bq i → w2.heap.size ≤ i) := uB
  have HltB : Hid (∀ i, allB Bq i → i < w3.heap.size) := fun i hi => PB.lt hi
  have HzB : Hid (bszB Bq = 0) := zB
  replace HPA : Hid (PairIs w3 A xa ya) := HPA.out.below b3
  replace HPa : Hid (PpAt w3 Ba xa ya) := HPa.out.below b3
  replace HB : Hid (Below w.heap.size w w3) := HB.out.trans (b3.mono (by omega))
  have hs3 : w2.heap.size ≤ w3.heap.size := b3.size
  generalize w2.heap.size = n2 at *
  clear PB SB uB zB b3
  have q0 := HPa.out.c0
  have q1 := HPa.out.c1
  have lqa := HPa.out.lt
  go_wp2_with fail
  generalize hw4 : World.alloc (w3.alloc _) _ = w4
  have b4 : Below w3.heap.size w3 w4 := by rw [← hw4]; exact ((Below.refl _ _).alloc (Nat.le_refl _) _).alloc (by simp) _
  have HSc : Hid (ScAt w Ba w3.heap.size (w3.heap.size + 1) xa ya xb yb A Bq 0 w4) := by
    refine ⟨HPA.out.below b4, HPB.out.below b4, HSA.out, HSB.out, fun i hi q => ?_, fun i hi => ?_, fun i hi => ?_, Nat.le_of_eq HzA.out, Nat.le_of_eq HzB.out, HB.out.trans (b4.mono (by omega)), HPa.out.below b4, ?_, ?_⟩
    · have := HltA.out i hi; have := HuB.out i q; omega
    · have := HltA.out i hi; have := HuA.out i hi; omega
    · have := HltB.out i hi; have := HuB.out i hi; omega
    · show _ = _
      rw [← hw4, Below.heap_alloc _ _ _ (by simp)]; exact heap_new w3 _
    · show _ = _
      rw [← hw4]
      have := heap_new (w3.alloc (.cells #[.pointer xb, .pointer yb] 26)) (.cells #[.pointer xa, .pointer ya, .pointer xb, .pointer yb, .pointer none, .pointer none] 26)
      rwa [size_alloc] at this
  generalize w3.heap.size + 1 = Bl at *
  generalize w3.heap.size = Bb at *
  clear hw4 b4 q0 q1 lqa HPA HPB HSA HSB HzA HzB HB HPa HuA HuB HltA HltB
  go_loopw [16] (fun i w' => ∃ (k : Nat) (A Bq : Option (Bk × Rs)), k ≤ n ∧ i = .int .i64 k ∧ ScAt w Ba Bb Bl xa ya xb yb A Bq (sumTo fs k) w') (fun i _ => n - (intOf i).toNat)
  case atStart => exact ⟨0, A, Bq, by omega, rfl, HSc.out.more (Nat.zero_le _)⟩
  case round =>
    obtain ⟨k, A, Bq, hk, rfl, hS⟩ := hrel
    clear HSc
    have HSc : Hid (ScAt w Ba Bb Bl xa ya xb yb A Bq (sumTo fs k) wr) := hS
    by_cases hlt : k < n
    · have hlt' : (k : Int) < n := by omega
      obtain ⟨sb, so, rfl, sbl, s0, s1, s2, s3, s4, s5, o0, o1⟩ := HF.out k hlt
      have hss := sum_step fs k
      have hmono := sum_mono fs (show k + 1 ≤ n by omega)
      have Hb : Hid (sumTo fs k + (fs.getD k noFd).tx.size ≤ 10000000000) := by have := Hsum.out; show _ ≤ _; omega
      have Hss : Hid (sumTo fs (k + 1) = sumTo fs k + (fs.getD k noFd).tx.size) := hss
      replace s0 := (hS.bel.cells sbl _).trans s0
      replace s1 := (hS.bel.cells sbl _).trans s1
      replace s2 := (hS.bel.cells sbl _).trans s2
      replace s3 := (hS.bel.cells sbl _).trans s3
      replace s4 := (hS.bel.cells sbl _).trans s4
      replace s5 := (hS.bel.cells sbl _).trans s5
      generalize fs.getD k noFd = f at *
      have lp := pickK_lt f.on (n := 3) (by omega)
      clear hS hss hmono
      obtain ⟨p, hp⟩ : ∃ p, pickK f.on 3 = p := ⟨_, rfl⟩
      rw [hp] at lp
      have hcase : p = 0 ∨ p = 1 ∨ p = 2 := by omega
      go_wp2_with fail
      rcases hcase with rfl | rfl | rfl
      · have r0 : wr.cell? ⟨Bl, 0, none⟩ = some (.pointer xa) := cell_of_block HSc.out.ql 0
        have r1 : wr.cell? ⟨Bl, 1, none⟩ = some (.pointer ya) := cell_of_block HSc.out.ql 1
        have HD : Hid (ScAt w Ba Bb Bl xa ya xb yb A Bq (sumTo fs k) wr.drew) := HSc.out.below (below_drewN wr 1)
        go_region_held3 (fun w' => w'.cell? ⟨sb, so + k * 6, none⟩ = some (.int .i64 f.on) ∧ w'.cell? ⟨sb, so + k * 6 + 1, none⟩ = some (.int .i64 f.sz) ∧ w'.cell? ⟨sb, so + k * 6 + 2, none⟩ = some (.int .i64 f.W) ∧ w'.cell? ⟨sb, so + k * 6 + 3, none⟩ = some (.int .i64 f.H) ∧ w'.cell? ⟨sb, so + k * 6 + 4, none⟩ = some (.int .i64 f.lk) ∧ w'.cell? ⟨sb, so + k * 6 + 5, none⟩ = some (.string f.tx) ∧ w'.cell? ⟨Bl, 0, none⟩ = some (.pointer xa) ∧ w'.cell? ⟨Bl, 1, none⟩ = some (.pointer ya)) (simp [*]) (first | (go_at_call 7; refine (lPick f.on 3 _ (by omega) (by omega) o0 o1).mono ?_; rintro e w' ⟨rfl, hw'⟩; replace hw' := hw'.symm; subst hw'; rw [hp]) | (go_at_call 8; refine (lFeedAny HD.out.pA HD.out.sA (HT.out.below HD.out.bel) f.on f.sz f.W f.H f.lk f.tx (by have := Hb.out; have := HD.out.zA; omega)).mono ?_; rintro e w6 ⟨A6, rfl, P6, S6, K6, u6, z6⟩; have HS6 : Hid (ScAt w Ba Bb Bl xa ya xb yb A6 Bq (sumTo fs (k + 1)) w6) := HD.out.feedA P6 S6 K6 u6 (by rw [Hss.out]; have := HD.out.zA; omega) (by rw [Hss.out]; omega); have e1 := fun o => (HS6.out.bel.cells sbl o).trans (HSc.out.bel.cells sbl o).symm; have e2 : w6.cell? ⟨Bl, 0, none⟩ = some (.pointer xa) := cell_of_block HS6.out.ql 0; have e3 : w6.cell? ⟨Bl, 1, none⟩ = some (.pointer ya) := cell_of_block HS6.out.ql 1))
        go_wp2_with fail
        exact ⟨⟨k + 1, A6, Bq, by omega, by simp, HS6.out⟩, by simp only [intOf]; omega⟩
      · have r0 : wr.cell? ⟨Bl, 2, none⟩ = some (.pointer xb) := cell_of_block HSc.out.ql 2
        have r1 : wr.cell? ⟨Bl, 3, none⟩ = some (.pointer yb) := cell_of_block HSc.out.ql 3
        have HD : Hid (ScAt w Ba Bb Bl xa ya xb yb A Bq (sumTo fs k) wr.drew) := HSc.out.below (below_drewN wr 1)
        go_region_held3 (fun w' => w'.cell? ⟨sb, so + k * 6, none⟩ = some (.int .i64 f.on) ∧ w'.cell? ⟨sb, so + k * 6 + 1, none⟩ = some (.int .i64 f.sz) ∧ w'.cell? ⟨sb, so + k * 6 + 2, none⟩ = some (.int .i64 f.W) ∧ w'.cell? ⟨sb, so + k * 6 + 3, none⟩ = some (.int .i64 f.H) ∧ w'.cell? ⟨sb, so + k * 6 + 4, none⟩ = some (.int .i64 f.lk) ∧ w'.cell? ⟨sb, so + k * 6 + 5, none⟩ = some (.string f.tx) ∧ w'.cell? ⟨Bl, 2, none⟩ = some (.pointer xb) ∧ w'.cell? ⟨Bl, 3, none⟩ = some (.pointer yb)) (simp [*]) (first | (go_at_call 7; refine (lPick f.on 3 _ (by omega) (by omega) o0 o1).mono ?_; rintro e w' ⟨rfl, hw'⟩; replace hw' := hw'.symm; subst hw'; rw [hp]) | (go_at_call 8; refine (lFeedAny HD.out.pB HD.out.sB (HT.out.below HD.out.bel) f.on f.sz f.W f.H f.lk f.tx (by have := Hb.out; have := HD.out.zB; omega)).mono ?_; rintro e w6 ⟨A6, rfl, P6, S6, K6, u6, z6⟩; have HS6 : Hid (ScAt w Ba Bb Bl xa ya xb yb A A6 (sumTo fs (k + 1)) w6) := HD.out.swap P6 S6 K6 u6 (by rw [Hss.out]; have := HD.out.zB; omega) (by rw [Hss.out]; omega); have e1 := fun o => (HS6.out.bel.cells sbl o).trans (HSc.out.bel.cells sbl o).symm; have e2 : w6.cell? ⟨Bl, 2, none⟩ = some (.pointer xb) := cell_of_block HS6.out.ql 2; have e3 : w6.cell? ⟨Bl, 3, none⟩ = some (.pointer yb) := cell_of_block HS6.out.ql 3))
        go_wp2_with fail
        exact ⟨⟨k + 1, A, A6, by omega, by simp, HS6.out⟩, by simp only [intOf]; omega⟩
      · have r0 : wr.cell? ⟨Bl, 4, none⟩ = some (.pointer none) := cell_of_block HSc.out.ql 4
        have r1 : wr.cell? ⟨Bl, 5, none⟩ = some (.pointer none) := cell_of_block HSc.out.ql 5
        have HD : Hid (ScAt w Ba Bb Bl xa ya xb yb A Bq (sumTo fs k) wr.drew) := HSc.out.below (below_drewN wr 1)
        go_region_held3 (fun w' => w'.cell? ⟨sb, so + k * 6, none⟩ = some (.int .i64 f.on) ∧ w'.cell? ⟨sb, so + k * 6 + 1, none⟩ = some (.int .i64 f.sz) ∧ w'.cell? ⟨sb, so + k * 6 + 2, none⟩ = some (.int .i64 f.W) ∧ w'.cell? ⟨sb, so + k * 6 + 3, none⟩ = some (.int .i64 f.H) ∧ w'.cell? ⟨sb, so + k * 6 + 4, none⟩ = some (.int .i64 f.lk) ∧ w'.cell? ⟨sb, so + k * 6 + 5, none⟩ = some (.string f.tx) ∧ w'.cell? ⟨Bl, 4, none⟩ = some (.pointer none) ∧ w'.cell? ⟨Bl, 5, none⟩ = some (.pointer none)) (simp [*]) (first | (go_at_call 7; refine (lPick f.on 3 _ (by omega) (by omega) o0 o1).mono ?_; rintro e w' ⟨rfl, hw'⟩; replace hw' := hw'.symm; subst hw'; rw [hp]) | (go_at_call 8; refine (lFeedAny (show PairIs _ none none none from ⟨rfl, rfl⟩) trivial (HT.out.below HD.out.bel) f.on f.sz f.W f.H f.lk f.tx (by have := Hb.out; show 0 + _ ≤ _; omega)).mono ?_; rintro e w6 ⟨A6, rfl, P6, S6, K6, u6, z6⟩; have HS6 : Hid (ScAt w Ba Bb Bl xa ya xb yb A Bq (sumTo fs (k + 1)) w6) := (HD.out.below (K6.toBelow (Nat.le_refl _) (fun _ _ q => q))).more (by rw [Hss.out]; omega); have e1 := fun o => (HS6.out.bel.cells sbl o).trans (HSc.out.bel.cells sbl o).symm; have e2 : w6.cell? ⟨Bl, 4, none⟩ = some (.pointer none) := cell_of_block HS6.out.ql 4; have e3 : w6.cell? ⟨Bl, 5, none⟩ = some (.pointer none) := cell_of_block HS6.out.ql 5))
        go_wp2_with fail
        exact ⟨⟨k + 1, A, Bq, by omega, by simp, HS6.out⟩, by simp only [intOf]; omega⟩
    · have hlt' : ¬ (k : Int) < n := by omega
      have q0 := hS.qa.c0
      have q1 := hS.qa.c1
      clear hS
      go_wp2_with fail
      go_at_call 9
      refine (lLook HSc.out.pA).mono ?_
      rintro e w5 ⟨rfl, b5⟩
      replace HSc : Hid (ScAt w Ba Bb Bl xa ya xb yb A Bq (sumTo fs k) w5) := HSc.out.below b5
      clear b5 q0 q1
      have q0 := HSc.out.qb.c0
      have q1 := HSc.out.qb.c1
      go_wp2_with fail
      go_at_call 9
      refine (lLook HSc.out.pB).mono ?_
      rintro e w6 ⟨rfl, b6⟩
      replace HSc : Hid (ScAt w Ba Bb Bl xa ya xb yb A Bq (sumTo fs k) w6) := HSc.out.below b6
      clear b6 q0 q1
      have q0 : w6.cell? ⟨Bl, 4, none⟩ = some (.pointer none) := cell_of_block HSc.out.ql 4
      have q1 : w6.cell? ⟨Bl, 5, none⟩ = some (.pointer none) := cell_of_block HSc.out.ql 5
      go_wp2_with fail
      go_at_call 9
      refine (lLook (B := none) (x := none) (y := none) ⟨rfl, rfl⟩).mono ?_
      rintro e w7 ⟨rfl, b7⟩
      have HB : Hid (Below w.heap.size w w7) := (HSc.out.below b7).bel
      have HT7 : Hid (Tabs w7) := HT.out.below HB.out
      have h7 : 2 ≤ w7.heap.size := Nat.le_trans hw HB.out.size
      have hs7 : w.heap.size ≤ w7.heap.size := HB.out.size
      clear b7 q0 q1 HSc
      go_wp2_with fail
      go_at_call 6
      refine (lScreen 4 2 _ h7).mono ?_
      rintro e w8 ⟨E, xe, ye, rfl, PE, SE, b8, uE, zE⟩
      have HPE : Hid (PairIs w8 E xe ye) := PE
      have HSE : Hid (sepB E) := SE
      have HuE : Hid (∀ i, allB E i → w7.heap.size ≤ i) := uE
      have HzE : Hid (bszB E = 0) := zE
      replace HB : Hid (Below w.heap.size w w8) := HB.out.trans (b8.mono HB.out.size)
      have HT8 : Hid (Tabs w8) := HT.out.below HB.out
      clear PE SE uE zE b8
      go_wp2_with fail
      generalize hw9 : w8.alloc _ = w9
      have b9 : Below w8.heap.size w8 w9 := by rw [← hw9]; exact (Below.refl _ _).alloc (Nat.le_refl _) _
      replace HPE : Hid (PairIs w9 E xe ye) := HPE.out.below b9
      replace HB : Hid (Below w.heap.size w w9) := HB.out.trans (b9.mono HB.out.size)
      replace HT8 : Hid (Tabs w9) := HT8.out.below b9
      clear b9 hw9
      go_at_call 8
      refine (lFeedAny HPE.out HSE.out HT8.out 0 0 0 0 1 ⟨#[97, 98, 99, 100, 88, 13, 228, 184, 173, 27, 91, 50, 68, 120, 27, 91, 49, 59, 51, 49, 59, 52, 52, 109, 33]⟩ (by rw [HzE.out]; decide)).mono ?_
      rintro e wz ⟨E', rfl, PZ, SZ, KZ, uZ, zZ⟩
      replace HB : Hid (Below w.heap.size w wz) := HB.out.trans (KZ.toBelow HB.out.size (fun i hi q => by have := HuE.out i q; omega))
      clear PZ SZ KZ uZ zZ
      go_wp2_with fail
      go_ret
      exact ⟨rfl, HB.out⟩
end Go.Proofs.YtknhohbepkapdaaDoor

/- The proof of Safe: the row and the card. -/
namespace Go.Proofs.YtknhohbepkapdaaDoor.safe
open Go.ChangeShapes Go.WideShapes Go.ChangeAt Go.RowKit
open Go.ChangeMaps (open_string shut_string)
theorem own : ownKnob Tryd.prog.godebug = none := by kernel_rfl
theorem laidOut : laidOutB Tryd.prog = true := by kernel_rfl
/-- The shelf's numbers for the two tables and their types, at this program. -/
def ren : Go.Shelf.Ren := ⟨fun x => x, fun x => if x = 5 then 5 else if x = 119 then 127 else if x = 138 then 129 else 130, fun x => if x = 3 then 0 else 1⟩
theorem types : U8Types Tryd.prog ren := ⟨by kernel_rfl, by kernel_rfl, by kernel_rfl, by kernel_rfl⟩
theorem extra : U8Extra Tryd.prog ren := ⟨by kernel_rfl, by kernel_rfl, by kernel_rfl, by kernel_rfl, by kernel_rfl, by kernel_rfl, by kernel_rfl⟩
theorem first_same : Rows.laid_unicode_utf8_first = Lib.firstData := by kernel_rfl
theorem accept_same : (Rows.laid_unicode_utf8_acceptRanges : DataW Unit) = Lib.acceptData := by kernel_rfl
theorem tabs {W : World} (h : laidMetH Tryd.prog Rows.safeRow.laid W) : Tabs W := by
  have h' : laidMet Tryd.prog Rows.safeRow.laid W := h
  refine utf8Tabs_of_readsT types extra ?_ ?_
  · rw [← first_same]; exact Lib.laidMet.reads h' (by simp [Rows.safeRow])
  · rw [← accept_same]; exact Lib.laidMet.reads h' (by simp [Rows.safeRow])
theorem tabs_size {W : World} (h : Tabs W) : 2 ≤ W.heap.size := World.block_lt_of_cell? _ _ (h.2 0 (by omega)).1
section
variable {H : Type} {enc : TypeId × Value → H} {base : Nat} {sp : Nat → Bool} {held : Bool} {W : World} {a : Option Addr} {n cap : Nat} {d : DataW H} {p : List MemPlace}
theorem strs_at {x : Addr} {ss : List ByteArray} (h : ∀ i, i < ss.length → W.cell? (x.add i) = some (.string (ss.getD i ByteArray.empty))) (hp : 0 < ss.length) :
    ∃ b off, x = ⟨b, off, none⟩ ∧ ∀ j, j < ss.length → W.cell? ⟨b, off + j, none⟩ = some (.string (ss.getD j ByteArray.empty)) := by
  obtain ⟨b, off, spot⟩ := x
  have hspot : spot = none := by simpa [Addr.add] using World.cell?_spot (h 0 hp)
  subst hspot
  exact ⟨b, off, rfl, fun j hj => by rw [← Go.WideShapes.add_plain]; exact h j hj⟩
theorem strs_in (h : DataW.Trod enc Tryd.prog W base (fun _ => true) held 36 (.slice a n cap) d p) : ∃ ts, StrsIn W a n ts ∧ n ≤ 9223372036854775807 := by
  obtain ⟨fuel, hf⟩ := h
  rcases open_strings Tryd.underlying36 Tryd.underlying9 (by kernel_rfl) hf with ⟨hcs, _⟩ | ⟨x, l, c, ss, hcs, _, hl, hm, hz, _, hcell, hwz⟩
  · simp [Value.cells] at hcs
    obtain ⟨rfl, rfl, rfl⟩ := hcs
    exact ⟨[], fun k hk => by omega, by omega⟩
  · simp [Value.cells] at hcs
    obtain ⟨rfl, rfl, rfl⟩ := hcs
    have hz' : ss.length = cap := by simpa using hz
    unfold maxLen at hm
    refine ⟨ss, fun k hk => ?_, by omega⟩
    obtain ⟨b, off, rfl, hc⟩ := strs_at hcell (by omega)
    refine ⟨b, off, rfl, World.block_lt_of_cell? _ _ (hc 0 (by omega)), hc k (by omega), ?_⟩
    have hmem : ss.getD k ByteArray.empty ∈ ss := by
      rw [List.getD_eq_getElem?_getD, List.getElem?_eq_getElem (by omega)]
      exact List.getElem_mem _
    have := hwz _ hmem
    unfold maxLen at this
    omega
theorem ints_in (h : DataW.Trod enc Tryd.prog W base (fun _ => true) held 37 (.slice a n cap) d p) : ∃ zs, IntsIn W a n zs ∧ n ≤ 9223372036854775807 := by
  obtain ⟨fuel, hf⟩ := h
  rcases open_ints Tryd.underlying37 Tryd.underlying3 (by kernel_rfl) hf with ⟨hcs, _⟩ | ⟨x, l, c, zs, hcs, _, hl, hm, hz, _, hcell, hwz⟩
  · simp [Value.cells] at hcs
    obtain ⟨rfl, rfl, rfl⟩ := hcs
    exact ⟨[], fun k hk => by omega, by omega⟩
  · simp [Value.cells] at hcs
    obtain ⟨rfl, rfl, rfl⟩ := hcs
    have hz' : zs.length = cap := by simpa using hz
    unfold maxLen at hm
    refine ⟨zs, fun k hk => ?_, by omega⟩
    obtain ⟨b, off, rfl, hc⟩ := ints_at hcell (by omega)
    refine ⟨b, off, rfl, World.block_lt_of_cell? _ _ (hc 0 (by omega)), hc k (by omega), ?_⟩
    have hmem : zs.getD k 0 ∈ zs := by
      rw [List.getD_eq_getElem?_getD, List.getElem?_eq_getElem (by omega)]
      exact List.getElem_mem _
    exact bounds_i64 (hwz _ hmem)
end
set_option maxRecDepth 100000 in
/-- WHAT THE WALK GIVES. -/
theorem contract (H : Type) (enc : TypeId × Value → H) (W : World) (base : Nat) (args : Array Value) (ds gs : List (DataW H)) (before : List MemPlace)
    (hval : ∀ (j : Nat) t v, Tryd.f4.params[j]? = some t → args[j]? = some v → Value.okWide Tryd.prog W .any base t v)
    (hW : DataW.Whole enc Tryd.prog Tryd.f4.params.toList Rows.safeSpec.vars false W args.toList ds gs before) (hL : laidMetH Tryd.prog Rows.safeRow.laid W) :
    Calls Tryd.prog 4 args W fun e W' => ∃ v, e = .returned v ∧ Rows.safeSpec.post enc Tryd.prog Tryd.f4 false true false false W args v W' := by
  have hW' := hW
  obtain ⟨p, q, hA0, hV, rfl, hfz, hnd⟩ := hW
  have hA : DataW.TrodAll enc Tryd.prog W 0 (fun _ => true) true Tryd.f4.params.toList args.toList ds p := hA0
  rw [Tryd.params4] at hA hval
  obtain ⟨v0, vs0, d0, ds0, p0, q0, hargs, rfl, rfl, h0, r0⟩ := trodAll_cons hA
  obtain ⟨v1, vs1, d1, ds1, p1, q1, hargs1, rfl, rfl, h1, r1⟩ := trodAll_cons r0
  obtain ⟨v2, vs2, d2, ds2, p2, q2, hargs2, rfl, rfl, h2, r2⟩ := trodAll_cons r1
  obtain ⟨v3, vs3, d3, ds3, p3, q3, hargs3, rfl, rfl, h3, r3⟩ := trodAll_cons r2
  obtain ⟨rfl, rfl, rfl⟩ := trodAll_nil r3
  subst hargs3 hargs2 hargs1
  obtain rfl : args = #[v0, v1, v2, v3] := by cases args; simp_all
  obtain ⟨rfl, rfl⟩ := trodVars_none hV
  have T := tabs hL
  have k0 := h0
  have k1 := h1
  have k2 := h2
  have k3 := h3
  have lt0 : ∀ x ∈ p0, x.block < W.heap.size := by obtain ⟨m, hm⟩ := k0; exact DataW.trod_lt m _ _ _ hm
  have lt1 : ∀ x ∈ p1, x.block < W.heap.size := by obtain ⟨m, hm⟩ := k1; exact DataW.trod_lt m _ _ _ hm
  have lt2 : ∀ x ∈ p2, x.block < W.heap.size := by obtain ⟨m, hm⟩ := k2; exact DataW.trod_lt m _ _ _ hm
  have lt3 : ∀ x ∈ p3, x.block < W.heap.size := by obtain ⟨m, hm⟩ := k3; exact DataW.trod_lt m _ _ _ hm
  obtain ⟨x, rfl, _, _, hx⟩ := open_int Tryd.underlying3 (hval 0 3 v0 rfl rfl) h0
  obtain ⟨y, rfl, _, _, hy⟩ := open_int Tryd.underlying3 (hval 1 3 v1 rfl rfl) h1
  obtain ⟨ta, tn, tc, rfl⟩ := okWide_slice Tryd.underlying36 (hval 2 36 v2 rfl rfl)
  obtain ⟨za, zn, zc, rfl⟩ := okWide_slice Tryd.underlying37 (hval 3 37 v3 rfl rfl)
  obtain ⟨ts, hT, ht⟩ := strs_in h2
  obtain ⟨zs, hZ, _⟩ := ints_in h3
  have bx := bounds_i64 hx
  have by' := bounds_i64 hy
  refine (kSafe x y ta tn tc ts za zn zc zs W T (tabs_size T) bx.1 bx.2 by'.1 by'.2 hT hZ ht).mono fun e W' ⟨he, bel⟩ => ?_
  subst he
  exact ⟨_, rfl, _, _, _, [], _, [], hW', trodAll_mk1 (shut_bool Tryd.underlying4 _),
    (trodAll_cons_mk (Below.trod laidOut (by kernel_rfl) (of_decide_eq_true (by kernel_rfl)) k0 bel lt0) (trodAll_cons_mk (Below.trod laidOut (by kernel_rfl) (of_decide_eq_true (by kernel_rfl)) k1 bel lt1) (trodAll_cons_mk (Below.trod laidOut (by kernel_rfl) (of_decide_eq_true (by kernel_rfl)) k2 bel lt2) (trodAll_cons_mk (Below.trod laidOut (by kernel_rfl) (of_decide_eq_true (by kernel_rfl)) k3 bel lt3) trodAll_mk0)))), rfl, bel.frame _, fun h => by cases h⟩
/-- A world for the witness: the settled one, the tables holding what is laid. -/
def lay0 : Obj → Obj
  | .cells _ t frozen => .cells (Lib.firstTab.map fun z => Value.int .u8 z).toArray t frozen
  | o => o
def lay1 : Obj → Obj
  | .cells _ t frozen => .cells ((List.range 16).flatMap fun i => [Value.int .u8 (Lib.accLo i : Nat), Value.int .u8 (Lib.accHi i : Nat)]).toArray t frozen
  | o => o
noncomputable def laidWorld (os : Os) : World :=
  { World.holding Tryd.prog os ⟨#[], #[], []⟩ with heap := ((World.holding Tryd.prog os ⟨#[], #[], []⟩).heap.modify 0 lay0).modify 1 lay1 }
theorem laid_met (os : Os) : laidMet Tryd.prog Rows.safeRow.laid ((laidWorld os).forCall (fun _ _ => 0) ⟨#[], #[.int .i64 0, .int .i64 0, .slice none 0 0, .slice none 0 0], []⟩).memory :=
  laidMet_of_run' 8 (by kernel_rfl) (by kernel_rfl)
theorem reads (os : Os) {H : Type} (enc : TypeId × Value → H) : ∃ places, DataW.whole enc Tryd.prog ((laidWorld os).forCall (fun _ _ => 0) ⟨#[], #[.int .i64 0, .int .i64 0, .slice none 0 0, .slice none 0 0], []⟩).memory Tryd.f4.params.toList Rows.safeSpec.vars false #[Value.int .i64 0, .int .i64 0, .slice none 0 0, .slice none 0 0].toList 8 = some ([.lit (.int .i64 0), .lit (.int .i64 0), .nil, .nil], [], places) :=
  ⟨[], by kernel_rfl⟩
set_option maxRecDepth 100000 in
theorem lifted (os : Os) (started : os.Started) (H : Type) (enc : TypeId × Value → H) (F : Stop.Interp) :
    ReturnsInHanded {} Tryd.checked os 4 .any ((OpenSpec.ofChange Rows.safeSpec).preRow enc Tryd.prog Tryd.f4 Rows.safeRow.domain false Rows.safeRow.laid) (((OpenSpec.ofChange Rows.safeSpec).at F).post enc Tryd.prog Tryd.f4 false true false false) := by
  obtain ⟨places, hx⟩ := reads os enc
  refine returnsInHanded_of_row (C := Tryd.checked) (s := OpenSpec.ofChange Rows.safeSpec) own started (by kernel_rfl) Tryd.func4
    (witness_row_at (enc := enc) (C := Tryd.checked) false (laidWorld os) #[.int .i64 0, .int .i64 0, .slice none 0 0, .slice none 0 0] rfl (by kernel_rfl) (by kernel_rfl) (by kernel_rfl)
      (OpenSpec.preRow_of_cond 8 hx (by kernel_rfl) (fun k hk => by cases hk) (by kernel_rfl) (laid_met os))) ?_
  intro W base args ds gs before hval hW _ _ _ hL _ _
  exact contract H enc W base args ds gs before hval hW hL
theorem said : Rows.SafeSaid :=
  OpenClaim.holds_of_cond 4 Tryd.f4 rfl rfl rfl rfl rfl rfl rfl ⟨rfl, rfl, rfl, rfl, rfl⟩ rfl rfl rfl rfl rfl (by kernel_rfl) Tryd.func4 (by kernel_rfl)
    (of_decide_eq_true (by kernel_rfl)) (by unfold Func.isWrapper; first | (rw [if_pos (by decide +kernel)]; kernel_rfl) | (rw [if_neg (by decide +kernel)]; exact ⟨rfl, rfl⟩))
    (fun os started H enc _ F => by rw [OpenClaim.pre_eq_preRow]; exact lifted os started H enc F)
theorem plain (f : FuncId) (fn : Func) (hf : Tryd.pinned.checked.prog.funcNamed "casement/casementkeep.Safe" = some f) (hfn : Tryd.pinned.checked.prog.funcs[f]? = some fn) :
    false = Tryd.pinned.checked.prog.looks [] ∧ ∀ (j : Nat) t, fn.params[j]? = some t → Tryd.pinned.checked.prog.wantsStandIn t = false := by
  obtain rfl : f = 4 := Option.some.inj ((show Tryd.prog.funcNamed "casement/casementkeep.Safe" = some 4 by kernel_rfl).symm.trans hf) |>.symm
  obtain rfl : fn = Tryd.f4 := (Option.some.inj (Tryd.func4.symm.trans hfn)).symm
  refine ⟨by kernel_rfl, fun j t ht => ?_⟩
  rw [Tryd.params4] at ht
  have hm : t = 3 ∨ t = 36 ∨ t = 37 := by simpa using Array.mem_of_getElem? ht
  rcases hm with rfl | rfl | rfl
  · exact (show Tryd.prog.wantsStandIn 3 = false by kernel_rfl)
  · exact (show Tryd.prog.wantsStandIn 36 = false by kernel_rfl)
  · exact (show Tryd.prog.wantsStandIn 37 = false by kernel_rfl)
theorem card : Rows.SafeCardSaid :=
  Claim7.holds_tied_plain_at .later [] _ _ _ _ said (fun _ h => by cases h) (by kernel_rfl) (fun _ h => by cases h) safe_row_tie rfl ⟨rfl, rfl⟩ (by kernel_rfl) rfl plain (by kernel_rfl)
end Go.Proofs.YtknhohbepkapdaaDoor.safe
namespace Go.Proofs.YtknhohbepkapdaaDoor
theorem safe_holds : Rows.SafeCardSaid := safe.card
#print axioms safe_holds
end Go.Proofs.YtknhohbepkapdaaDoor
