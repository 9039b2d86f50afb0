/- Texts of the proof, one behind the other: ShF. -/
import Derived.Test.YtknhohbepkapdaaDoorK52
/- The statement with the document's answer: pick, screen, a pair is fed in any way. -/
namespace Go.Proofs.YtknhohbepkapdaaDoor
open Go.RowKit
attribute [local go_sem ↓] Go.wp_at_zero Go.wp_at_succ
set_option maxHeartbeats 1000000 in
theorem lPick (c : Int) (n : Nat) (w : World) (hn : 0 < n) (hn2 : (n : Int) ≤ 9223372036854775807) (c0 : -9223372036854775808 ≤ c) (c1 : c ≤ 9223372036854775807) :
    Calls Tryd.prog 7 #[.int .i64 c, .int .i64 n] w fun e w' => e = .returned (.int .i64 (pickK c n)) ∧ w' = w := by
  have n0 : ¬ (n : Int) = 0 := by omega
  have n0' : ((n : Int) == 0) = false := by simp; omega
  have lt := pickK_lt c hn
  by_cases hc : c < 0
  · have e := pickK_neg hn hc
    go_enter Tryd.func7, Tryd.ntmps7
    go_wp2
    go_ret
    exact ⟨rfl, rfl⟩
  · have e := pickK_pos hn hc
    go_enter Tryd.func7, Tryd.ntmps7
    go_wp2
    go_ret
    exact ⟨rfl, rfl⟩
/-- The blocks of a pair. -/
def allB (B : Option (Bk × Rs)) (i : Nat) : Prop := match B with
  | none => False
  | some (k, _) => i = k.pc ∨ i = k.bs ∨ i = k.bg ∨ i = k.g ∨ i = k.rs ∨ i = k.rc ∨ i = k.rg
def sepB (B : Option (Bk × Rs)) : Prop := match B with
  | none => True
  | some (k, _) => (∀ i, (i = k.pc ∨ i = k.bs ∨ i = k.bg ∨ i = k.g) → ¬ (i = k.rs ∨ i = k.rc ∨ i = k.rg)) ∧ 2 ≤ k.rs ∧ 2 ≤ k.rc ∧ 2 ≤ k.rg
def bszB (B : Option (Bk × Rs)) : Nat := match B with
  | none => 0
  | some (_, s) => s.B.size
theorem PairIs.keep {F : Nat → Prop} {w w' : World} {B : Option (Bk × Rs)} {x y : Option Addr} (h : PairIs w B x y) (k : Keep F w w') (d : ∀ i, allB B i → ¬ F i) : PairIs w' B x y := by
  cases B with
  | none => exact h
  | some q =>
    obtain ⟨h1, h2, h3, h4, h5⟩ := h
    exact ⟨h1, h2, h3.keep k (d _ (by simp [allB])) (d _ (by simp [allB])) (d _ (by simp [allB])) (d _ (by simp [allB])), h4.keep k (d _ (by simp [allB])) (d _ (by simp [allB])) (d _ (by simp [allB])), h5⟩
theorem PairIs.lt {w : World} {B : Option (Bk × Rs)} {x y : Option Addr} (h : PairIs w B x y) {i : Nat} (hi : allB B i) : i < w.heap.size := by
  cases B with
  | none => cases hi
  | some q =>
    obtain ⟨h1, h2, h3, h4, h5⟩ := h
    obtain ⟨t, P, _⟩ := h3.pr
    rcases hi with e | e | e | e | e | e | e <;> subst e
    · exact h3.lt
    · exact P.lt
    · exact P.gr.lt
    · exact P.gr.glt
    · exact h4.lt
    · exact h4.cels.lt
    · exact h4.cels.glt
theorem lFeedAny {w : World} {B : Option (Bk × Rs)} {x y : Option Addr} (h : PairIs w B x y) (hs : sepB B) (T : Tabs w) (on sz W H lk : Int) (tx : ByteArray) (hb : bszB B + tx.size ≤ 100000000000) :
    Calls Tryd.prog 8 #[.agg #[.pointer x, .pointer y], feedAgg on sz W H lk tx] w fun e w' => ∃ B', e = .returned (.bool true) ∧ PairIs w' B' x y ∧ sepB B' ∧ Keep (allB B) w w' ∧ (∀ i, allB B' i → allB B i ∨ w.heap.size ≤ i) ∧ bszB B' ≤ bszB B + tx.size := by
  cases B with
  | none =>
    obtain ⟨rfl, rfl⟩ := h
    have fin : (Calls Tryd.prog 8 #[.agg #[.pointer none, .pointer none], feedAgg on sz W H lk tx] w fun e w' => e = .returned (.bool true) ∧ Below w.heap.size w w') := by
      cases hz : (sz.tmod 2 == 0) <;> cases hl : (lk.tmod 2 == 0)
      · exact lFeedNilB1 on sz W H lk tx w hz hl
      · exact lFeedNilB0 on sz W H lk tx w hz hl
      · exact lFeedNilA1 on sz W H lk tx w hz hl
      · exact lFeedNilA0 on sz W H lk tx w hz hl
    refine fin.mono ?_
    rintro e w' ⟨rfl, b⟩
    exact ⟨none, rfl, ⟨rfl, rfl⟩, trivial, Keep.below _ b, fun i hi => False.elim hi, Nat.zero_le _⟩
  | some q =>
    obtain ⟨⟨pc, bs, bg, g, N, rs, rc, rg, cap, M⟩, s⟩ := q
    obtain ⟨rfl, rfl, C, R, hB⟩ := h
    obtain ⟨hsep, hr⟩ := hs
    dsimp only at C R hB hsep hr
    have fin : (Calls Tryd.prog 8 #[.agg #[.pointer (some ⟨pc, 0, none⟩), .pointer (some ⟨rs, 0, none⟩)], feedAgg on sz W H lk tx] w (FPost pc bs bg g rs rc rg s tx w)) := by
      cases hz : (sz.tmod 2 == 0) with
      | true => cases hl : (lk.tmod 2 == 0) with
        | true => exact lFeed00 pc bs bg g N rs rc rg cap M s on sz W H lk tx w C R hB T hsep hr hz hl hb
        | false => exact lFeed01 pc bs bg g N rs rc rg cap M s on sz W H lk tx w C R hB T hsep hr hz hl hb
      | false => cases hw : sizeB W H with
        | false => cases hl : (lk.tmod 2 == 0) with
          | true => exact lFeedn0 pc bs bg g N rs rc rg cap M s on sz W H lk tx w C R hB T hsep hr hz hw hl hb
          | false => exact lFeedn1 pc bs bg g N rs rc rg cap M s on sz W H lk tx w C R hB T hsep hr hz hw hl hb
        | true =>
          obtain ⟨a1, a2, a3, a4⟩ := sizeB_iff.1 hw
          obtain ⟨W, rfl⟩ := Int.eq_ofNat_of_zero_le (show 0 ≤ W by omega)
          obtain ⟨H, rfl⟩ := Int.eq_ofNat_of_zero_le (show 0 ≤ H by omega)
          cases hl : (lk.tmod 2 == 0) with
          | true => exact lFeedy0 pc bs bg g N rs rc rg cap M s on sz W H lk tx w C R hB T hsep hr hz (by omega) (by omega) (by omega) (by omega) hl hb
          | false => exact lFeedy1 pc bs bg g N rs rc rg cap M s on sz W H lk tx w C R hB T hsep hr hz (by omega) (by omega) (by omega) (by omega) hl hb
    have hlt : ∀ i, (i = pc ∨ i = bs ∨ i = bg ∨ i = g ∨ i = rs ∨ i = rc ∨ i = rg) → i < w.heap.size := fun i hi =>
      PairIs.lt (B := some (⟨pc, bs, bg, g, N, rs, rc, rg, cap, M⟩, s)) (x := some ⟨pc, 0, none⟩) (y := some ⟨rs, 0, none⟩) ⟨rfl, rfl, C, R, hB⟩ hi
    refine fin.mono ?_
    rintro e w' ⟨g', N', rg', cap', M', s', rfl, C', R', hB', K', hg, hrg, hne, hsz⟩
    have l1 := hlt pc (by omega)
    have l2 := hlt bs (by omega)
    have l3 := hlt bg (by omega)
    have l4 := hlt g (by omega)
    have l5 := hlt rs (by omega)
    have l6 := hlt rc (by omega)
    have l7 := hlt rg (by omega)
    refine ⟨some (⟨pc, bs, bg, g', N', rs, rc, rg', cap', M'⟩, s'), rfl, ⟨rfl, rfl, C', R', hB'⟩, ⟨?_, hr.1, hr.2.1, ?_⟩, K'.mono (fun i hi => ?_), ?_, hsz⟩
    · intro i hi
      show ¬ (i = rs ∨ i = rc ∨ i = rg')
      rcases hi with e | e | e | e
      · subst e; exact sepG (hsep _ (Or.inl rfl)) hrg l1
      · subst e; exact sepG (hsep _ (Or.inr (Or.inl rfl))) hrg l2
      · subst e; exact sepG (hsep _ (Or.inr (Or.inr (Or.inl rfl)))) hrg l3
      · subst e; exact sepS (hsep _ (Or.inr (Or.inr (Or.inr rfl)))) hg l5 l6 hne
    · show 2 ≤ rg'
      have := hr.2.2
      omega
    · show i = pc ∨ i = bs ∨ i = bg ∨ i = g ∨ i = rs ∨ i = rc ∨ i = rg
      omega
    · intro i hi
      show (i = pc ∨ i = bs ∨ i = bg ∨ i = g ∨ i = rs ∨ i = rc ∨ i = rg) ∨ w.heap.size ≤ i
      have hi' : i = pc ∨ i = bs ∨ i = bg ∨ i = g' ∨ i = rs ∨ i = rc ∨ i = rg' := hi
      omega
set_option maxHeartbeats 2000000 in
theorem lScreenNo (x y : Int) (w : World) (hs : sizeB x y = false) :
    Calls Tryd.prog 6 #[.int .i64 x, .int .i64 y] w fun e w' => e = .returned (.tuple #[.agg #[.pointer none, .pointer none], .bool true]) ∧ Below w.heap.size w w' := by
  go_enter Tryd.func6, Tryd.ntmps6
  go_wp2_with (first | (go_at_call 18; refine (cNewNo _ _ _ hs).mono ?_; rintro e w' ⟨rfl, hw'⟩; replace hw' := hw'.symm; subst hw') | (go_at_call 19; refine (refNewNo _ _ _ hs).mono ?_; rintro e w' ⟨rfl, hw'⟩; replace hw' := hw'.symm; subst hw'))
  exact bodyPost_ret (v := .tuple #[.agg #[.pointer none, .pointer none], .bool true]) (by simp [results, Tryd.results6, go_sem]) rfl ⟨rfl, (Below.refl _ _).alloc (Nat.le_refl _) _⟩
set_option maxHeartbeats 2000000 in
theorem lScreenYes (W H : Nat) (w : World) (w1 : 1 ≤ W) (w2 : W ≤ 40) (h1 : 1 ≤ H) (h2 : H ≤ 20) (hw : 2 ≤ w.heap.size) :
    Calls Tryd.prog 6 #[.int .i64 W, .int .i64 H] w fun e w' => ∃ k px py, e = .returned (.tuple #[.agg #[.pointer px, .pointer py], .bool true]) ∧ PairIs w' (some (k, newR W H)) px py ∧ sepB (some (k, newR W H)) ∧ Below w.heap.size w w' ∧ (∀ i, allB (some (k, newR W H)) i → w.heap.size ≤ i) := by
  go_enter Tryd.func6, Tryd.ntmps6
  go_wp2_with fail
  go_at_call 18
  refine (cNewYes W H _ w1 w2 h1 h2 (by rw [size_alloc]; omega)).mono ?_
  rintro e wa ⟨pc, bs, bg, g, rfl, C1, b1, p0, p1, p2, p3⟩
  rw [size_alloc] at b1 p0 p1 p2 p3
  have c0 : wa.cell? ⟨w.heap.size, 0, none⟩ = some (.pointer none) := by rw [b1.cells (by omega), cell_of_block (heap_new w _)]; rfl
  have c1 : wa.cell? ⟨w.heap.size, 1, none⟩ = some (.pointer none) := by rw [b1.cells (by omega), cell_of_block (heap_new w _)]; rfl
  have fz : ∀ o, wa.frozen? ⟨w.heap.size, o, none⟩ = false := fun o => by rw [b1.marks (by omega), frozen_of_block (heap_new w _)]
  have HB : Hid (Below w.heap.size w wa) := ((Below.refl _ _).alloc (Nat.le_refl _) _).trans (b1.mono (by omega))
  have hsz : w.heap.size + 1 ≤ wa.heap.size := by have := b1.size; rwa [size_alloc] at this
  have HC : Hid (CsAt wa pc bs bg g (H * W) (newR W H)) := C1
  have Hlt : Hid (pc < wa.heap.size ∧ bs < wa.heap.size ∧ bg < wa.heap.size ∧ g < wa.heap.size) := by obtain ⟨t, P, _⟩ := C1.pr; exact ⟨C1.lt, P.lt, P.gr.lt, P.gr.glt⟩
  clear C1 b1
  go_wp2_with fail
  go_at_call 19
  refine (refNewYes W H _ w1 w2 h1 h2).mono ?_
  rintro e wb ⟨rs, rc, rg, cap, rfl, r1, r2, r3, R1, b2⟩
  replace HC : Hid (CsAt wb pc bs bg g (H * W) (newR W H)) := HC.out.below b2
  have HR : Hid (RefAt wb rs rc rg cap (H * W) (newR W H)) := R1
  replace HB : Hid (Below w.heap.size w wb) := HB.out.trans (b2.mono (by omega))
  replace c0 : wb.cell? ⟨w.heap.size, 0, none⟩ = some (.pointer none) := by rw [b2.cells (by omega)]; exact c0
  replace c1 : wb.cell? ⟨w.heap.size, 1, none⟩ = some (.pointer none) := by rw [b2.cells (by omega)]; exact c1
  replace fz : ∀ o, wb.frozen? ⟨w.heap.size, o, none⟩ = false := fun o => by rw [b2.marks (by omega)]; exact fz o
  have hsb := b2.size
  have hlw : w.heap.size < wb.heap.size := by omega
  clear b2 R1
  go_wp2_with fail
  have K : Keep (fun i => i = w.heap.size) wb ((wb.setCell ⟨w.heap.size, 0, none⟩ (.pointer (some ⟨pc, 0, none⟩))).setCell ⟨w.heap.size, 1, none⟩ (.pointer (some ⟨rs, 0, none⟩))) := ((Keep.refl (fun i => i = w.heap.size) wb).setCell ⟨w.heap.size, 0, none⟩ _ (fun _ => rfl)).setCell ⟨w.heap.size, 1, none⟩ _ (fun _ => rfl)
  have hl := Hlt.out
  refine bodyPost_ret (v := .tuple #[.agg #[.pointer (some ⟨pc, 0, none⟩), .pointer (some ⟨rs, 0, none⟩)], .bool true]) (by simp [results, Tryd.results6, go_sem, c0, c1]) rfl ⟨⟨pc, bs, bg, g, H * W, rs, rc, rg, cap, H * W⟩, _, _, rfl, ⟨rfl, rfl, HC.out.keep K (by omega) (by omega) (by omega) (by omega), HR.out.keep K (by omega) (by omega) (by omega), bok_nil⟩, ⟨fun i hi => ?_, ?_⟩, HB.out.trans (K.toBelow (by omega) (fun i hi => by omega)), fun i hi => ?_⟩
  · show ¬ (i = rs ∨ i = rc ∨ i = rg)
    have hi' : i = pc ∨ i = bs ∨ i = bg ∨ i = g := hi
    omega
  · show 2 ≤ rs ∧ 2 ≤ rc ∧ 2 ≤ rg
    omega
  · have hi' : i = pc ∨ i = bs ∨ i = bg ∨ i = g ∨ i = rs ∨ i = rc ∨ i = rg := hi
    omega
/-- A pair of any size. -/
theorem lScreen (x y : Int) (w : World) (hw : 2 ≤ w.heap.size) :
    Calls Tryd.prog 6 #[.int .i64 x, .int .i64 y] w fun e w' => ∃ B px py, e = .returned (.tuple #[.agg #[.pointer px, .pointer py], .bool true]) ∧ PairIs w' B px py ∧ sepB B ∧ Below w.heap.size w w' ∧ (∀ i, allB B i → w.heap.size ≤ i) ∧ bszB B = 0 := by
  cases hs : sizeB x y with
  | false =>
    refine (lScreenNo x y w hs).mono ?_
    rintro e w' ⟨rfl, b⟩
    exact ⟨none, none, none, rfl, ⟨rfl, rfl⟩, trivial, b, fun i hi => False.elim hi, rfl⟩
  | true =>
    obtain ⟨a1, a2, a3, a4⟩ := sizeB_iff.1 hs
    obtain ⟨W, rfl⟩ := Int.eq_ofNat_of_zero_le (show 0 ≤ x by omega)
    obtain ⟨H, rfl⟩ := Int.eq_ofNat_of_zero_le (show 0 ≤ y by omega)
    refine (lScreenYes W H w (by omega) (by omega) (by omega) (by omega) hw).mono ?_
    rintro e w' ⟨k, px, py, rfl, P, S, b, u⟩
    exact ⟨some (k, newR W H), px, py, rfl, P, S, b, u, rfl⟩
end Go.Proofs.YtknhohbepkapdaaDoor
