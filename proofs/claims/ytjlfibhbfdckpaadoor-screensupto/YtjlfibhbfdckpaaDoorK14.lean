/- Texts of the proof, one behind the other: PuO, PuS, SfA, SfB. -/
import Derived.Test.YtjlfibhbfdckpaaDoorK13
/- The program's screen: State. -/
namespace Go.Proofs.YtjlfibhbfdckpaaDoor
open Go.RowKit
attribute [local go_sem ↓] Go.wp_at_zero Go.wp_at_succ
set_option maxHeartbeats 2000000 in
theorem sState (bs bg g N : Nat) (s : Rs) (t : Pt) (w : World) (h : PrAt w bs bg g N s t) :
    Calls Tryd.prog 30 #[.pointer (some ⟨bs, 0, none⟩)] w fun e w' => e = .returned (stAgg s.W s.H s.x s.y s.pend s.pen s.top s.bot (decide (t.mode = 0) && decide (t.bn = 0))) ∧ Below w.heap.size w w' := by
  have HP : Hid (PrAt w bs bg g N s t) := h
  have l := h.lt
  have c0 := h.f0
  have c1 := h.f1
  have c2 := h.f2
  have c3 := h.f3
  have c4 := h.f4
  have c5 := h.f5
  have c6 := h.f6
  have c7 := h.f7
  have c8 := h.f8
  have c9 := h.f9
  have c10 := h.f10
  have c11 := h.f11
  clear h
  have nn := World.new_ne w _ c0
  go_enter Tryd.func30, Tryd.ntmps30
  go_wp2_with fail
  have hbl : Below w.heap.size w (w.alloc (.cells #[.int .i64 0, .int .i64 0, .int .i64 0, .int .i64 0, .bool false, .int .i64 0, .int .i64 0, .bool false, .bool false, .bool false, .int .i64 0, .int .i64 0, .bool false] 46)) := (Below.refl _ _).alloc (Nat.le_refl _) _
  have HD : Hid (PrAt (w.alloc (.cells #[.int .i64 0, .int .i64 0, .int .i64 0, .int .i64 0, .bool false, .int .i64 0, .int .i64 0, .bool false, .bool false, .bool false, .int .i64 0, .int .i64 0, .bool false] 46)).drew bs bg g N s t) := (HP.out.below hbl).drew
  clear hbl
  by_cases hm0 : t.mode = 0
  · rw [hm0] at c11
    go_region_held3 (fun w' => w'.cell? ⟨bs, 0, none⟩ = some (.pointer (some ⟨bg, 0, none⟩)) ∧ w'.cell? ⟨bs, 1, none⟩ = some (.int .i64 s.x) ∧ w'.cell? ⟨bs, 2, none⟩ = some (.int .i64 s.y) ∧ w'.cell? ⟨bs, 3, none⟩ = some (.bool s.pend) ∧ w'.cell? ⟨bs, 4, none⟩ = some (.int .i64 s.pen.f) ∧ w'.cell? ⟨bs, 5, none⟩ = some (.int .i64 s.pen.b) ∧ w'.cell? ⟨bs, 6, none⟩ = some (.bool s.pen.bo) ∧ w'.cell? ⟨bs, 7, none⟩ = some (.bool s.pen.un) ∧ w'.cell? ⟨bs, 8, none⟩ = some (.bool s.pen.re) ∧ w'.cell? ⟨bs, 9, none⟩ = some (.int .i64 s.top) ∧ w'.cell? ⟨bs, 10, none⟩ = some (.int .i64 s.bot) ∧ w'.cell? ⟨bs, 11, none⟩ = some (.int .i64 0)) (go_keep) (first | (go_at_call 46; refine (pWidth bg g s.W s.H N s.G _ HD.out.gr).mono ?_; rintro e w' ⟨rfl, hw'⟩; replace hw' := hw'.symm; subst hw') | (go_at_call 47; refine (pHeight bg g s.W s.H N s.G _ HD.out.gr).mono ?_; rintro e w' ⟨rfl, hw'⟩; replace hw' := hw'.symm; subst hw') | (go_at_call 48; refine (lEmpty bs bg g N s t _ HD.out).mono ?_; rintro e w' ⟨rfl, hw'⟩; replace hw' := hw'.symm; subst hw'))
    go_wp2_with fail
    exact bodyPost_ret (v := stAgg s.W s.H s.x s.y s.pend s.pen s.top s.bot (decide (t.mode = 0) && decide (t.bn = 0))) (by simp [results, Tryd.results30, go_sem, hm0]) rfl ⟨rfl, ((Below.refl _ _).alloc (Nat.le_refl _) _).drew⟩
  · have hm1 : (t.mode == 0) = false := by simp [hm0]
    first | (go_region_held (fun w' => w'.cell? ⟨bs, 0, none⟩ = some (.pointer (some ⟨bg, 0, none⟩)) ∧ w'.cell? ⟨bs, 1, none⟩ = some (.int .i64 s.x) ∧ w'.cell? ⟨bs, 2, none⟩ = some (.int .i64 s.y) ∧ w'.cell? ⟨bs, 3, none⟩ = some (.bool s.pend) ∧ w'.cell? ⟨bs, 4, none⟩ = some (.int .i64 s.pen.f) ∧ w'.cell? ⟨bs, 5, none⟩ = some (.int .i64 s.pen.b) ∧ w'.cell? ⟨bs, 6, none⟩ = some (.bool s.pen.bo) ∧ w'.cell? ⟨bs, 7, none⟩ = some (.bool s.pen.un) ∧ w'.cell? ⟨bs, 8, none⟩ = some (.bool s.pen.re) ∧ w'.cell? ⟨bs, 9, none⟩ = some (.int .i64 s.top) ∧ w'.cell? ⟨bs, 10, none⟩ = some (.int .i64 s.bot) ∧ w'.cell? ⟨bs, 11, none⟩ = some (.int .i64 t.mode)) (go_keep) (first | (go_at_call 46; refine (pWidth bg g s.W s.H N s.G _ HD.out.gr).mono ?_; rintro e w' ⟨rfl, hw'⟩; replace hw' := hw'.symm; subst hw') | (go_at_call 47; refine (pHeight bg g s.W s.H N s.G _ HD.out.gr).mono ?_; rintro e w' ⟨rfl, hw'⟩; replace hw' := hw'.symm; subst hw') | (go_at_call 48; refine (lEmpty bs bg g N s t _ HD.out).mono ?_; rintro e w' ⟨rfl, hw'⟩; replace hw' := hw'.symm; subst hw'))) | fail
    go_wp2_with fail
    exact bodyPost_ret (v := stAgg s.W s.H s.x s.y s.pend s.pen s.top s.bot (decide (t.mode = 0) && decide (t.bn = 0))) (by simp [results, Tryd.results30, go_sem, hm0]) rfl ⟨rfl, ((Below.refl _ _).alloc (Nat.le_refl _) _).drew⟩
end Go.Proofs.YtjlfibhbfdckpaaDoor

/- The program's calls: State, Width. -/
namespace Go.Proofs.YtjlfibhbfdckpaaDoor
open Go.RowKit
attribute [local go_sem ↓] Go.wp_at_zero Go.wp_at_succ
theorem tie_ground {s : Rs} {t : Pt} (h : Tie s.B t) : (decide (t.mode = 0) && decide (t.bn = 0)) = groundB s := by
  unfold groundB
  rcases h with ⟨e, hm, h0⟩ | ⟨e, hm, h0⟩ | ⟨l, e, hm, h0, _⟩ | ⟨a, e, hm, h0, _⟩ | ⟨a, b, e, hm, h0, _⟩ | ⟨a, b, d, e, hm, h0, _⟩
  · rw [e, hm, h0, ByteArray.toList_eq]; rfl
  · rw [e, hm, h0, ByteArray.toList_eq]; rfl
  all_goals
    rw [e, hm, h0]
    have : ∀ (x : UInt8) (l : List UInt8), (⟨(x :: l).toArray⟩ : ByteArray).toList.isEmpty = false := by
      intro x l
      rw [ByteArray.toList_eq]
      rfl
    first
      | (rw [this]; rfl)
      | (have q := this a [b, d]; rw [q]; rfl)
      | (have q := this a [b]; rw [q]; rfl)
      | (have q := this a []; rw [q]; rfl)
theorem cStateNil (w : World) :
    Calls Tryd.prog 16 #[.pointer none] w fun e w' => e = .returned (stAgg 0 0 0 0 false Pn.plain 0 0 false) ∧ Below w.heap.size w w' := by
  go_enter Tryd.func16, Tryd.ntmps16
  go_wp2_with (first | (go_at_call 25; refine (cNoneNil _).mono ?_; rintro e w' ⟨rfl, hw'⟩; replace hw' := hw'.symm; subst hw'))
  exact bodyPost_ret (v := stAgg 0 0 0 0 false Pn.plain 0 0 false) (by simp [results, Tryd.results16, go_sem, Pn.plain]) rfl ⟨rfl, (Below.refl _ _).alloc (Nat.le_refl _) _⟩
set_option maxHeartbeats 2000000 in
theorem cState (pc bs bg g N : Nat) (s : Rs) (w : World) (h : CsAt w pc bs bg g N s) :
    Calls Tryd.prog 16 #[.pointer (some ⟨pc, 0, none⟩)] w fun e w' => e = .returned (stAgg s.W s.H s.x s.y s.pend s.pen s.top s.bot (groundB s)) ∧ Below w.heap.size w w' := by
  have hbl : Below w.heap.size w (w.alloc (.cells #[.int .i64 0, .int .i64 0, .int .i64 0, .int .i64 0, .bool false, .int .i64 0, .int .i64 0, .bool false, .bool false, .bool false, .int .i64 0, .int .i64 0, .bool false] 46)) := (Below.refl _ _).alloc (Nat.le_refl _) _
  have HC : Hid (CsAt (w.alloc (.cells #[.int .i64 0, .int .i64 0, .int .i64 0, .int .i64 0, .bool false, .int .i64 0, .int .i64 0, .bool false, .bool false, .bool false, .int .i64 0, .int .i64 0, .bool false] 46)) pc bs bg g N s) := h.below hbl
  have c0 := h.c0
  have l := h.lt
  clear h hbl
  go_enter Tryd.func16, Tryd.ntmps16
  go_wp2_with fail
  go_at_call 25
  refine (cNone pc bs bg g N s _ HC.out).mono ?_
  rintro e w' ⟨rfl, hw'⟩
  replace hw' := hw'.symm
  subst hw'
  go_wp2_with fail
  go_at_call 30
  obtain ⟨t, P, tie⟩ := HC.out.pr
  refine (sState bs bg g N s t _ P).mono ?_
  rintro e w2 ⟨rfl, hb2⟩
  rw [tie_ground tie]
  have hz : w.heap.size < w2.heap.size := by have := hb2.size; simp at this; omega
  have hc := hb2.cells (b := w.heap.size) (by simp)
  have hf := hb2.marks (b := w.heap.size) (by simp)
  have hB : Below w.heap.size w w2 := ((Below.refl _ _).alloc (Nat.le_refl _) _).trans (hb2.mono (by simp))
  clear hb2 P tie
  go_wp2_with fail
  exact bodyPost_ret (v := stAgg s.W s.H s.x s.y s.pend s.pen s.top s.bot (groundB s)) (by simp [results, Tryd.results16, go_sem, hc]) rfl ⟨rfl, Keep.toBelow ((((((((((((((Keep.below (fun i => i = w.heap.size) hB).setCell ⟨w.heap.size, 0, none⟩ _ (fun _ => rfl)).setCell ⟨w.heap.size, 1, none⟩ _ (fun _ => rfl)).setCell ⟨w.heap.size, 2, none⟩ _ (fun _ => rfl)).setCell ⟨w.heap.size, 3, none⟩ _ (fun _ => rfl)).setCell ⟨w.heap.size, 4, none⟩ _ (fun _ => rfl)).setCell ⟨w.heap.size, 5, none⟩ _ (fun _ => rfl)).setCell ⟨w.heap.size, 6, none⟩ _ (fun _ => rfl)).setCell ⟨w.heap.size, 7, none⟩ _ (fun _ => rfl)).setCell ⟨w.heap.size, 8, none⟩ _ (fun _ => rfl)).setCell ⟨w.heap.size, 9, none⟩ _ (fun _ => rfl)).setCell ⟨w.heap.size, 10, none⟩ _ (fun _ => rfl)).setCell ⟨w.heap.size, 11, none⟩ _ (fun _ => rfl)).setCell ⟨w.heap.size, 12, none⟩ _ (fun _ => rfl)) (Nat.le_refl _) (fun i hi => by omega)⟩
theorem cWidth (n : Int) (w : World) :
    Calls Tryd.prog 27 #[.int .i32 n] w fun e w' => e = .returned (.int .i64 (Wd.wd n)) ∧ w' = w := by
  go_enter Tryd.func27, Tryd.ntmps27
  go_wp2_with (first | (go_at_call 42; refine (Wd.lettersWidth _ _).mono ?_; rintro e w' ⟨rfl, hw'⟩; replace hw' := hw'.symm; subst hw'))
  go_ret
  exact ⟨rfl, rfl⟩
end Go.Proofs.YtjlfibhbfdckpaaDoor

/- The statements without the document's answer: pick, screen, works. -/
namespace Go.Proofs.YtjlfibhbfdckpaaDoor
open Go.RowKit
attribute [local go_sem ↓] Go.wp_at_zero Go.wp_at_succ
def pickK (c : Int) (n : Nat) : Nat := ((if c < 0 then -(c + 1) else c) % n).toNat
theorem pickK_lt (c : Int) {n : Nat} (h : 0 < n) : pickK c n < n := by
  unfold pickK
  have := Int.emod_lt_of_pos (if c < 0 then -(c + 1) else c) (show (0 : Int) < n by omega)
  have := Int.emod_nonneg (if c < 0 then -(c + 1) else c) (show (n : Int) ≠ 0 by omega)
  omega
theorem pickK_pos {c : Int} {n : Nat} (h : 0 < n) (hc : ¬ c < 0) : c.tmod n = pickK c n := by
  unfold pickK
  rw [if_neg hc, Int.toNat_of_nonneg (Int.emod_nonneg _ (by omega)), Int.tmod_eq_emod_of_nonneg (by omega)]
theorem pickK_neg {c : Int} {n : Nat} (h : 0 < n) (hc : c < 0) : (-(c + 1)).tmod n = pickK c n := by
  unfold pickK
  rw [if_pos hc, Int.toNat_of_nonneg (Int.emod_nonneg _ (by omega)), Int.tmod_eq_emod_of_nonneg (by omega)]
set_option maxHeartbeats 1000000 in
theorem kPick (c : Int) (n : Nat) (w : World) (hn : 0 < n) (hn2 : (n : Int) ≤ 9223372036854775807) (c0 : -9223372036854775808 ≤ c) (c1 : c ≤ 9223372036854775807) :
    Calls Tryd.prog 14 #[.int .i64 c, .int .i64 n] w fun e w' => e = .returned (.int .i64 (pickK c n)) ∧ w' = w := by
  have n0 : ¬ (n : Int) = 0 := by omega
  have n0' : ((n : Int) == 0) = false := by simp; omega
  have lt := pickK_lt c hn
  by_cases hc : c < 0
  · have e := pickK_neg hn hc
    go_enter Tryd.func14, Tryd.ntmps14
    go_wp2
    go_ret
    exact ⟨rfl, rfl⟩
  · have e := pickK_pos hn hc
    go_enter Tryd.func14, Tryd.ntmps14
    go_wp2
    go_ret
    exact ⟨rfl, rfl⟩
theorem works2 : (feedR (newR 3 1) [97, 228, 184, 173]).G 2 0 = ⟨20013, 2, Pn.plain⟩ := by kernel_rfl
theorem works0 : (feedR (newR 3 1) [97, 228, 184, 173]).G 0 0 = ⟨97, 0, Pn.plain⟩ := by kernel_rfl
theorem worksW : (feedR (newR 3 1) [97, 228, 184, 173]).W = 3 ∧ (feedR (newR 3 1) [97, 228, 184, 173]).H = 1 := by constructor <;> kernel_rfl
set_option maxHeartbeats 1000000 in
theorem kScreen (x y : Int) (w : World) (hw : 2 ≤ w.heap.size) (x0 : -9223372036854775808 ≤ x) (x1 : x ≤ 9223372036854775807) (y0 : -9223372036854775808 ≤ y) (y1 : y ≤ 9223372036854775807) :
    Calls Tryd.prog 11 #[.int .i64 x, .int .i64 y] w fun e w' => ∃ pc bs bg g N, e = .returned (.pointer (some ⟨pc, 0, none⟩)) ∧ CsAt w' pc bs bg g N (newR (1 + pickK x 40) (1 + pickK y 20)) ∧ Below w.heap.size w w' ∧ w.heap.size ≤ pc ∧ w.heap.size ≤ bs ∧ w.heap.size ≤ bg ∧ w.heap.size ≤ g := by
  have l1 := pickK_lt x (n := 40) (by omega)
  have l2 := pickK_lt y (n := 20) (by omega)
  obtain ⟨W, hW⟩ : ∃ W, 1 + pickK x 40 = W := ⟨_, rfl⟩
  obtain ⟨H, hH⟩ : ∃ H, 1 + pickK y 20 = H := ⟨_, rfl⟩
  have eW : (1 : Int) + (pickK x 40 : Nat) = (W : Int) := by omega
  have eH : (1 : Int) + (pickK y 20 : Nat) = (H : Int) := by omega
  rw [hW, hH]
  have W1 : 1 ≤ W := by omega
  have W2 : W ≤ 40 := by omega
  have H1 : 1 ≤ H := by omega
  have H2 : H ≤ 20 := by omega
  clear hW hH
  go_enter Tryd.func11, Tryd.ntmps11
  go_wp2_with fail
  go_at_call 14
  refine (kPick x 40 _ (by omega) (by omega) x0 x1).mono ?_
  rintro e w' ⟨rfl, hw'⟩
  replace hw' := hw'.symm
  subst hw'
  go_wp2_with fail
  go_at_call 14
  refine (kPick y 20 _ (by omega) (by omega) y0 y1).mono ?_
  rintro e w' ⟨rfl, hw'⟩
  replace hw' := hw'.symm
  subst hw'
  go_wp2_with fail
  go_at_call 18
  refine (cNewYes W H _ W1 W2 H1 H2 hw).mono ?_
  rintro e wa ⟨pc, bs, bg, g, rfl, C1, b1, q0, q1, q2, q3⟩
  have HC1 : Hid (CsAt wa pc bs bg g (H * W) (newR W H)) := C1
  have HB1 : Hid (Below w.heap.size w wa) := b1
  clear C1 b1
  go_wp2_with fail
  go_ret
  exact ⟨pc, bs, bg, g, H * W, rfl, HC1.out, HB1.out, q0, q1, q2, q3⟩
set_option maxHeartbeats 2000000 in
theorem kWorks (w : World) (T : Tabs w) (hw : 2 ≤ w.heap.size) :
    Calls Tryd.prog 10 #[] w fun e w' => e = .returned (.bool true) ∧ Below w.heap.size w w' := by
  have HT : Hid (Tabs w) := T
  clear T
  go_enter Tryd.func10, Tryd.ntmps10
  go_wp2_with fail
  go_at_call 18
  refine (cNewYes 3 1 _ (by omega) (by omega) (by omega) (by omega) hw).mono ?_
  rintro e wa ⟨pc, bs, bg, g, rfl, C1, b1, q0, q1, q2, q3⟩
  have HC1 : Hid (CsAt wa pc bs bg g (1 * 3) (newR 3 1)) := C1
  have HB1 : Hid (Below w.heap.size w wa) := b1
  clear C1 b1
  go_wp2_with fail
  go_at_call 12
  refine (cFeed pc bs bg g _ (newR 3 1) _ _ HC1.out (HT.out.below HB1.out) (by decide)).mono ?_
  rintro e wb ⟨g2, N2, rfl, C2, K2, hg2⟩
  have HC2 : Hid (CsAt wb pc bs bg g2 N2 (feedR (newR 3 1) [97, 228, 184, 173])) := C2
  have HB2 : Hid (Below w.heap.size w wb) := HB1.out.trans (K2.toBelow HB1.out.size (fun i hi => by omega))
  clear C2 K2
  go_wp2_with fail
  have HW : Hid ((feedR (newR 3 1) [97, 228, 184, 173]).W = 3 ∧ (feedR (newR 3 1) [97, 228, 184, 173]).H = 1) := worksW
  have G0 : Hid ((feedR (newR 3 1) [97, 228, 184, 173]).G 0 0 = ⟨97, 0, Pn.plain⟩) := works0
  have G2 : Hid ((feedR (newR 3 1) [97, 228, 184, 173]).G 2 0 = ⟨20013, 2, Pn.plain⟩) := works2
  generalize feedR (newR 3 1) [97, 228, 184, 173] = s5 at *
  go_at_call 23
  refine (cCellYes pc bs bg g2 N2 s5 0 0 _ HC2.out (inG_iff.2 (by rw [HW.out.1, HW.out.2]; omega))).mono ?_
  rintro e wc ⟨rfl, bc⟩
  rw [show s5.G (Int.toNat 0) (Int.toNat 0) = ⟨97, 0, Pn.plain⟩ from G0.out]
  replace HC2 : Hid (CsAt wc pc bs bg g2 N2 s5) := HC2.out.below bc
  replace HB2 : Hid (Below w.heap.size w wc) := HB2.out.trans (bc.mono HB2.out.size)
  clear bc
  go_wp2_with fail
  generalize hW5 : wc.alloc _ = w5
  have b5 : Below wc.heap.size wc w5 := by rw [← hW5]; exact (Below.refl _ _).alloc (Nat.le_refl _) _
  have A5 : CelAt w5 wc.heap.size 0 ⟨97, 0, Pn.plain⟩ := by rw [← hW5]; exact cel_new' wc ⟨97, 0, Pn.plain⟩ 0 rfl _
  have HA5 : Hid (CelAt w5 wc.heap.size 0 ⟨97, 0, Pn.plain⟩) := A5
  replace HC2 : Hid (CsAt w5 pc bs bg g2 N2 s5) := HC2.out.below b5
  replace HB2 : Hid (Below w.heap.size w w5) := HB2.out.trans (b5.mono HB2.out.size)
  have l5 : wc.heap.size < w5.heap.size := A5.lt
  generalize wc.heap.size = Ba at *
  clear b5 hW5 A5
  go_at_call 23
  refine (cCellYes pc bs bg g2 N2 s5 2 0 _ HC2.out (inG_iff.2 (by rw [HW.out.1, HW.out.2]; omega))).mono ?_
  rintro e w6 ⟨rfl, b6⟩
  rw [show s5.G (Int.toNat 2) (Int.toNat 0) = ⟨20013, 2, Pn.plain⟩ from G2.out]
  replace HA5 : Hid (CelAt w6 Ba 0 ⟨97, 0, Pn.plain⟩) := HA5.out.below b6 l5
  replace HB2 : Hid (Below w.heap.size w w6) := HB2.out.trans (b6.mono HB2.out.size)
  replace l5 : Ba < w6.heap.size := Nat.lt_of_lt_of_le l5 b6.size
  clear b6 HC2
  obtain ⟨a0, a1, a2, a3, a4, a5, a6⟩ := HA5.out
  simp only [Pn.plain, Nat.zero_add] at a0 a1 a2 a3 a4 a5 a6
  go_wp2_with fail
  go_ret
  exact ⟨rfl, HB2.out.trans (((Below.refl _ _).alloc (Nat.le_refl _) _).mono HB2.out.size)⟩
end Go.Proofs.YtjlfibhbfdckpaaDoor

/- The statements without the document's answer: sound. -/
namespace Go.Proofs.YtjlfibhbfdckpaaDoor
open Go.RowKit
open Wd (wd)
attribute [local go_sem ↓] Go.wp_at_zero Go.wp_at_succ
def cellAt (s : Rs) (x y : Int) : Cel := if inG s.W s.H x y = true then s.G x.toNat y.toNat else noCel
def errAt (s : Rs) (x y : Int) : Int := if inG s.W s.H x y = true then 0 else 4
theorem cCell (pc bs bg g N : Nat) (s : Rs) (x y : Int) (w : World) (h : CsAt w pc bs bg g N s) :
    Calls Tryd.prog 23 #[.pointer (some ⟨pc, 0, none⟩), .int .i64 x, .int .i64 y] w fun e w' => e = .returned (.tuple #[(cellAt s x y).agg, .int .i64 (errAt s x y)]) ∧ Below w.heap.size w w' := by
  unfold cellAt errAt
  cases hin : inG s.W s.H x y with
  | true => rw [if_pos rfl, if_pos rfl]; exact cCellYes pc bs bg g N s x y w h hin
  | false => rw [if_neg (by decide), if_neg (by decide)]; exact cCellNo pc bs bg g N s x y w h hin
/-- A state lies in a block of its own. -/
def StAt (w : World) (b : Nat) (s : Rs) : Prop := w.heap[b]? = some (.cells #[.int .i64 s.W, .int .i64 s.H, .int .i64 s.x, .int .i64 s.y, .bool s.pend, .int .i64 s.pen.f, .int .i64 s.pen.b, .bool s.pen.bo, .bool s.pen.un, .bool s.pen.re, .int .i64 s.top, .int .i64 s.bot, .bool (groundB s)] 46)
theorem StAt.below {w w' : World} {b : Nat} {s : Rs} (h : StAt w b s) (hb : Below w.heap.size w w') : StAt w' b s := by
  unfold StAt at *; rw [hb.block _ (Array.getElem?_eq_some_iff.1 h).1]; exact h
theorem StAt.lt {w : World} {b : Nat} {s : Rs} (h : StAt w b s) : b < w.heap.size := (Array.getElem?_eq_some_iff.1 h).1
theorem StAt.c0 {w : World} {b : Nat} {s : Rs} (h : StAt w b s) : w.cell? ⟨b, 0, none⟩ = some (.int .i64 s.W) := cell_of_block h 0
theorem StAt.c1 {w : World} {b : Nat} {s : Rs} (h : StAt w b s) : w.cell? ⟨b, 1, none⟩ = some (.int .i64 s.H) := cell_of_block h 1
theorem StAt.c2 {w : World} {b : Nat} {s : Rs} (h : StAt w b s) : w.cell? ⟨b, 2, none⟩ = some (.int .i64 s.x) := cell_of_block h 2
theorem StAt.c3 {w : World} {b : Nat} {s : Rs} (h : StAt w b s) : w.cell? ⟨b, 3, none⟩ = some (.int .i64 s.y) := cell_of_block h 3
theorem StAt.c4 {w : World} {b : Nat} {s : Rs} (h : StAt w b s) : w.cell? ⟨b, 4, none⟩ = some (.bool s.pend) := cell_of_block h 4
theorem StAt.c10 {w : World} {b : Nat} {s : Rs} (h : StAt w b s) : w.cell? ⟨b, 10, none⟩ = some (.int .i64 s.top) := cell_of_block h 10
theorem StAt.c11 {w : World} {b : Nat} {s : Rs} (h : StAt w b s) : w.cell? ⟨b, 11, none⟩ = some (.int .i64 s.bot) := cell_of_block h 11
theorem StAt.c12 {w : World} {b : Nat} {s : Rs} (h : StAt w b s) : w.cell? ⟨b, 12, none⟩ = some (.bool (groundB s)) := cell_of_block h 12
set_option maxRecDepth 10000 in
set_option maxHeartbeats 4000000 in
theorem kSound (pc bs bg g N : Nat) (s : Rs) (w : World) (h : CsAt w pc bs bg g N s) :
    Calls Tryd.prog 13 #[.pointer (some ⟨pc, 0, none⟩)] w fun e w' => e = .returned (.bool true) ∧ Below w.heap.size w w' := by
  have HC : Hid (CsAt w pc bs bg g N s) := h
  have Hok : Hid s.Ok := h.ok
  have W1 := h.ok.w1
  have W2 := h.ok.w2
  have H1 := h.ok.h1
  have H2 := h.ok.h2
  clear h
  go_enter Tryd.func13, Tryd.ntmps13
  go_wp2_with fail
  go_at_call 16
  refine (cState pc bs bg g N s _ HC.out).mono ?_
  rintro e wa ⟨rfl, b1⟩
  have HC1 : Hid (CsAt wa pc bs bg g N s) := HC.out.below b1
  have HB1 : Hid (Below w.heap.size w wa) := b1
  clear b1 HC
  go_wp2_with fail
  generalize hWb : wa.alloc _ = wb
  have bb : Below wa.heap.size wa wb := by rw [← hWb]; exact (Below.refl _ _).alloc (Nat.le_refl _) _
  have St : StAt wb wa.heap.size s := by rw [← hWb]; exact heap_new wa _
  have HSt : Hid (StAt wb wa.heap.size s) := St
  replace HC1 : Hid (CsAt wb pc bs bg g N s) := HC1.out.below bb
  replace HB1 : Hid (Below w.heap.size w wb) := HB1.out.trans (bb.mono HB1.out.size)
  generalize wa.heap.size = Bt at *
  clear hWb bb St
  go_loopw [4] (fun i w' => ∃ y : Nat, y ≤ s.H ∧ i = .int .i64 y ∧ CsAt w' pc bs bg g N s ∧ Below w.heap.size w w' ∧ StAt w' Bt s) (fun i _ => s.H - (intOf i).toNat)
  case atStart => exact ⟨0, by omega, rfl, HC1.out, HB1.out, HSt.out⟩
  case round =>
    obtain ⟨y, hy, rfl, hC, hB, hS⟩ := hrel
    have HC2 : Hid (CsAt wr pc bs bg g N s) := hC
    have HB2 : Hid (Below w.heap.size w wr) := hB
    have HS2 : Hid (StAt wr Bt s) := hS
    have t0 := hS.c0
    have t1 := hS.c1
    clear hC hB hS HC1 HB1 HSt
    by_cases hlt : y < s.H
    · have hlt' : (y : Int) < s.H := by omega
      go_wp2_with fail
      clear t0 t1
      go_loopw [5] (fun i w' => ∃ x : Nat, x ≤ s.W ∧ i = .int .i64 x ∧ CsAt w' pc bs bg g N s ∧ Below w.heap.size w w' ∧ StAt w' Bt s) (fun i _ => s.W - (intOf i).toNat)
      case atStart => exact ⟨0, by omega, rfl, HC2.out, HB2.out, HS2.out⟩
      case round =>
        obtain ⟨x, hx, rfl, hC, hB, hS⟩ := hrel
        clear HC2 HB2 HS2
        have HC2 : Hid (CsAt wr pc bs bg g N s) := hC
        have HB2 : Hid (Below w.heap.size w wr) := hB
        have HS2 : Hid (StAt wr Bt s) := hS
        have t0 := hS.c0
        have t1 := hS.c1
        clear hC hB hS
        by_cases hltx : x < s.W
        · have hltx' : (x : Int) < s.W := by omega
          go_wp2_with fail
          have hin : inG s.W s.H x y = true := inG_iff.2 (by omega)
          have hc : cellAt s x y = s.G x y := by unfold cellAt; rw [if_pos hin]; rfl
          have he : errAt s x y = 0 := if_pos hin
          have hpart := Hok.out.wf.part x y hltx hlt
          have hR : (s.G x y).p = 1 → cellAt s ((x : Int) + 1) y = ⟨(s.G x y).r, 2, (s.G x y).n⟩ := fun q => by
            obtain ⟨a, b⟩ := Hok.out.wf.head x y hltx hlt q
            rw [← b]; unfold cellAt; rw [if_pos (inG_iff.2 (by omega))]
            show s.G ((x : Int) + 1).toNat (y : Int).toNat = _
            rw [show ((x : Int) + 1).toNat = x + 1 by omega, Int.toNat_natCast]
          have hL : (s.G x y).p = 2 → cellAt s ((x : Int) - 1) y = ⟨(s.G x y).r, 1, (s.G x y).n⟩ := fun q => by
            obtain ⟨a, b⟩ := Hok.out.wf.tail x y hltx hlt q
            rw [← b]; unfold cellAt; rw [if_pos (inG_iff.2 (by omega))]
            show s.G ((x : Int) - 1).toNat (y : Int).toNat = _
            rw [show ((x : Int) - 1).toNat = x - 1 by omega, Int.toNat_natCast]
          clear t0 t1
          obtain ⟨c, hcc⟩ : ∃ c, s.G x y = c := ⟨_, rfl⟩
          rw [hcc] at hc hpart hR hL
          obtain ⟨rc, hrc⟩ : ∃ rc, cellAt s ((x : Int) + 1) y = rc := ⟨_, rfl⟩
          obtain ⟨lc, hlc⟩ : ∃ lc, cellAt s ((x : Int) - 1) y = lc := ⟨_, rfl⟩
          rw [hrc] at hR
          rw [hlc] at hL
          have HR : Hid (c.p = 1 → rc = ⟨c.r, 2, c.n⟩) := hR
          have HL : Hid (c.p = 2 → lc = ⟨c.r, 1, c.n⟩) := hL
          clear hcc hin hR hL
          go_at_call 23
          refine (cCell pc bs bg g N s x y _ HC2.out).mono ?_
          rintro e w1a ⟨rfl, b1a⟩
          rw [hc, he]
          replace HC2 : Hid (CsAt w1a pc bs bg g N s) := HC2.out.below b1a
          replace HB2 : Hid (Below w.heap.size w w1a) := HB2.out.trans (b1a.mono HB2.out.size)
          replace HS2 : Hid (StAt w1a Bt s) := HS2.out.below b1a
          clear b1a
          go_wp2_with fail
          generalize hw1 : w1a.alloc _ = w1b
          have b1b : Below w1a.heap.size w1a w1b := by rw [← hw1]; exact (Below.refl _ _).alloc (Nat.le_refl _) _
          have A1 : CelAt w1b w1a.heap.size 0 c := by rw [← hw1]; exact cel_new' w1a c _ rfl _
          replace HC2 : Hid (CsAt w1b pc bs bg g N s) := HC2.out.below b1b
          replace HB2 : Hid (Below w.heap.size w w1b) := HB2.out.trans (b1b.mono HB2.out.size)
          replace HS2 : Hid (StAt w1b Bt s) := HS2.out.below b1b
          have HA1 : Hid (CelAt w1b w1a.heap.size 0 c) := A1
          have l1 : w1a.heap.size < w1b.heap.size := A1.lt
          generalize w1a.heap.size = B1 at *
          clear A1 b1b hw1
          obtain ⟨a0, a1, a2, a3, a4, a5, a6⟩ := HA1.out
          simp only [Nat.zero_add] at a1 a2 a3 a4 a5 a6
          rcases hpart with ⟨hp, hwd⟩ | ⟨hp, hwd⟩ | ⟨hp, hwd⟩
          · rw [hp] at a1
            go_wp2_with (first | (go_at_call 27; refine (cWidth _ _).mono ?_; rintro e w' ⟨rfl, hw'⟩; replace hw' := hw'.symm; subst hw'))
            clear a0 a1 a2 a3 a4 a5 a6
            clear HR HL
            go_at_call 23
            refine (cCell pc bs bg g N s ((x : Int) + 1) y _ HC2.out).mono ?_
            rintro e w2a ⟨rfl, b2a⟩
            rw [hrc]
            replace HC2 : Hid (CsAt w2a pc bs bg g N s) := HC2.out.below b2a
            replace HB2 : Hid (Below w.heap.size w w2a) := HB2.out.trans (b2a.mono HB2.out.size)
            replace HS2 : Hid (StAt w2a Bt s) := HS2.out.below b2a
            replace HA1 : Hid (CelAt w2a B1 0 c) := HA1.out.below b2a l1
            replace l1 : B1 < w2a.heap.size := Nat.lt_of_lt_of_le l1 b2a.size
            clear b2a
            go_wp2_with fail
            generalize hw2 : w2a.alloc _ = w2b
            have b2b : Below w2a.heap.size w2a w2b := by rw [← hw2]; exact (Below.refl _ _).alloc (Nat.le_refl _) _
            have A2 : CelAt w2b w2a.heap.size 0 rc := by rw [← hw2]; exact cel_new' w2a rc _ rfl _
            replace HC2 : Hid (CsAt w2b pc bs bg g N s) := HC2.out.below b2b
            replace HB2 : Hid (Below w.heap.size w w2b) := HB2.out.trans (b2b.mono HB2.out.size)
            replace HS2 : Hid (StAt w2b Bt s) := HS2.out.below b2b
            replace HA1 : Hid (CelAt w2b B1 0 c) := HA1.out.below b2b l1
            replace l1 : B1 < w2b.heap.size := Nat.lt_of_lt_of_le l1 b2b.size
            have HA2 : Hid (CelAt w2b w2a.heap.size 0 rc) := A2
            have l2 : w2a.heap.size < w2b.heap.size := A2.lt
            generalize w2a.heap.size = B2 at *
            clear A2 b2b hw2
            go_at_call 23
            refine (cCell pc bs bg g N s ((x : Int) - 1) y _ HC2.out).mono ?_
            rintro e w3a ⟨rfl, b3a⟩
            rw [hlc]
            replace HC2 : Hid (CsAt w3a pc bs bg g N s) := HC2.out.below b3a
            replace HB2 : Hid (Below w.heap.size w w3a) := HB2.out.trans (b3a.mono HB2.out.size)
            replace HS2 : Hid (StAt w3a Bt s) := HS2.out.below b3a
            replace HA1 : Hid (CelAt w3a B1 0 c) := HA1.out.below b3a l1
            replace l1 : B1 < w3a.heap.size := Nat.lt_of_lt_of_le l1 b3a.size
            replace HA2 : Hid (CelAt w3a B2 0 rc) := HA2.out.below b3a l2
            replace l2 : B2 < w3a.heap.size := Nat.lt_of_lt_of_le l2 b3a.size
            clear b3a
            obtain ⟨a0, a1, a2, a3, a4, a5, a6⟩ := HA1.out
            simp only [Nat.zero_add] at a1 a2 a3 a4 a5 a6
            rw [hp] at a1
            obtain ⟨d0, d1, d2, d3, d4, d5, d6⟩ := HA2.out
            simp only [Nat.zero_add] at d1 d2 d3 d4 d5 d6
            go_wp2_with fail
            exact ⟨⟨x + 1, by omega, by simp, HC2.out.below ((Below.refl _ _).alloc (Nat.le_refl _) _), HB2.out.trans (((Below.refl _ _).alloc (Nat.le_refl _) _).mono HB2.out.size), HS2.out.below ((Below.refl _ _).alloc (Nat.le_refl _) _)⟩, by simp only [intOf]; omega⟩
          · rw [hp] at a1
            go_wp2_with (first | (go_at_call 27; refine (cWidth _ _).mono ?_; rintro e w' ⟨rfl, hw'⟩; replace hw' := hw'.symm; subst hw'))
            clear a0 a1 a2 a3 a4 a5 a6
            have hrc2 := HR.out hp
            subst hrc2
            clear HR HL
            go_at_call 23
            refine (cCell pc bs bg g N s ((x : Int) + 1) y _ HC2.out).mono ?_
            rintro e w2a ⟨rfl, b2a⟩
            rw [hrc]
            replace HC2 : Hid (CsAt w2a pc bs bg g N s) := HC2.out.below b2a
            replace HB2 : Hid (Below w.heap.size w w2a) := HB2.out.trans (b2a.mono HB2.out.size)
            replace HS2 : Hid (StAt w2a Bt s) := HS2.out.below b2a
            replace HA1 : Hid (CelAt w2a B1 0 c) := HA1.out.below b2a l1
            replace l1 : B1 < w2a.heap.size := Nat.lt_of_lt_of_le l1 b2a.size
            clear b2a
            go_wp2_with fail
            generalize hw2 : w2a.alloc _ = w2b
            have b2b : Below w2a.heap.size w2a w2b := by rw [← hw2]; exact (Below.refl _ _).alloc (Nat.le_refl _) _
            have A2 : CelAt w2b w2a.heap.size 0 ⟨c.r, 2, c.n⟩ := by rw [← hw2]; exact cel_new' w2a ⟨c.r, 2, c.n⟩ _ rfl _
            replace HC2 : Hid (CsAt w2b pc bs bg g N s) := HC2.out.below b2b
            replace HB2 : Hid (Below w.heap.size w w2b) := HB2.out.trans (b2b.mono HB2.out.size)
            replace HS2 : Hid (StAt w2b Bt s) := HS2.out.below b2b
            replace HA1 : Hid (CelAt w2b B1 0 c) := HA1.out.below b2b l1
            replace l1 : B1 < w2b.heap.size := Nat.lt_of_lt_of_le l1 b2b.size
            have HA2 : Hid (CelAt w2b w2a.heap.size 0 ⟨c.r, 2, c.n⟩) := A2
            have l2 : w2a.heap.size < w2b.heap.size := A2.lt
            generalize w2a.heap.size = B2 at *
            clear A2 b2b hw2
            go_at_call 23
            refine (cCell pc bs bg g N s ((x : Int) - 1) y _ HC2.out).mono ?_
            rintro e w3a ⟨rfl, b3a⟩
            rw [hlc]
            replace HC2 : Hid (CsAt w3a pc bs bg g N s) := HC2.out.below b3a
            replace HB2 : Hid (Below w.heap.size w w3a) := HB2.out.trans (b3a.mono HB2.out.size)
            replace HS2 : Hid (StAt w3a Bt s) := HS2.out.below b3a
            replace HA1 : Hid (CelAt w3a B1 0 c) := HA1.out.below b3a l1
            replace l1 : B1 < w3a.heap.size := Nat.lt_of_lt_of_le l1 b3a.size
            replace HA2 : Hid (CelAt w3a B2 0 ⟨c.r, 2, c.n⟩) := HA2.out.below b3a l2
            replace l2 : B2 < w3a.heap.size := Nat.lt_of_lt_of_le l2 b3a.size
            clear b3a
            obtain ⟨a0, a1, a2, a3, a4, a5, a6⟩ := HA1.out
            simp only [Nat.zero_add] at a1 a2 a3 a4 a5 a6
            rw [hp] at a1
            obtain ⟨d0, d1, d2, d3, d4, d5, d6⟩ := HA2.out
            simp only [Nat.zero_add] at d1 d2 d3 d4 d5 d6
            go_wp2_with fail
            exact ⟨⟨x + 1, by omega, by simp, HC2.out.below ((Below.refl _ _).alloc (Nat.le_refl _) _), HB2.out.trans (((Below.refl _ _).alloc (Nat.le_refl _) _).mono HB2.out.size), HS2.out.below ((Below.refl _ _).alloc (Nat.le_refl _) _)⟩, by simp only [intOf]; omega⟩
          · rw [hp] at a1
            go_wp2_with (first | (go_at_call 27; refine (cWidth _ _).mono ?_; rintro e w' ⟨rfl, hw'⟩; replace hw' := hw'.symm; subst hw'))
            clear a0 a1 a2 a3 a4 a5 a6
            have hlc2 := HL.out hp
            subst hlc2
            clear HR HL
            go_at_call 23
            refine (cCell pc bs bg g N s ((x : Int) + 1) y _ HC2.out).mono ?_
            rintro e w2a ⟨rfl, b2a⟩
            rw [hrc]
            replace HC2 : Hid (CsAt w2a pc bs bg g N s) := HC2.out.below b2a
            replace HB2 : Hid (Below w.heap.size w w2a) := HB2.out.trans (b2a.mono HB2.out.size)
            replace HS2 : Hid (StAt w2a Bt s) := HS2.out.below b2a
            replace HA1 : Hid (CelAt w2a B1 0 c) := HA1.out.below b2a l1
            replace l1 : B1 < w2a.heap.size := Nat.lt_of_lt_of_le l1 b2a.size
            clear b2a
            go_wp2_with fail
            generalize hw2 : w2a.alloc _ = w2b
            have b2b : Below w2a.heap.size w2a w2b := by rw [← hw2]; exact (Below.refl _ _).alloc (Nat.le_refl _) _
            have A2 : CelAt w2b w2a.heap.size 0 rc := by rw [← hw2]; exact cel_new' w2a rc _ rfl _
            replace HC2 : Hid (CsAt w2b pc bs bg g N s) := HC2.out.below b2b
            replace HB2 : Hid (Below w.heap.size w w2b) := HB2.out.trans (b2b.mono HB2.out.size)
            replace HS2 : Hid (StAt w2b Bt s) := HS2.out.below b2b
            replace HA1 : Hid (CelAt w2b B1 0 c) := HA1.out.below b2b l1
            replace l1 : B1 < w2b.heap.size := Nat.lt_of_lt_of_le l1 b2b.size
            have HA2 : Hid (CelAt w2b w2a.heap.size 0 rc) := A2
            have l2 : w2a.heap.size < w2b.heap.size := A2.lt
            generalize w2a.heap.size = B2 at *
            clear A2 b2b hw2
            go_at_call 23
            refine (cCell pc bs bg g N s ((x : Int) - 1) y _ HC2.out).mono ?_
            rintro e w3a ⟨rfl, b3a⟩
            rw [hlc]
            replace HC2 : Hid (CsAt w3a pc bs bg g N s) := HC2.out.below b3a
            replace HB2 : Hid (Below w.heap.size w w3a) := HB2.out.trans (b3a.mono HB2.out.size)
            replace HS2 : Hid (StAt w3a Bt s) := HS2.out.below b3a
            replace HA1 : Hid (CelAt w3a B1 0 c) := HA1.out.below b3a l1
            replace l1 : B1 < w3a.heap.size := Nat.lt_of_lt_of_le l1 b3a.size
            replace HA2 : Hid (CelAt w3a B2 0 rc) := HA2.out.below b3a l2
            replace l2 : B2 < w3a.heap.size := Nat.lt_of_lt_of_le l2 b3a.size
            clear b3a
            obtain ⟨a0, a1, a2, a3, a4, a5, a6⟩ := HA1.out
            simp only [Nat.zero_add] at a1 a2 a3 a4 a5 a6
            rw [hp] at a1
            obtain ⟨d0, d1, d2, d3, d4, d5, d6⟩ := HA2.out
            simp only [Nat.zero_add] at d1 d2 d3 d4 d5 d6
            go_wp2_with fail
            exact ⟨⟨x + 1, by omega, by simp, HC2.out.below ((Below.refl _ _).alloc (Nat.le_refl _) _), HB2.out.trans (((Below.refl _ _).alloc (Nat.le_refl _) _).mono HB2.out.size), HS2.out.below ((Below.refl _ _).alloc (Nat.le_refl _) _)⟩, by simp only [intOf]; omega⟩
        · have hltx' : ¬ (x : Int) < s.W := by omega
          go_wp2_with fail
          exact ⟨⟨y + 1, by omega, by simp, HC2.out, HB2.out, HS2.out⟩, by simp only [intOf]; omega⟩
    · have hlt' : ¬ (y : Int) < s.H := by omega
      have t2 := HS2.out.c2
      have t3 := HS2.out.c3
      have t4 := HS2.out.c4
      have t10 := HS2.out.c10
      have t11 := HS2.out.c11
      have x0 := Hok.out.x0
      have x1 := Hok.out.x1
      have y0 := Hok.out.y0
      have y1 := Hok.out.y1
      have tt := Hok.out.t0
      have tb := Hok.out.tb
      have b1 := Hok.out.b1
      cases hp : s.pend with
      | false =>
        rw [hp] at t4
        go_wp2_with fail
        go_ret
        exact ⟨rfl, HB2.out⟩
      | true =>
        have px := Hok.out.pd hp
        rw [hp] at t4
        go_wp2_with fail
        go_ret
        exact ⟨rfl, HB2.out⟩
end Go.Proofs.YtjlfibhbfdckpaaDoor
