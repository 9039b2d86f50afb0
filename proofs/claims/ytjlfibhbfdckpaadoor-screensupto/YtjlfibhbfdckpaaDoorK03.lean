/- Texts of the proof, one behind the other: PgE, WdWalks, PgF, PgG, PgH, Rw, PgI. -/
import Derived.Test.YtjlfibhbfdckpaaDoorK01
import Derived.Test.YtjlfibhbfdckpaaDoorK02
import Derived.Test.YtjlfibhbfdckpaaDoorChecked
import Derived.WalkKit
import Derived.WalkSpells
import Derived.WalkLawsBesides
import Derived.Deep.AppendLies
import Derived.Laws.IdiomCopy
/- The program's grid: a stretch of a line written. -/
namespace Go.Proofs.YtjlfibhbfdckpaaDoor
def stretch (x0 x1 y : Nat) : Nat → Nat → Bool := fun a b => decide (b = y) && decide (x0 ≤ a) && decide (a < x1)
theorem stretch_iff {x0 x1 y a b : Nat} : stretch x0 x1 y a b = true ↔ b = y ∧ x0 ≤ a ∧ a < x1 := by simp [stretch, and_assoc]
theorem cutF_far {L : Nat → Cel} {m W c i : Nat} (h : i ≠ m + c) (h2 : i + 1 ≠ m + c) : cutF L m W c i = L i := by
  unfold cutF
  split
  · unfold updF; rw [if_neg (by omega), if_neg (by omega)]
  · rfl
theorem cutF_at {L : Nat → Cel} {m W c : Nat} (h : 1 ≤ c) (h2 : c < W) : cutF L m W c (m + c) = if (L (m + c)).p = 2 then blk (L (m + c)).n else L (m + c) := by
  unfold cutF
  by_cases e : (L (m + c)).p = 2
  · rw [if_pos ⟨h, by omega, e⟩, if_pos e]; unfold updF; rw [if_pos rfl]
  · rw [if_neg (fun x => e x.2.2), if_neg e]
theorem cutF_left {L : Nat → Cel} {m W c : Nat} (h : 1 ≤ c) (h2 : c < W) : cutF L m W c (m + c - 1) = if (L (m + c)).p = 2 then blk (L (m + c - 1)).n else L (m + c - 1) := by
  unfold cutF
  by_cases e : (L (m + c)).p = 2
  · rw [if_pos ⟨h, by omega, e⟩, if_pos e]; unfold updF; rw [if_neg (by omega), if_pos rfl]
  · rw [if_neg (fun x => e x.2.2), if_neg e]
theorem cutF_none {L : Nat → Cel} {m W c : Nat} (h : c = 0 ∨ W ≤ c) : cutF L m W c = L := by
  unfold cutF
  rw [if_neg (by omega)]
theorem part_wrt {W H : Nat} {G : Nat → Nat → Cel} (h : Wf W H G) {x0 x1 y : Nat} (hx : x0 < x1) (hx1 : x1 ≤ W) (hy : y < H) (c : Nat → Cel) {L : Nat → Cel}
    (e : ∀ i, L i = if y * W + x0 ≤ i ∧ i < y * W + x1 then c (i - y * W) else partF (lin W G) (y * W) W x0 x1 i) :
    EqOn W H (unlin W L) (wrt G (stretch x0 x1 y) (fun a _ => c a)) := by
  intro a b ha hb
  unfold unlin
  rw [e]
  unfold wrt
  by_cases hby : b = y
  · subst hby
    by_cases hs : x0 ≤ a ∧ a < x1
    · rw [if_pos (by omega), if_pos (stretch_iff.2 ⟨rfl, hs⟩), show b * W + a - b * W = a by omega]
    · rw [if_neg (by omega), if_neg (fun x => hs (stretch_iff.1 x).2)]
      unfold partF
      rcases (by omega : a < x0 ∨ x1 ≤ a) with l | l
      · rw [cutF_far (c := x1) (by omega) (by omega)]
        by_cases hl : a + 1 = x0
        · subst hl
          have := cutF_left (L := lin W G) (m := b * W) (W := W) (c := a + 1) (by omega) (by omega)
          rw [show b * W + (a + 1) - 1 = b * W + a by omega, lin_at G b (by omega), lin_at G b ha] at this
          rw [this]
          by_cases hp : (G (a + 1) b).p = 2
          · obtain ⟨_, t⟩ := h.tail (a + 1) b (by omega) hb hp
            simp only [Nat.add_sub_cancel] at t
            rw [if_pos hp, if_pos (.inl ⟨by rw [t], stretch_iff.2 ⟨rfl, by omega, by omega⟩⟩)]
          · rw [if_neg hp, if_neg]
            rintro (⟨p, _⟩ | ⟨_, _, q⟩)
            · obtain ⟨_, t⟩ := h.head a b ha hb p
              exact hp (by rw [t])
            · have := stretch_iff.1 q; omega
        · rw [cutF_far (by omega) (by omega), lin_at G b ha, if_neg]
          rintro (⟨_, q⟩ | ⟨_, _, q⟩) <;> (have := stretch_iff.1 q; omega)
      · by_cases hl : a = x1
        · subst hl
          rw [cutF_at (by omega) (by omega), cutF_far (c := x0) (by omega) (by omega), lin_at G b ha]
          by_cases hp : (G a b).p = 2
          · rw [if_pos hp, if_pos (.inr ⟨hp, by omega, stretch_iff.2 ⟨rfl, by omega, by omega⟩⟩)]
          · rw [if_neg hp, if_neg]
            rintro (⟨_, q⟩ | ⟨q, _⟩)
            · have := stretch_iff.1 q; omega
            · exact hp q
        · rw [cutF_far (by omega) (by omega), cutF_far (by omega) (by omega), lin_at G b ha, if_neg]
          rintro (⟨_, q⟩ | ⟨_, _, q⟩) <;> (have := stretch_iff.1 q; omega)
  · have far : b * W + W ≤ y * W ∨ y * W + W ≤ b * W := by
      rcases (by omega : b < y ∨ y < b) with l | l
      · left; have := Nat.mul_le_mul_right W l; rw [Nat.succ_mul] at this; exact this
      · right; have := Nat.mul_le_mul_right W l; rw [Nat.succ_mul] at this; exact this
    rw [if_neg (by omega), if_neg (fun x => hby (stretch_iff.1 x).1), if_neg]
    · unfold partF
      have f : ∀ (M : Nat → Cel) c, c ≤ W → cutF M (y * W) W c (b * W + a) = M (b * W + a) := by
        intro M c hc
        by_cases hc0 : c = 0 ∨ W ≤ c
        · rw [cutF_none hc0]
        · exact cutF_far (by omega) (by omega)
      rw [f _ _ hx1, f _ _ (by omega), lin_at G b ha]
    · rintro (⟨_, q⟩ | ⟨_, _, q⟩) <;> exact hby (stretch_iff.1 q).1
end Go.Proofs.YtjlfibhbfdckpaaDoor

/- The walks of the program's Width. -/
namespace Go.Proofs.YtjlfibhbfdckpaaDoor.Wd
open Go.RowKit
theorem within32 (n a b : Int) (w : World) :
    Calls Tryd.prog 88 #[.int .i32 n, .int .i32 a, .int .i32 b] w fun e w' => e = .returned (.bool (inB n a b)) ∧ w' = w := by
  by_cases h1 : a ≤ n <;> by_cases h2 : n ≤ b
  all_goals
    go_enter Tryd.func88, Tryd.ntmps88
    go_wp2
    go_ret
    exact ⟨by simp [inB, h1, h2], rfl⟩
theorem validRune (n : Int) (w : World) :
    Calls Tryd.prog 87 #[.int .i32 n] w fun e w' => e = .returned (.bool (validB n)) ∧ w' = w := by
  rcases valid_cases n with ⟨h1, h2, h3⟩ | ⟨h1, h2, h3⟩ | ⟨h1, h3⟩ | ⟨h1, h2, h3⟩ | ⟨h1, h3⟩
  all_goals
    rw [h3]; clear h3
    go_enter Tryd.func87, Tryd.ntmps87
    go_wp2
    go_ret
    exact ⟨by simp, rfl⟩
set_option maxHeartbeats 400000 in
theorem takesNothing (n : Int) (w : World) :
    Calls Tryd.prog 64 #[.int .i32 n] w fun e w' => e = .returned (.bool (zeroB n)) ∧ w' = w := by
  rcases zero_cases n with ⟨h1, h3⟩ | ⟨h1, h2, h3⟩ | ⟨h1, h2, h4, h3⟩ | ⟨h1, h2, h4, h5, h3⟩ | ⟨h1, h2, h4, h5, h6, h3⟩ | ⟨h1, h2, h4, h5, h6, h3⟩
  all_goals
    rw [h3]; clear h3
    go_enter Tryd.func64, Tryd.ntmps64
    go_wp2_with (first | (go_at_call 87; refine (validRune _ _).mono ?_; rintro e w' ⟨rfl, rfl⟩) | (go_at_call 88; refine (within32 _ _ _ _).mono ?_; rintro e w' ⟨rfl, rfl⟩))
    go_ret
    exact ⟨by simp [*], rfl⟩
set_option maxHeartbeats 1000000 in
theorem isWide (n : Int) (w : World) :
    Calls Tryd.prog 65 #[.int .i32 n] w fun e w' => e = .returned (.bool (wideB n)) ∧ w' = w := by
  rcases wide_cases n with ⟨h0, hz⟩ | ⟨h0, h1, hz⟩ | ⟨h0, h1, h2, hz⟩ | ⟨h0, h1, h2, h3, hz⟩ | ⟨h0, h1, h2, h3, h4, hz⟩ | ⟨h0, h1, h2, h3, h4, h5, hz⟩ | ⟨h0, h1, h2, h3, h4, h5, h6, hz⟩ | ⟨h0, h1, h2, h3, h4, h5, h6, h7, hz⟩ | ⟨h0, h1, h2, h3, h4, h5, h6, h7, h8, hz⟩ | ⟨h0, h1, h2, h3, h4, h5, h6, h7, h8, hz⟩
  all_goals
    rw [hz]; clear hz
    go_enter Tryd.func65, Tryd.ntmps65
    go_wp2_with (go_at_call 88; refine (within32 _ _ _ _).mono ?_; rintro e w' ⟨rfl, rfl⟩)
    go_ret
    exact ⟨by simp [*], rfl⟩
theorem lettersWidth (n : Int) (w : World) :
    Calls Tryd.prog 42 #[.int .i32 n] w fun e w' => e = .returned (.int .i64 (wd n)) ∧ w' = w := by
  cases h1 : zeroB n <;> cases h2 : wideB n
  all_goals
    go_enter Tryd.func42, Tryd.ntmps42
    go_wp2_with (first | (go_at_call 64; refine (takesNothing _ _).mono ?_; rintro e w' ⟨rfl, rfl⟩) | (go_at_call 65; refine (isWide _ _).mono ?_; rintro e w' ⟨rfl, rfl⟩))
    go_ret
    exact ⟨by simp [wd, h1, h2], rfl⟩
theorem casementWidth (n : Int) (w : World) :
    Calls Tryd.prog 27 #[.int .i32 n] w fun e w' => e = .returned (.int .i64 (wd n)) ∧ w' = w := by
  go_enter Tryd.func27, Tryd.ntmps27
  go_wp2_with (go_at_call 42; refine (lettersWidth _ _).mono ?_; rintro e w' ⟨rfl, rfl⟩)
  go_ret
  exact ⟨rfl, rfl⟩
theorem refBetween (n a b : Int) (w : World) :
    Calls Tryd.prog 50 #[.int .i64 n, .int .i64 a, .int .i64 b] w fun e w' => e = .returned (.bool (inB n a b)) ∧ w' = w := by
  by_cases h1 : a ≤ n <;> by_cases h2 : n ≤ b
  all_goals
    go_enter Tryd.func50, Tryd.ntmps50
    go_wp2
    go_ret
    exact ⟨by simp [inB, h1, h2], rfl⟩
end Go.Proofs.YtjlfibhbfdckpaaDoor.Wd

/- The program's grid: Erase, Put. -/
namespace Go.Proofs.YtjlfibhbfdckpaaDoor
open Go.RowKit
attribute [local go_sem ↓] Go.wp_at_zero Go.wp_at_succ
theorem keepC {F : Nat → Prop} {w w' : World} (h : Keep F w w') {b : Nat} (hb : b < w.heap.size) (hF : ¬ F b) : ∀ o, w'.cell? ⟨b, o, none⟩ = w.cell? ⟨b, o, none⟩ := fun o => cell_same (h.block b hb hF) o
def eraseX (W : Nat) (x0 x1 : Int) (y : Nat) (p : Pn) (G : Nat → Nat → Cel) : Nat → Nat → Cel :=
  wrt G (fun a b => decide (b = y) && decide (x0 ≤ a) && decide ((a : Int) < x1) && decide (a < W)) (fun _ _ => blk p)
set_option maxHeartbeats 2000000 in
theorem pErase (bg g W H N : Nat) (G : Nat → Nat → Cel) (x0 x1 : Int) (y : Nat) (p : Pn) (w : World) (h : GrAt w bg g W H N G) (hw : Wf W H G) (hy : y < H) :
    Calls Tryd.prog 103 #[.pointer (some ⟨bg, 0, none⟩), .int .i64 x0, .int .i64 x1, .int .i64 y, p.agg] w fun e w' => e = .returned (.tuple #[]) ∧ GrAt w' bg g W H N (eraseX W x0 x1 y p G) ∧ Keep (fun i => i = g) w w' := by
  have HG : Hid (GrAt w bg g W H N G) := h
  have c0 := h.c0
  have w1 := h.w1
  have w2 := h.w2
  clear h
  go_enter Tryd.func103, Tryd.ntmps103
  go_wp2_with fail
  have hb1 : Below w.heap.size w (w.alloc (.cells #[.int .i64 p.f, .int .i64 p.b, .bool p.bo, .bool p.un, .bool p.re] 44)) := (Below.refl _ _).alloc (Nat.le_refl _) _
  have G1 := HG.out.below hb1
  have K1 : Keep (fun i => i = g) w (w.alloc (.cells #[.int .i64 p.f, .int .i64 p.b, .bool p.bo, .bool p.un, .bool p.re] 44)) := Keep.below _ hb1
  have P1 := pen_new w p 44
  have s1 : w.heap.size < (w.alloc (.cells #[.int .i64 p.f, .int .i64 p.b, .bool p.bo, .bool p.un, .bool p.re] 44)).heap.size := by simp
  generalize w.alloc (.cells #[.int .i64 p.f, .int .i64 p.b, .bool p.bo, .bool p.un, .bool p.re] 44) = wa at *
  have hgb := HG.out.glt
  have Hne : Hid (w.heap.size ≠ g) := by show _ ≠ _; omega
  clear hb1 c0 HG s1 hgb
  have c0 := G1.c0
  have HG1 : Hid (GrAt wa bg g W H N G) := G1
  clear G1
  go_at_call 90
  refine (pGreatest _ _ _).mono ?_
  rintro e w' ⟨rfl, hw'⟩
  replace hw' := hw'.symm
  subst hw'
  have Hf : Hid (greatestI x0 0 = if 0 ≤ x0 then x0 else 0) := by show _ = _; unfold greatestI; split <;> split <;> omega
  have hf0 : 0 ≤ greatestI x0 0 := by rw [Hf.out]; split <;> omega
  have Ht : Hid (leastI x1 W = if x1 ≤ W then x1 else W) := by show _ = _; unfold leastI; split <;> split <;> omega
  have ht : leastI x1 W ≤ W := by rw [Ht.out]; split <;> omega
  obtain ⟨f, hf⟩ : ∃ f : Nat, greatestI x0 0 = f := ⟨_, (Int.toNat_of_nonneg hf0).symm⟩
  rw [hf] at Hf
  rw [hf]
  clear hf0 hf
  generalize hto : leastI x1 W = to at *
  obtain ⟨p0, p1, p2, p3, p4⟩ := P1
  by_cases hlt : (f : Int) < to
  · obtain ⟨t, rfl⟩ : ∃ t : Nat, to = t := ⟨to.toNat, by omega⟩
    go_wp2_with (first | (go_at_call 66; refine (pLeast _ _ _).mono ?_; rintro e w' ⟨rfl, hw'⟩; replace hw' := hw'.symm; subst hw'; rw [hto]))
    obtain ⟨m, hm⟩ : ∃ m, y * W = m := ⟨_, rfl⟩
    have hmw : m + W ≤ N := by rw [← hm, HG1.out.hN]; have := Nat.mul_le_mul_right W hy; rw [Nat.succ_mul] at this; exact this
    obtain ⟨r, hr⟩ : ∃ r, m + r = N := ⟨N - m, by omega⟩
    have nle := HG1.out.nle
    have np : ¬ w.heap.size = g := Hne.out
    have lp : w.heap.size < wa.heap.size := World.block_lt_of_cell? _ _ p0
    generalize hB : w.heap.size = Bp at *
    have HD : Hid (GrAt wa.drew bg g W H N G) := HG1.out.same rfl rfl
    go_region_held3 (fun w' => w'.cell? ⟨Bp, 0, none⟩ = some (.int .i64 p.f) ∧ w'.cell? ⟨Bp, 1, none⟩ = some (.int .i64 p.b) ∧ w'.cell? ⟨Bp, 2, none⟩ = some (.bool p.bo) ∧ w'.cell? ⟨Bp, 3, none⟩ = some (.bool p.un) ∧ w'.cell? ⟨Bp, 4, none⟩ = some (.bool p.re)) (simp [*]) (first | (go_at_call 68; refine (pPart bg g W H N G f t y m r _ HD.out hy hm hr (by omega) (by omega)).mono ?_; rintro e w5 ⟨rfl, F5, K5⟩; have e1 := keepC K5 lp np; have lp5 := Nat.lt_of_lt_of_le lp K5.size) | (go_at_call 70; refine (pFill g N (m + f) (t - f) (r - f) _ _ p _ F5 (fun _ => rfl) (by omega) nle (by omega)).mono ?_; rintro e w6 ⟨rfl, F6, K6⟩; have e2 := keepC K6 lp5 np))
    go_wp2_with fail
    go_end0
    have K6' : Keep (fun i => i = g) wa w6 := (((Keep.refl _ wa).drew).trans K5 (fun _ _ h => h)).trans K6 (fun _ _ h => h)
    refine ⟨rfl, HG1.out.with F6 K6' ((part_wrt hw (x0 := f) (x1 := t) (y := y) (by omega) (by omega) hy (fun _ => blk p) (fun i => ?_)).trans (wr_dom hw (fun a b ha hb => ?_) (fun _ _ _ _ _ => rfl))), K1.trans K6' (fun _ _ h => h)⟩
    · rw [hm]
      unfold fillF
      by_cases e : m + f ≤ i ∧ i < m + t
      · rw [if_pos (by omega), if_pos e]
      · rw [if_neg (by omega), if_neg e]
    · have := Hf.out
      have := Ht.out
      rw [Bool.eq_iff_iff, stretch_iff]
      simp
      split at * <;> split at * <;> omega
  · go_wp2_with (first | (go_at_call 66; refine (pLeast _ _ _).mono ?_; rintro e w' ⟨rfl, hw'⟩; replace hw' := hw'.symm; subst hw'; rw [hto]))
    go_end0
    refine ⟨rfl, HG1.out.congr (fun a b ha hb => ?_), K1⟩
    have no : ∀ a b, (decide (b = y) && decide (x0 ≤ (a : Nat)) && decide ((a : Int) < x1) && decide (a < W)) = false := by
      intro a b
      have := Hf.out
      have := Ht.out
      rw [Bool.eq_false_iff]
      simp
      intro _ _ _
      split at * <;> split at * <;> omega
    unfold eraseX wrt
    simp only [no]
    simp
end Go.Proofs.YtjlfibhbfdckpaaDoor

/- The program's grid: Put. -/
namespace Go.Proofs.YtjlfibhbfdckpaaDoor
open Go.RowKit
open Wd (wd)
attribute [local go_sem ↓] Go.wp_at_zero Go.wp_at_succ
def putCel (r : Int) (p : Pn) (x : Nat) : Nat → Cel := fun a => if wd r = 2 then (if a = x then ⟨r, 1, p⟩ else ⟨r, 2, p⟩) else ⟨r, 0, p⟩
def putX (r : Int) (p : Pn) (x y : Nat) (G : Nat → Nat → Cel) : Nat → Nat → Cel :=
  wrt G (stretch x (x + (if wd r = 2 then 2 else 1)) y) (fun a _ => putCel r p x a)
set_option maxHeartbeats 300000 in
theorem pPut2 (bg g W H N : Nat) (G : Nat → Nat → Cel) (x y : Nat) (r : Int) (p : Pn) (w : World) (h : GrAt w bg g W H N G) (hw : Wf W H G) (hy : y < H) (hr : wd r = 2) (hx : x + 2 ≤ W) :
    Calls Tryd.prog 102 #[.pointer (some ⟨bg, 0, none⟩), .int .i64 x, .int .i64 y, .int .i32 r, p.agg] w fun e w' => e = .returned (.tuple #[]) ∧ GrAt w' bg g W H N (putX r p x y G) ∧ Keep (fun i => i = g) w w' := by
  have HG : Hid (GrAt w bg g W H N G) := h
  have w1 := h.w1
  have w2 := h.w2
  clear h
  go_enter Tryd.func102, Tryd.ntmps102
  go_wp2_with fail
  have hb1 : Below w.heap.size w (w.alloc (.cells #[.int .i64 p.f, .int .i64 p.b, .bool p.bo, .bool p.un, .bool p.re] 44)) := (Below.refl _ _).alloc (Nat.le_refl _) _
  have G1 := HG.out.below hb1
  have K1 : Keep (fun i => i = g) w (w.alloc (.cells #[.int .i64 p.f, .int .i64 p.b, .bool p.bo, .bool p.un, .bool p.re] 44)) := Keep.below _ hb1
  have P1 := pen_new w p 44
  generalize w.alloc (.cells #[.int .i64 p.f, .int .i64 p.b, .bool p.bo, .bool p.un, .bool p.re] 44) = wa at *
  have hgb := HG.out.glt
  have np : ¬ w.heap.size = g := by omega
  have lp : w.heap.size < wa.heap.size := P1.lt
  generalize hB : w.heap.size = Bp at *
  clear hb1 HG hgb
  have HG1 : Hid (GrAt wa bg g W H N G) := G1
  have HP1 : Hid (PenAt wa Bp 0 p) := P1
  clear G1 P1
  go_at_call 42
  refine (Wd.lettersWidth _ _).mono ?_
  rintro e w' ⟨rfl, hw'⟩
  replace hw' := hw'.symm
  subst hw'
  rw [hr]
  obtain ⟨m, hm⟩ : ∃ m, y * W = m := ⟨_, rfl⟩
  have hmw : m + W ≤ N := by rw [← hm, HG1.out.hN]; have := Nat.mul_le_mul_right W hy; rw [Nat.succ_mul] at this; exact this
  obtain ⟨k, hk⟩ : ∃ k, m + k = N := ⟨N - m, by omega⟩
  have nle := HG1.out.nle
  go_wp2_with fail
  rw [show ((x : Int) + 2) = ((x + 2 : Nat) : Int) by omega]
  go_at_call 68
  refine (pPart bg g W H N G x (x + 2) y m k _ HG1.out hy hm hk (by omega) (by omega)).mono ?_
  rintro e w5 ⟨rfl, F5, K5⟩
  rw [show x + 2 - x = 2 by omega]
  have P5 := HP1.out.keep K5 np
  have HF5 : Hid (Flat w5 g N (partF (lin W G) m W x (x + 2))) := F5
  have HP5 : Hid (PenAt w5 Bp 0 p) := P5
  clear F5 P5 HP1 lp
  obtain ⟨o, ho⟩ : ∃ o, (m + x) * 7 = o := ⟨_, rfl⟩
  rw [ho]
  have t5 := HF5.out.cel (m + x) (by omega)
  have q5 := HF5.out.cel (m + x + 1) (by omega)
  have fr5 := HF5.out.free
  rw [ho] at t5
  rw [show (m + x + 1) * 7 = o + 7 by omega] at q5
  obtain ⟨p0, p1, p2, p3, p4⟩ := HP5.out
  obtain ⟨t0, t1, t2, t3, t4, t5, t6⟩ := t5
  obtain ⟨q0, q1, q2, q3, q4, q5, q6⟩ := q5
  simp only [Nat.add_assoc, Nat.reduceAdd, Nat.zero_add] at p1 p2 p3 p4 q1 q2 q3 q4 q5 q6
  have np' : ¬ g = Bp := fun e => np e.symm
  go_wp2_with fail
  have R1 := HF5.out.put (i := m + x) (by omega) (⟨r, 1, p⟩ : Cel)
  rw [ho] at R1
  have R2 := R1.put (i := m + x + 1) (by omega) (⟨r, 2, p⟩ : Cel)
  rw [show (m + x + 1) * 7 = o + 7 by omega] at R2
  have K6 := (K5.put7 g o (⟨r, 1, p⟩ : Cel) (fun _ => rfl)).put7 g (o + 7) (⟨r, 2, p⟩ : Cel) (fun _ => rfl)
  refine bodyPost_ret (v := .tuple #[]) (by simp [results, Tryd.results102, go_sem]) rfl ⟨rfl, HG1.out.with R2 K6 ?_, K1.trans K6 (fun _ _ h => h)⟩
  unfold putX
  rw [hr]
  refine part_wrt hw (x0 := x) (x1 := x + 2) (y := y) (by omega) (by omega) hy (putCel r p x) (fun i => ?_)
  rw [hm]
  unfold updF putCel
  rw [hr]
  by_cases e1 : i = m + x + 1
  · rw [if_pos e1, if_pos (by omega), if_pos rfl, if_neg (by omega)]
  · rw [if_neg e1]
    by_cases e2 : i = m + x
    · rw [if_pos e2, if_pos (by omega), if_pos rfl, if_pos (by omega)]
    · rw [if_neg e2, if_neg (by omega)]
set_option maxHeartbeats 300000 in
theorem pPut1 (bg g W H N : Nat) (G : Nat → Nat → Cel) (x y : Nat) (r : Int) (p : Pn) (w : World) (h : GrAt w bg g W H N G) (hw : Wf W H G) (hy : y < H) (hr : wd r = 1) (hx : x < W) :
    Calls Tryd.prog 102 #[.pointer (some ⟨bg, 0, none⟩), .int .i64 x, .int .i64 y, .int .i32 r, p.agg] w fun e w' => e = .returned (.tuple #[]) ∧ GrAt w' bg g W H N (putX r p x y G) ∧ Keep (fun i => i = g) w w' := by
  have HG : Hid (GrAt w bg g W H N G) := h
  have w1 := h.w1
  have w2 := h.w2
  clear h
  go_enter Tryd.func102, Tryd.ntmps102
  go_wp2_with fail
  have hb1 : Below w.heap.size w (w.alloc (.cells #[.int .i64 p.f, .int .i64 p.b, .bool p.bo, .bool p.un, .bool p.re] 44)) := (Below.refl _ _).alloc (Nat.le_refl _) _
  have G1 := HG.out.below hb1
  have K1 : Keep (fun i => i = g) w (w.alloc (.cells #[.int .i64 p.f, .int .i64 p.b, .bool p.bo, .bool p.un, .bool p.re] 44)) := Keep.below _ hb1
  have P1 := pen_new w p 44
  generalize w.alloc (.cells #[.int .i64 p.f, .int .i64 p.b, .bool p.bo, .bool p.un, .bool p.re] 44) = wa at *
  have hgb := HG.out.glt
  have np : ¬ w.heap.size = g := by omega
  have lp : w.heap.size < wa.heap.size := P1.lt
  generalize hB : w.heap.size = Bp at *
  clear hb1 HG hgb
  have HG1 : Hid (GrAt wa bg g W H N G) := G1
  have HP1 : Hid (PenAt wa Bp 0 p) := P1
  clear G1
  go_at_call 42
  refine (Wd.lettersWidth _ _).mono ?_
  rintro e w' ⟨rfl, hw'⟩
  replace hw' := hw'.symm
  subst hw'
  rw [hr]
  obtain ⟨m, hm⟩ : ∃ m, y * W = m := ⟨_, rfl⟩
  have hmw : m + W ≤ N := by rw [← hm, HG1.out.hN]; have := Nat.mul_le_mul_right W hy; rw [Nat.succ_mul] at this; exact this
  obtain ⟨k, hk⟩ : ∃ k, m + k = N := ⟨N - m, by omega⟩
  have nle := HG1.out.nle
  obtain ⟨p0, p1, p2, p3, p4⟩ := P1
  simp only [Nat.zero_add] at p1 p2 p3 p4
  go_wp2_with fail
  obtain ⟨o, ho⟩ : ∃ o, (m + x) * 7 = o := ⟨_, rfl⟩
  have F1 := HG1.out.flat
  have t1 := F1.cel (m + x) (by omega)
  rw [ho] at t1
  obtain ⟨t0, t1, t2, t3, t4, t5, t6⟩ := t1
  have fr := F1.free
  clear F1
  have np' : ¬ g = Bp := fun e => np e.symm
  have HD : Hid (GrAt wa.drew bg g W H N G) := HG1.out.same rfl rfl
  have Hx1 : Hid ((x : Int) + 1 = ((x + 1 : Nat) : Int)) := by show _ = _; omega
  have hw1 : IntKind.i64.wrap ((x : Int) + 1) = (x : Int) + 1 := wrap_id _ (by omega) (by omega)
  go_region_held3 (fun w' => w'.cell? ⟨Bp, 0, none⟩ = some (.int .i64 p.f) ∧ w'.cell? ⟨Bp, 1, none⟩ = some (.int .i64 p.b) ∧ w'.cell? ⟨Bp, 2, none⟩ = some (.bool p.bo) ∧ w'.cell? ⟨Bp, 3, none⟩ = some (.bool p.un) ∧ w'.cell? ⟨Bp, 4, none⟩ = some (.bool p.re) ∧ (w'.cell? ⟨g, o, none⟩).isSome = true ∧ (w'.cell? ⟨g, o + 1, none⟩).isSome = true ∧ (w'.cell? ⟨g, o + 2, none⟩).isSome = true ∧ (w'.cell? ⟨g, o + 3, none⟩).isSome = true ∧ (w'.cell? ⟨g, o + 4, none⟩).isSome = true ∧ (w'.cell? ⟨g, o + 5, none⟩).isSome = true ∧ (w'.cell? ⟨g, o + 6, none⟩).isSome = true ∧ (∀ o, w'.frozen? ⟨g, o, none⟩ = false)) (simp [*, World.cell?_setCell_far, isSome_set]) (first | (go_at_call 68; rw [Hx1.out]; refine (pPart bg g W H N G x (x + 1) y m k _ HD.out hy hm hk (by omega) (by omega)).mono ?_; rintro e w5 ⟨rfl, F5, K5⟩; rw [show x + 1 - x = 1 by omega, ho]; have e1 := keepC K5 lp np; have u5 := F5.cel (m + x) (by omega); rw [ho] at u5; obtain ⟨u0, u1, u2, u3, u4, u5, u6⟩ := u5; have fr5 := F5.free))
  go_wp2_with fail
  go_end0
  have R1 := F5.put (i := m + x) (by omega) (⟨r, 0, p⟩ : Cel)
  rw [ho] at R1
  have K6 := (((Keep.refl (fun i => i = g) wa).drew).trans K5 (fun _ _ h => h)).put7 g o (⟨r, 0, p⟩ : Cel) (fun _ => rfl)
  refine ⟨rfl, HG1.out.with R1 K6 ?_, K1.trans K6 (fun _ _ h => h)⟩
  unfold putX
  rw [hr]
  refine part_wrt hw (x0 := x) (x1 := x + 1) (y := y) (by omega) (by omega) hy (putCel r p x) (fun i => ?_)
  rw [hm]
  unfold updF putCel
  rw [hr]
  by_cases e2 : i = m + x
  · rw [if_pos e2, if_pos (by omega), if_neg (by decide)]
  · rw [if_neg e2, if_neg (by omega)]
end Go.Proofs.YtjlfibhbfdckpaaDoor

/- The program's grid: New. -/
namespace Go.Proofs.YtjlfibhbfdckpaaDoor
open Go.RowKit
attribute [local go_sem ↓] Go.wp_at_zero Go.wp_at_succ
theorem wpList_make_at {P : Program} (w : World) {ops : Array Oper} {rest : List Oper} {o : Oper} {a : Act} {Q : Exit → Act → World → Prop}
    (hg : o.guard = none) (l c : Operand) (t : TypeId) (hop : o.op = Op.makeSlice t l c)
    (e : TypeId) (z : Value) (size bytes : Nat) (h1 : P.underlying t = some (.slice e)) (h2 : (P.info? e).map (fun i => (i.zero, i.size, i.bytes)) = some (some z, size, bytes))
    (n : Nat) (hl : a.eval l = .int .i64 n) (hc : a.eval c = .int .i64 n) (hn : n ≤ 800) (hb : bytes ≤ 1000)
    (hK : wpList P ops Q rest (a.put o.dst (.slice (some ⟨w.heap.size, 0, none⟩) n n)) (w.alloc (.cells (madeCells z.cells (n * size)) e))) :
    wpList P ops Q (o :: rest) a w := by
  refine wpList_plain hg fun K hK' => ?_
  cases hi : P.info? e with
  | none => rw [hi] at h2; simp at h2
  | some i =>
    rw [hi] at h2
    simp at h2
    have hbb : i.bytes * n ≤ 1000 * 800 := Nat.mul_le_mul (by omega) hn
    have hbi : (i.bytes : Int) * (n : Int) ≤ 281474976710656 := by
      rw [← Int.natCast_mul]; omega
    have hrun := run_make (P := P) w t e i z h1 hi h2.1 .i64 .i64 n n (by omega) (by omega) hbi (by omega)
    rw [h2.2.1] at hrun
    unfold Oper.wp
    simp [execOp, hop, hl, hc, hrun, Result.andThen]
    exact hK' _ _ hK
theorem made_flat (w : World) (n : Nat) (t : TypeId) : Flat (w.alloc (.cells (madeCells #[.int .i32 0, .int .i64 0, .int .i64 0, .int .i64 0, .bool false, .bool false, .bool false] (n * 7)) t)) w.heap.size n (fun _ => ⟨0, 0, Pn.plain⟩) := by
  have key : ∀ i j, i < n → j < 7 → (w.alloc (.cells (madeCells #[.int .i32 0, .int .i64 0, .int .i64 0, .int .i64 0, .bool false, .bool false, .bool false] (n * 7)) t)).cell? ⟨w.heap.size, i * 7 + j, none⟩ = some ((#[.int .i32 0, .int .i64 0, .int .i64 0, .int .i64 0, .bool false, .bool false, .bool false] : Array Value)[j]!) := by
    intro i j hi hj
    rw [cell_of_block (heap_new w _)]
    unfold madeCells
    rw [Array.getElem?_map, Array.getElem?_range, if_pos (by omega)]
    simp only [Option.map_some]
    rw [show (i * 7 + j) % (#[.int .i32 0, .int .i64 0, .int .i64 0, .int .i64 0, .bool false, .bool false, .bool false] : Array Value).size = j by simp; omega]
  refine ⟨fun i hi => ?_, fun o => frozen_of_block (heap_new w _) o⟩
  exact ⟨key i 0 hi (by omega), key i 1 hi (by omega), key i 2 hi (by omega), key i 3 hi (by omega), key i 4 hi (by omega), key i 5 hi (by omega), key i 6 hi (by omega)⟩
theorem cellInfo : (Tryd.prog.info? 56).map (fun i => (i.zero, i.size, i.bytes)) = some (some (.agg #[.int .i32 0, .int .i64 0, .int .i64 0, .int .i64 0, .bool false, .bool false, .bool false]), 7, 40) := by kernel_rfl
set_option maxHeartbeats 300000 in
theorem pNew (W H : Nat) (w : World) (w1 : 1 ≤ W) (w2 : W ≤ 40) (h1 : 1 ≤ H) (h2 : H ≤ 20) :
    Calls Tryd.prog 49 #[.int .i64 W, .int .i64 H] w fun e w' => ∃ bg g, e = .returned (.pointer (some ⟨bg, 0, none⟩)) ∧ GrAt w' bg g W H (H * W) (fun _ _ => blk Pn.plain) ∧ Below w.heap.size w w' ∧ w.heap.size ≤ bg ∧ w.heap.size ≤ g := by
  obtain ⟨N, hN⟩ : ∃ N, H * W = N := ⟨_, rfl⟩
  have hmul : (W : Int) * H = N := by rw [← hN, Int.natCast_mul, Int.mul_comm]
  have nle : N ≤ 800 := by rw [← hN]; exact Nat.mul_le_mul h2 w2
  have n1 : 1 ≤ N := by rw [← hN]; exact Nat.mul_le_mul h1 w1
  have hw1 : IntKind.i64.wrap ((W : Int) * (H : Int)) = (N : Int) := by rw [hmul]; exact wrap_id _ (by omega) (by omega)
  have HN : Hid (H * W = N) := hN
  rw [hN]
  clear hN
  go_enter Tryd.func49, Tryd.ntmps49
  go_wp2_with (at_make; go_must (refine wpList_make_at _ rfl _ _ 85 rfl 56 _ 7 40 Tryd.underlying85 cellInfo N (by rfl) (by rfl) nle (by omega) ?_))
  have hf := made_flat w N 56
  have hb1 : Below w.heap.size w (w.alloc (.cells (madeCells #[.int .i32 0, .int .i64 0, .int .i64 0, .int .i64 0, .bool false, .bool false, .bool false] (N * 7)) 56)) := (Below.refl _ _).alloc (Nat.le_refl _) _
  have s1 : (w.alloc (.cells (madeCells #[.int .i32 0, .int .i64 0, .int .i64 0, .int .i64 0, .bool false, .bool false, .bool false] (N * 7)) 56)).heap.size = w.heap.size + 1 := size_alloc _ _
  generalize w.alloc (.cells (madeCells #[.int .i32 0, .int .i64 0, .int .i64 0, .int .i64 0, .bool false, .bool false, .bool false] (N * 7)) 56) = wa at *
  have hn := heap_new wa (.cells #[.int .i64 W, .int .i64 H, .slice (some ⟨w.heap.size, 0, none⟩) N N] 97)
  rw [s1] at hn
  have hf2 := hf.same (w' := wa.alloc (.cells #[.int .i64 W, .int .i64 H, .slice (some ⟨w.heap.size, 0, none⟩) N N] 97)) (Below.heap_alloc _ _ _ (by omega))
  have hb2 := hb1.alloc (by omega) (.cells #[.int .i64 W, .int .i64 H, .slice (some ⟨w.heap.size, 0, none⟩) N N] 97)
  generalize wa.alloc (.cells #[.int .i64 W, .int .i64 H, .slice (some ⟨w.heap.size, 0, none⟩) N N] 97) = wb at *
  clear hf hb1
  go_at_call 70
  refine (pFill w.heap.size N 0 N N _ _ Pn.plain _ hf2 (fun _ => rfl) (by omega) nle (by omega)).mono ?_
  rintro e w3 ⟨rfl, F3, K3⟩
  have h3 : w3.heap[w.heap.size + 1]? = some (.cells #[.int .i64 W, .int .i64 H, .slice (some ⟨w.heap.size, 0, none⟩) N N] 97) := by
    rw [K3.block _ (Array.getElem?_eq_some_iff.1 hn).1 (by omega)]; exact hn
  go_wp2_with fail
  go_ret
  have F4 := F3
  rw [← HN.out] at F4
  refine ⟨w.heap.size + 1, w.heap.size, rfl, ⟨h3, ⟨fun x y hx hy => ?_, F4.free⟩, HN.out.symm, by omega, w1, w2, h1, h2⟩, hb2.trans (K3.toBelow hb2.size (fun i hi => by omega)), by omega, by omega⟩
  have := F4.grid.cel x y hx hy
  unfold unlin fillF at this
  have pl := place_lt hx hy
  rw [if_pos (by have := HN.out; omega)] at this
  exact this
end Go.Proofs.YtjlfibhbfdckpaaDoor

/- Rows of cells that were appended. -/
namespace Go.Proofs.YtjlfibhbfdckpaaDoor
open Go.RowKit
def flat (L : List Cel) : List Value := L.flatMap Cel.vals
theorem flat_append (L M : List Cel) : flat (L ++ M) = flat L ++ flat M := by simp [flat]
theorem flat_one (c : Cel) : flat [c] = c.vals := by simp [flat]
theorem flat_length (L : List Cel) : (flat L).length = L.length * 7 := by
  induction L with
  | nil => rfl
  | cons c L ih => simp [flat] at ih ⊢; omega
theorem flat_at (L : List Cel) (i : Nat) (c : Cel) (h : L[i]? = some c) (j : Nat) (v : Value) (hv : c.vals[j]? = some v) : (flat L)[i * 7 + j]? = some v := by
  induction L generalizing i with
  | nil => simp at h
  | cons d L ih =>
    have e : flat (d :: L) = d.vals ++ flat L := by simp [flat]
    rw [e]
    cases i with
    | zero =>
      simp at h; subst h
      have hj : j < 7 := by
        have := (List.getElem?_eq_some_iff.1 hv).1
        simpa using this
      rw [List.getElem?_append_left (by simpa using hj)]
      simpa using hv
    | succ i =>
      rw [List.getElem?_append_right (by simp; omega)]
      have e2 : (i + 1) * 7 + j - d.vals.length = i * 7 + j := by simp; omega
      rw [e2]
      exact ih i (by simpa using h)
theorem row_cel {w : World} {base g n cap : Nat} {L : List Cel} {t : TypeId} (h : w.ownsRow base t 7 (.slice (some ⟨g, 0, none⟩) n cap) n (flat L)) (i : Nat) (c : Cel) (hi : L[i]? = some c) : CelAt w g (i * 7) c := by
  obtain ⟨hl, h | ⟨g', cap', cur, hv, hb, hg, hn, hm, hs, ht⟩⟩ := h
  · simp at h
  · simp at hv
    obtain ⟨rfl, rfl⟩ := hv
    have key : ∀ j v, c.vals[j]? = some v → w.cell? ⟨g, i * 7 + j, none⟩ = some v := by
      intro j v hjv
      rw [cell_of_block hg]
      have := flat_at L i c hi j v hjv
      rw [← ht] at this
      have hlt := (List.getElem?_eq_some_iff.1 this).1
      rw [List.getElem?_take_of_lt (by simp at hlt; omega)] at this
      simpa using this
    exact ⟨key 0 _ rfl, key 1 _ rfl, key 2 _ rfl, key 3 _ rfl, key 4 _ rfl, key 5 _ rfl, key 6 _ rfl⟩
theorem row_free {w : World} {base g n cap : Nat} {xs : List Value} {t : TypeId} (h : w.ownsRow base t 7 (.slice (some ⟨g, 0, none⟩) n cap) n xs) (o : Nat) : w.frozen? ⟨g, o, none⟩ = false := by
  obtain ⟨hl, h | ⟨g', cap', cur, hv, hb, hg, hn, hm, hs, ht⟩⟩ := h
  · simp at h
  · simp at hv
    obtain ⟨rfl, rfl⟩ := hv
    exact frozen_of_block hg o
theorem row_ge {w : World} {base g n cap k : Nat} {xs : List Value} {t : TypeId} (h : w.ownsRow base t 7 (.slice (some ⟨g, 0, none⟩) n cap) k xs) : base ≤ g ∧ g < w.heap.size := h.lt g rfl
theorem one_vals (c : Cel) : ∀ u ∈ c.vals, u.oneCell' = true := by simp [Value.oneCell']
theorem row_same {w w' : World} {base : Nat} {v : Value} {n : Nat} {xs : List Value} {t : TypeId} (h : w.ownsRow base t 7 v n xs) (hb : ∀ g, v.ownBlock = some g → w'.heap[g]? = w.heap[g]?) : w'.ownsRow base t 7 v n xs := by
  obtain ⟨hl, h | ⟨g', cap', cur, rfl, hb', hg, rest⟩⟩ := h
  · exact ⟨hl, .inl h⟩
  · exact ⟨hl, .inr ⟨g', cap', cur, rfl, hb', by rw [hb g' rfl]; exact hg, rest⟩⟩
theorem heap_set_same {w : World} {b : Nat} {C : Array Value} {t : TypeId} {fr : Nat × Nat} (h : w.heap[b]? = some (.cells C t fr)) (o : Nat) (v : Value) : (w.setCell ⟨b, o, none⟩ v).heap[b]? = some (.cells (C.setIfInBounds o v) t fr) := by
  unfold World.setCell
  simp [Array.getElem?_modify, h]
theorem Keep.grown {F : Nat → Prop} {a w w' : World} {row : Option Nat} (h : Keep F a w) (hg : w.grownBy w' row) (hr : ∀ k, row = some k → k < a.heap.size → F k) : Keep F a w' :=
  ⟨hg.os.trans h.os, hg.tape.trans h.tape, hg.output.trans h.output, Nat.le_trans h.size hg.size, fun k hk hF =>
    (hg.block k (Nat.lt_of_lt_of_le hk h.size) (fun e => hF (hr k e.symm hk))).trans (h.block k hk hF)⟩
theorem row_slice {w : World} {base t n k : Nat} {xs : List Value} {v : Value} (h : w.ownsRow base t k v n xs) (hn : 1 ≤ n) : ∃ g cap, v = .slice (some ⟨g, 0, none⟩) n cap := by
  obtain ⟨_, ⟨_, h⟩ | ⟨g, cap, _, hv, _⟩⟩ := h
  · omega
  · exact ⟨g, cap, hv⟩
theorem heap_new' (w : World) (o : Obj) (b : Nat) (hb : b = w.heap.size) : (w.alloc o).heap[b]? = some o := by subst hb; exact heap_new w o
theorem cel_new' (w : World) (c : Cel) (q : Int) (h : c.p = q) (t : TypeId) : CelAt (w.alloc (.cells #[.int .i32 c.r, .int .i64 q, .int .i64 c.n.f, .int .i64 c.n.b, .bool c.n.bo, .bool c.n.un, .bool c.n.re] t)) w.heap.size 0 c := by
  subst h
  exact ⟨cell_of_block (heap_new w _) 0, cell_of_block (heap_new w _) 1, cell_of_block (heap_new w _) 2, cell_of_block (heap_new w _) 3, cell_of_block (heap_new w _) 4, cell_of_block (heap_new w _) 5, cell_of_block (heap_new w _) 6⟩
end Go.Proofs.YtjlfibhbfdckpaaDoor

/- copy of rows of cells. -/
namespace Go.Proofs.YtjlfibhbfdckpaaDoor
open Go.RowKit
def copyF (L M : Nat → Cel) (d s k : Nat) : Nat → Cel := fun i => if d ≤ i ∧ i < d + k then M (s + (i - d)) else L i
def rowOf (M : Nat → Cel) (s k : Nat) : List Cel := (List.range k).map (fun i => M (s + i))
theorem rowOf_length (M : Nat → Cel) (s k : Nat) : (rowOf M s k).length = k := by simp [rowOf]
theorem rowOf_at (M : Nat → Cel) (s k i : Nat) (h : i < k) : (rowOf M s k)[i]? = some (M (s + i)) := by simp [rowOf, h]
theorem vals_len (c : Cel) : c.vals.length = 7 := rfl
theorem flat_get (L : List Cel) (j : Nat) (v : Value) (h : (flat L)[j]? = some v) : ∃ c, L[j / 7]? = some c ∧ c.vals[j % 7]? = some v := by
  have hj : j < L.length * 7 := by
    rw [← flat_length]
    rcases Nat.lt_or_ge j (flat L).length with l | l
    · exact l
    · rw [List.getElem?_eq_none l] at h; simp at h
  have hd : j / 7 < L.length := by omega
  have hc : L[j / 7]? = some L[j / 7] := List.getElem?_eq_getElem hd
  have hm : j % 7 < L[j / 7].vals.length := by rw [vals_len]; omega
  refine ⟨_, hc, ?_⟩
  have := flat_at L (j / 7) _ hc (j % 7) _ (List.getElem?_eq_getElem hm)
  rw [show j / 7 * 7 + j % 7 = j by omega, h] at this
  rw [List.getElem?_eq_getElem hm]
  exact this.symm
theorem CelAt.get {w : World} {g o : Nat} {c : Cel} (h : CelAt w g o c) {j : Nat} {v : Value} (hv : c.vals[j]? = some v) : w.cell? ⟨g, o + j, none⟩ = some v := by
  obtain ⟨h0, h1, h2, h3, h4, h5, h6⟩ := h
  match j, hv with
  | 0, hv => simp at hv; subst hv; exact h0
  | 1, hv => simp at hv; subst hv; exact h1
  | 2, hv => simp at hv; subst hv; exact h2
  | 3, hv => simp at hv; subst hv; exact h3
  | 4, hv => simp at hv; subst hv; exact h4
  | 5, hv => simp at hv; subst hv; exact h5
  | 6, hv => simp at hv; subst hv; exact h6
  | j + 7, hv => simp at hv
theorem Flat.setCells {w : World} {g n : Nat} {L : Nat → Cel} (h : Flat w g n L) (M : Nat → Cel) (d s k : Nat) (hk : d + k ≤ n) : Flat (w.setCells g (d * 7) (flat (rowOf M s k))) g n (copyF L M d s k) := by
  have len : (flat (rowOf M s k)).length = k * 7 := by rw [flat_length, rowOf_length]
  have there : ∀ j, j < (flat (rowOf M s k)).length → (w.cell? ⟨g, d * 7 + j, none⟩).isSome = true := by
    intro j hj
    rw [len] at hj
    have c := h.cel (d + j / 7) (by omega)
    have hm : j % 7 < (L (d + j / 7)).vals.length := by rw [vals_len]; omega
    have := c.get (List.getElem?_eq_getElem hm)
    rw [show (d + j / 7) * 7 + j % 7 = d * 7 + j by omega] at this
    rw [this]; rfl
  refine ⟨fun i hi => ?_, fun o => by rw [World.frozen?_setCells]; exact h.free o⟩
  unfold copyF
  by_cases e : d ≤ i ∧ i < d + k
  · rw [if_pos e]
    have key : ∀ j (v : Value), j < 7 → (M (s + (i - d))).vals[j]? = some v → (w.setCells g (d * 7) (flat (rowOf M s k))).cell? ⟨g, i * 7 + j, none⟩ = some v := by
      intro j v hj hv
      have hl : (i - d) * 7 + j < (flat (rowOf M s k)).length := by rw [len]; omega
      have a := World.cell?_setCells_in g (flat (rowOf M s k)) (d * 7) w there ((i - d) * 7 + j) hl
      rw [show d * 7 + ((i - d) * 7 + j) = i * 7 + j by omega] at a
      rw [a, ← List.getElem?_eq_getElem hl]
      exact flat_at _ _ _ (rowOf_at M s k (i - d) (by omega)) j v hv
    exact ⟨key 0 _ (by omega) rfl, key 1 _ (by omega) rfl, key 2 _ (by omega) rfl, key 3 _ (by omega) rfl, key 4 _ (by omega) rfl, key 5 _ (by omega) rfl, key 6 _ (by omega) rfl⟩
  · rw [if_neg e]
    have key : ∀ j, j < 7 → (w.setCells g (d * 7) (flat (rowOf M s k))).cell? ⟨g, i * 7 + j, none⟩ = w.cell? ⟨g, i * 7 + j, none⟩ := fun j hj =>
      World.cell?_setCells_out g _ _ _ _ (fun _ _ => by rw [len]; simp; omega)
    have := h.cel i hi
    simp only [CelAt] at this ⊢
    rw [show i * 7 = i * 7 + 0 by omega, key 0 (by omega)]
    simp only [Nat.add_zero]
    rw [key 1 (by omega), key 2 (by omega), key 3 (by omega), key 4 (by omega), key 5 (by omega), key 6 (by omega)]
    exact this
theorem Keep.setCells {F : Nat → Prop} {a : World} (g : Nat) (hp : g < a.heap.size → F g) : ∀ (vs : List Value) (o : Nat) {b : World}, Keep F a b → Keep F a (b.setCells g o vs)
  | [], _, _, h => h
  | _ :: r, o, _, h => Keep.setCells g hp r (o + 1) (h.setCell ⟨g, o, none⟩ _ hp)
theorem flat_oneCell (L : List Cel) : ∀ v ∈ flat L, v.oneCell' = true := by
  intro v hv
  simp [flat] at hv
  obtain ⟨c, _, h⟩ := hv
  rcases h with h | h | h | h | h | h | h <;> (subst h; rfl)
theorem run_copy_cel {P : Program} (w : World) (dT sT ty elem : TypeId) (g gs n ns : Nat) (L M : Nat → Cel) (d s dLen dCap sLen sCap k : Nat)
    (hu : P.underlying dT = some (.slice elem)) (hs : (P.info? elem).map (·.size) = some 7) (hn : k = Nat.min sLen dLen) (hd : Flat w g n L) (hsrc : Flat w gs ns M) (h1 : d + k ≤ n) (h2 : s + k ≤ ns) :
    (Builtin.copy_ #[dT, sT] ty #[.slice (some ⟨g, d * 7, none⟩) dLen dCap, .slice (some ⟨gs, s * 7, none⟩) sLen sCap]).run P w = .ok (goInt k) (w.setCells g (d * 7) (flat (rowOf M s k))) := by
  have len : (flat (rowOf M s k)).length = k * 7 := by rw [flat_length, rowOf_length]
  have hl := run_loadCells_list (P := P) w ⟨gs, s * 7, none⟩ (flat (rowOf M s k)) (fun j v hv => by
    obtain ⟨c, hc, hv'⟩ := flat_get _ _ _ hv
    have hj : j / 7 < k := by
      rcases Nat.lt_or_ge (j / 7) (rowOf M s k).length with l | l
      · rwa [rowOf_length] at l
      · rw [List.getElem?_eq_none l] at hc; simp at hc
    rw [rowOf_at _ _ _ _ hj] at hc
    cases hc
    have := (hsrc.cel (s + j / 7) (by omega)).get hv'
    rw [show (s + j / 7) * 7 + j % 7 = s * 7 + j by omega] at this
    have e : (⟨gs, s * 7, none⟩ : Addr).add j = ⟨gs, s * 7 + j, none⟩ := by unfold Addr.add; split <;> simp_all
    rw [e]; exact this)
  have hst := run_storeCells_cells (P := P) g (d * 7) (flat (rowOf M s k)) 0 w (fun j hj => by
    rw [len] at hj
    have c := hd.cel (d + j / 7) (by omega)
    have hm : j % 7 < (L (d + j / 7)).vals.length := by rw [vals_len]; omega
    have := c.get (List.getElem?_eq_getElem hm)
    rw [show (d + j / 7) * 7 + j % 7 = d * 7 + 0 + j by omega] at this
    rw [this]; rfl) (fun j _ => hd.free _) (flat_oneCell _)
  rw [len] at hl
  cases hq : P.info? elem with
  | none => simp [hq] at hs
  | some i =>
    have hi : i.size = 7 := by simpa [hq] using hs
    simp [Builtin.copy_, run_underlying hu, Builtin.lenOf, Builtin.firstCells, sizeOf, typeInfo, hq, hi, ← hn, hl, hst]
end Go.Proofs.YtjlfibhbfdckpaaDoor
