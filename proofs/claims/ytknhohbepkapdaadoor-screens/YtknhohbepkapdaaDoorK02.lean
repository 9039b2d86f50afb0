/- Texts of the proof, one behind the other: PgA, Gr, Gr2, PgB. -/
import Derived.Test.YtknhohbepkapdaaDoorK01
import Derived.Test.YtknhohbepkapdaaDoorChecked
import Derived.WalkSpells
import Derived.WalkLawsBesides
import Derived.Deep.RegionHeld3
import Derived.Deep.DrawnRows
/- The program's bounds. -/
namespace Go.Proofs.YtknhohbepkapdaaDoor
open Go.RowKit
def leastI (a b : Int) : Int := if b < a then b else a
def greatestI (a b : Int) : Int := if a < b then b else a
def betweenI (n lo hi : Int) : Int := greatestI lo (leastI n hi)
theorem pLeast (a b : Int) (w : World) :
    Calls Tryd.prog 66 #[.int .i64 a, .int .i64 b] w fun e w' => e = .returned (.int .i64 (leastI a b)) ∧ w' = w := by
  by_cases h : b < a
  · rw [show leastI a b = b from if_pos h]
    go_enter Tryd.func66, Tryd.ntmps66
    go_wp2
    go_ret
    exact ⟨rfl, rfl⟩
  · rw [show leastI a b = a from if_neg h]
    go_enter Tryd.func66, Tryd.ntmps66
    go_wp2
    go_ret
    exact ⟨rfl, rfl⟩
theorem pGreatest (a b : Int) (w : World) :
    Calls Tryd.prog 90 #[.int .i64 a, .int .i64 b] w fun e w' => e = .returned (.int .i64 (greatestI a b)) ∧ w' = w := by
  by_cases h : a < b
  · rw [show greatestI a b = b from if_pos h]
    go_enter Tryd.func90, Tryd.ntmps90
    go_wp2
    go_ret
    exact ⟨rfl, rfl⟩
  · rw [show greatestI a b = a from if_neg h]
    go_enter Tryd.func90, Tryd.ntmps90
    go_wp2
    go_ret
    exact ⟨rfl, rfl⟩
theorem pBetween (n lo hi : Int) (w : World) :
    Calls Tryd.prog 69 #[.int .i64 n, .int .i64 lo, .int .i64 hi] w fun e w' => e = .returned (.int .i64 (betweenI n lo hi)) ∧ w' = w := by
  go_enter Tryd.func69, Tryd.ntmps69
  go_wp2_with (first | (go_at_call 66; refine (pLeast _ _ _).mono ?_; rintro e w' ⟨rfl, rfl⟩) | (go_at_call 90; refine (pGreatest _ _ _).mono ?_; rintro e w' ⟨rfl, rfl⟩))
  go_ret
  exact ⟨rfl, rfl⟩
theorem pWithin (n a b : Int) (w : World) :
    Calls Tryd.prog 43 #[.int .i64 n, .int .i64 a, .int .i64 b] w fun e w' => e = .returned (.bool (Wd.inB n a b)) ∧ w' = w := by
  by_cases h1 : a ≤ n <;> by_cases h2 : n ≤ b
  all_goals
    go_enter Tryd.func43, Tryd.ntmps43
    go_wp2
    go_ret
    exact ⟨by simp [Wd.inB, h1, h2], rfl⟩
theorem pWithinByte (n a b : Int) (w : World) :
    Calls Tryd.prog 80 #[.int .u8 n, .int .u8 a, .int .u8 b] w fun e w' => e = .returned (.bool (Wd.inB n a b)) ∧ w' = w := by
  by_cases h1 : a ≤ n <;> by_cases h2 : n ≤ b
  all_goals
    go_enter Tryd.func80, Tryd.ntmps80
    go_wp2
    go_ret
    exact ⟨by simp [Wd.inB, h1, h2], rfl⟩
end Go.Proofs.YtknhohbepkapdaaDoor

/- Grids of cells: plain mathematics. -/
namespace Go.Proofs.YtknhohbepkapdaaDoor
open Wd (wd)
/-- Is there such a cell? -/
def inG (W H : Nat) (x y : Int) : Bool := decide (0 ≤ x) && decide (x < W) && decide (0 ≤ y) && decide (y < H)
theorem inG_iff {W H : Nat} {x y : Int} : inG W H x y = true ↔ 0 ≤ x ∧ x < W ∧ 0 ≤ y ∧ y < H := by simp [inG, and_assoc]
/-- A cell is another one; its other half, if it has one, is broken. -/
def setG (W H : Nat) (G : Nat → Nat → Cel) (x y : Int) (k : Cel) : Nat → Nat → Cel :=
  if inG W H x y = true then
    upd (if (G x.toNat y.toNat).p = 1 then upd G (x.toNat + 1) y.toNat (blk (G x.toNat y.toNat).n) else if (G x.toNat y.toNat).p = 2 then upd G (x.toNat - 1) y.toNat (blk (G x.toNat y.toNat).n) else G) x.toNat y.toNat k
  else G
/-- What a grid is: heads have tails, tails heads, letters are of their width. -/
structure Wf (W H : Nat) (G : Nat → Nat → Cel) : Prop where
  part : ∀ x y, x < W → y < H → ((G x y).p = 0 ∧ wd (G x y).r = 1) ∨ ((G x y).p = 1 ∧ wd (G x y).r = 2) ∨ ((G x y).p = 2 ∧ wd (G x y).r = 2)
  head : ∀ x y, x < W → y < H → (G x y).p = 1 → x + 1 < W ∧ G (x + 1) y = ⟨(G x y).r, 2, (G x y).n⟩
  tail : ∀ x y, x < W → y < H → (G x y).p = 2 → 1 ≤ x ∧ G (x - 1) y = ⟨(G x y).r, 1, (G x y).n⟩
/-- The cells of P are written; halves that lose their other half are broken. -/
def wrt (G : Nat → Nat → Cel) (P : Nat → Nat → Bool) (v : Nat → Nat → Cel) : Nat → Nat → Cel := fun a b =>
  if P a b = true then v a b else if ((G a b).p = 1 ∧ P (a + 1) b = true) ∨ ((G a b).p = 2 ∧ 1 ≤ a ∧ P (a - 1) b = true) then blk (G a b).n else G a b
/-- One cell. -/
def pt (x y : Nat) : Nat → Nat → Bool := fun a b => decide (a = x) && decide (b = y)
theorem pt_iff {x y a b : Nat} : pt x y a b = true ↔ a = x ∧ b = y := by simp [pt]
def EqOn (W H : Nat) (G K : Nat → Nat → Cel) : Prop := ∀ x y, x < W → y < H → G x y = K x y
theorem EqOn.symm {W H : Nat} {G K : Nat → Nat → Cel} (h : EqOn W H G K) : EqOn W H K G := fun x y hx hy => (h x y hx hy).symm
theorem EqOn.trans {W H : Nat} {G K L : Nat → Nat → Cel} (h : EqOn W H G K) (k : EqOn W H K L) : EqOn W H G L := fun x y hx hy => (h x y hx hy).trans (k x y hx hy)
theorem Cels.congr {w : World} {bc g cap W H N : Nat} {G K : Nat → Nat → Cel} (h : Cels w bc g cap W H N G) (e : EqOn W H G K) : Cels w bc g cap W H N K :=
  ⟨h.blk, ⟨fun x y hx hy => by rw [← e x y hx hy]; exact h.grid.cel x y hx hy, h.grid.free⟩, h.hN, h.ne, h.w1, h.w2, h.h1, h.h2⟩
theorem Wf.congr {W H : Nat} {G K : Nat → Nat → Cel} (h : Wf W H G) (e : EqOn W H G K) : Wf W H K := by
  refine ⟨fun x y hx hy => ?_, fun x y hx hy hp => ?_, fun x y hx hy hp => ?_⟩
  · rw [← e x y hx hy]; exact h.part x y hx hy
  · rw [← e x y hx hy] at hp ⊢
    obtain ⟨a, b⟩ := h.head x y hx hy hp
    exact ⟨a, by rw [← e _ _ a hy]; exact b⟩
  · rw [← e x y hx hy] at hp ⊢
    obtain ⟨a, b⟩ := h.tail x y hx hy hp
    exact ⟨a, by rw [← e _ _ (by omega) hy]; exact b⟩
theorem wd_32 : wd 32 = 1 := by decide
theorem blk_p (n : Pn) : (blk n).p = 0 := rfl
theorem blk_r (n : Pn) : (blk n).r = 32 := rfl
theorem blk_n (n : Pn) : (blk n).n = n := rfl
/-- Writing twice. -/
theorem wr_wr (G : Nat → Nat → Cel) (P Q : Nat → Nat → Bool) (v u : Nat → Nat → Cel) (hv : ∀ a b, P a b = true → Q a b = false → (v a b).p = 0) :
    wrt (wrt G P v) Q u = wrt G (fun a b => P a b || Q a b) (fun a b => if Q a b = true then u a b else v a b) := by
  funext a b
  unfold wrt
  by_cases hQ : Q a b = true
  · simp [hQ]
  · have hQ' : Q a b = false := by simpa using hQ
    by_cases hP : P a b = true
    · have := hv a b hP hQ'
      simp [hQ', hP, this]
    · have hP' : P a b = false := by simpa using hP
      simp only [hQ', hP', Bool.false_eq_true, if_false, Bool.or_false, Bool.or_eq_true]
      by_cases h1 : ((G a b).p = 1 ∧ P (a + 1) b = true) ∨ ((G a b).p = 2 ∧ 1 ≤ a ∧ P (a - 1) b = true)
      · rw [if_pos h1]
        have h2 : ((G a b).p = 1 ∧ (P (a + 1) b = true ∨ Q (a + 1) b = true)) ∨ ((G a b).p = 2 ∧ 1 ≤ a ∧ (P (a - 1) b = true ∨ Q (a - 1) b = true)) := by
          rcases h1 with ⟨p, q⟩ | ⟨p, q, r⟩
          · exact .inl ⟨p, .inl q⟩
          · exact .inr ⟨p, q, .inl r⟩
        rw [if_pos h2]
        simp [blk]
      · rw [if_neg h1]
        by_cases h3 : ((G a b).p = 1 ∧ Q (a + 1) b = true) ∨ ((G a b).p = 2 ∧ 1 ≤ a ∧ Q (a - 1) b = true)
        · have h2 : ((G a b).p = 1 ∧ (P (a + 1) b = true ∨ Q (a + 1) b = true)) ∨ ((G a b).p = 2 ∧ 1 ≤ a ∧ (P (a - 1) b = true ∨ Q (a - 1) b = true)) := by
            rcases h3 with ⟨p, q⟩ | ⟨p, q, r⟩
            · exact .inl ⟨p, .inr q⟩
            · exact .inr ⟨p, q, .inr r⟩
          rw [if_pos h3, if_pos h2]
        · have h2 : ¬ (((G a b).p = 1 ∧ (P (a + 1) b = true ∨ Q (a + 1) b = true)) ∨ ((G a b).p = 2 ∧ 1 ≤ a ∧ (P (a - 1) b = true ∨ Q (a - 1) b = true))) := by
            rintro (⟨p, q | q⟩ | ⟨p, q, r | r⟩)
            · exact h1 (.inl ⟨p, q⟩)
            · exact h3 (.inl ⟨p, q⟩)
            · exact h1 (.inr ⟨p, q, r⟩)
            · exact h3 (.inr ⟨p, q, r⟩)
          rw [if_neg h3, if_neg h2]
/-- Written cells that make whole letters keep a grid one. -/
theorem Wf.wr_of {W H : Nat} {G : Nat → Nat → Cel} (h : Wf W H G) {P : Nat → Nat → Bool} {v : Nat → Nat → Cel}
    (hp : ∀ x y, x < W → y < H → P x y = true → ((v x y).p = 0 ∧ wd (v x y).r = 1) ∨ ((v x y).p = 1 ∧ wd (v x y).r = 2) ∨ ((v x y).p = 2 ∧ wd (v x y).r = 2))
    (hh : ∀ x y, x < W → y < H → P x y = true → (v x y).p = 1 → x + 1 < W ∧ P (x + 1) y = true ∧ v (x + 1) y = ⟨(v x y).r, 2, (v x y).n⟩)
    (ht : ∀ x y, x < W → y < H → P x y = true → (v x y).p = 2 → 1 ≤ x ∧ P (x - 1) y = true ∧ v (x - 1) y = ⟨(v x y).r, 1, (v x y).n⟩) : Wf W H (wrt G P v) := by
  refine ⟨fun x y hx hy => ?_, fun x y hx hy hq => ?_, fun x y hx hy hq => ?_⟩
  · unfold Go.Proofs.YtknhohbepkapdaaDoor.wrt
    split
    · exact hp x y hx hy ‹_›
    · split
      · exact .inl ⟨rfl, wd_32⟩
      · exact h.part x y hx hy
  · unfold Go.Proofs.YtknhohbepkapdaaDoor.wrt at hq ⊢
    by_cases hP : P x y = true
    · rw [if_pos hP] at hq ⊢
      obtain ⟨a, b, c⟩ := hh x y hx hy hP hq
      exact ⟨a, by rw [if_pos b]; exact c⟩
    · rw [if_neg hP] at hq ⊢
      split at hq
      · simp [blk] at hq
      · rename_i hn
        rw [if_neg hn]
        obtain ⟨a, b⟩ := h.head x y hx hy hq
        have hP1 : ¬ P (x + 1) y = true := fun e => hn (.inl ⟨hq, e⟩)
        refine ⟨a, ?_⟩
        rw [if_neg hP1, if_neg, b]
        rw [b]
        simp [hP]
  · unfold Go.Proofs.YtknhohbepkapdaaDoor.wrt at hq ⊢
    by_cases hP : P x y = true
    · rw [if_pos hP] at hq ⊢
      obtain ⟨a, b, c⟩ := ht x y hx hy hP hq
      exact ⟨a, by rw [if_pos b]; exact c⟩
    · rw [if_neg hP] at hq ⊢
      split at hq
      · simp [blk] at hq
      · rename_i hn
        rw [if_neg hn]
        obtain ⟨a, b⟩ := h.tail x y hx hy hq
        have hP1 : ¬ P (x - 1) y = true := fun e => hn (.inr ⟨hq, a, e⟩)
        refine ⟨a, ?_⟩
        have e1 : x - 1 + 1 = x := by omega
        rw [if_neg hP1, if_neg, b]
        rw [b, e1]
        simp [hP]
/-- Whole cells alone. -/
theorem Wf.wrWhole {W H : Nat} {G : Nat → Nat → Cel} (h : Wf W H G) {P : Nat → Nat → Bool} {v : Nat → Nat → Cel} (hv : ∀ x y, x < W → y < H → P x y = true → (v x y).p = 0 ∧ wd (v x y).r = 1) : Wf W H (wrt G P v) :=
  h.wr_of (fun x y hx hy hP => .inl (hv x y hx hy hP)) (fun x y hx hy hP h1 => by have := (hv x y hx hy hP).1; omega) (fun x y hx hy hP h1 => by have := (hv x y hx hy hP).1; omega)
/-- The document's set is a writing of one cell. -/
theorem setG_wr {W H : Nat} {G : Nat → Nat → Cel} (h : Wf W H G) {x y : Nat} (hx : x < W) (hy : y < H) (k : Cel) : EqOn W H (setG W H G x y k) (wrt G (pt x y) (fun _ _ => k)) := by
  intro a b ha hb
  have hin : inG W H x y = true := inG_iff.2 (by omega)
  unfold setG wrt
  rw [if_pos hin]
  simp only [Int.toNat_natCast, pt_iff]
  unfold upd
  by_cases e : a = x ∧ b = y
  · rw [if_pos e, if_pos e]
  · rw [if_neg e, if_neg e]
    by_cases p1 : (G x y).p = 1
    · obtain ⟨q1, q2⟩ := h.head x y hx hy p1
      rw [if_pos p1]
      by_cases e2 : a = x + 1 ∧ b = y
      · obtain ⟨rfl, rfl⟩ := e2
        rw [if_pos ⟨rfl, rfl⟩, if_pos (.inr ⟨by rw [q2], by omega, by omega, rfl⟩), q2]
      · rw [if_neg e2, if_neg]
        rintro (⟨r1, r2, r3⟩ | ⟨r1, r2, r3, r4⟩)
        · subst r3
          obtain ⟨s1, s2⟩ := h.head a b ha hb r1
          rw [r2] at s2
          rw [s2] at p1
          exact absurd p1 (by simp)
        · exact e2 ⟨by omega, r4⟩
    · rw [if_neg p1]
      by_cases p2 : (G x y).p = 2
      · obtain ⟨q1, q2⟩ := h.tail x y hx hy p2
        rw [if_pos p2]
        by_cases e2 : a = x - 1 ∧ b = y
        · obtain ⟨rfl, rfl⟩ := e2
          rw [if_pos ⟨rfl, rfl⟩, if_pos (.inl ⟨by rw [q2], by omega, rfl⟩), q2]
        · rw [if_neg e2, if_neg]
          rintro (⟨r1, r2, r3⟩ | ⟨r1, r2, r3, r4⟩)
          · exact e2 ⟨by omega, r3⟩
          · subst r4
            obtain ⟨s1, s2⟩ := h.tail a b ha hb r1
            rw [r3] at s2
            rw [s2] at p2
            exact absurd p2 (by simp)
      · rw [if_neg p2, if_neg]
        rintro (⟨r1, r2, r3⟩ | ⟨r1, r2, r3, r4⟩)
        · subst r3
          obtain ⟨s1, s2⟩ := h.head a b ha hb r1
          rw [r2] at s2
          rw [s2] at p2
          exact p2 rfl
        · subst r4
          obtain ⟨s1, s2⟩ := h.tail a b ha hb r1
          rw [r3] at s2
          rw [s2] at p1
          exact p1 rfl
theorem Wf.half {W H : Nat} {G : Nat → Nat → Cel} (h : Wf W H G) (x y : Int) : inG W H x y = true → ((G x.toNat y.toNat).p = 1 → x + 1 < W) ∧ ((G x.toNat y.toNat).p = 2 → 1 ≤ x) := by
  intro hin
  obtain ⟨a, b, c, d⟩ := inG_iff.1 hin
  refine ⟨fun hp => ?_, fun hp => ?_⟩
  · have := (h.head x.toNat y.toNat (by omega) (by omega) hp).1; omega
  · have := (h.tail x.toNat y.toNat (by omega) (by omega) hp).1; omega
/-- The cells of a line from one column to another (not that one). -/
def rg (f t : Int) (y : Nat) : Nat → Nat → Bool := fun a b => decide (b = y) && decide (f ≤ a) && decide ((a : Int) < t)
theorem rg_iff {f t : Int} {y a b : Nat} : rg f t y a b = true ↔ b = y ∧ f ≤ a ∧ (a : Int) < t := by simp [rg, and_assoc]
theorem wr_congr {G : Nat → Nat → Cel} {P Q : Nat → Nat → Bool} {v : Nat → Nat → Cel} (h : ∀ a b, P a b = Q a b) : wrt G P v = wrt G Q v := by
  have : P = Q := by funext a b; exact h a b
  rw [this]
theorem wr_none (G : Nat → Nat → Cel) (P : Nat → Nat → Bool) (v : Nat → Nat → Cel) (h : ∀ a b, P a b = false) : wrt G P v = G := by
  funext a b; simp [wrt, h]
theorem wr_blk_next (G : Nat → Nat → Cel) (f t : Int) (x y : Nat) (n : Pn) (h1 : f ≤ x) (h2 : (x : Int) < t) :
    wrt (wrt G (fun a b => rg f t y a b && decide (a < x)) (fun _ _ => blk n)) (pt x y) (fun _ _ => blk n) = wrt G (fun a b => rg f t y a b && decide (a < x + 1)) (fun _ _ => blk n) := by
  rw [wr_wr _ _ _ _ _ (fun _ _ _ _ => rfl)]
  have e : (fun a b => if pt x y a b = true then blk n else blk n) = fun (_ _ : Nat) => blk n := by funext a b; simp
  rw [e]
  refine wr_congr fun a b => ?_
  rw [Bool.eq_iff_iff]
  simp [rg, pt]
  omega
theorem Wf.blk {W H : Nat} {G : Nat → Nat → Cel} (h : Wf W H G) (P : Nat → Nat → Bool) (n : Pn) : Wf W H (wrt G P (fun _ _ => blk n)) :=
  h.wrWhole (fun _ _ _ _ _ => ⟨rfl, wd_32⟩)
end Go.Proofs.YtknhohbepkapdaaDoor

/- Grids of cells: more plain mathematics. -/
namespace Go.Proofs.YtknhohbepkapdaaDoor
open Wd (wd)
/-- What is written outside the grid does not matter. -/
theorem wr_dom {W H : Nat} {G : Nat → Nat → Cel} (h : Wf W H G) {P Q : Nat → Nat → Bool} {v u : Nat → Nat → Cel} (e : ∀ a b, a < W → b < H → P a b = Q a b) (ev : ∀ a b, a < W → b < H → P a b = true → v a b = u a b) : EqOn W H (wrt G P v) (wrt G Q u) := by
  intro a b ha hb
  unfold wrt
  rw [e a b ha hb]
  by_cases hQ : Q a b = true
  · rw [if_pos hQ, if_pos hQ]; exact ev a b ha hb (by rw [e a b ha hb]; exact hQ)
  · rw [if_neg hQ, if_neg hQ]
    have c : (((G a b).p = 1 ∧ P (a + 1) b = true) ∨ ((G a b).p = 2 ∧ 1 ≤ a ∧ P (a - 1) b = true)) ↔ (((G a b).p = 1 ∧ Q (a + 1) b = true) ∨ ((G a b).p = 2 ∧ 1 ≤ a ∧ Q (a - 1) b = true)) := by
      constructor
      · rintro (⟨p, q⟩ | ⟨p, q, r⟩)
        · exact .inl ⟨p, by rw [← e _ _ (h.head a b ha hb p).1 hb]; exact q⟩
        · exact .inr ⟨p, q, by rw [← e _ _ (by omega) hb]; exact r⟩
      · rintro (⟨p, q⟩ | ⟨p, q, r⟩)
        · exact .inl ⟨p, by rw [e _ _ (h.head a b ha hb p).1 hb]; exact q⟩
        · exact .inr ⟨p, q, by rw [e _ _ (by omega) hb]; exact r⟩
    by_cases hc : ((G a b).p = 1 ∧ P (a + 1) b = true) ∨ ((G a b).p = 2 ∧ 1 ≤ a ∧ P (a - 1) b = true)
    · rw [if_pos hc, if_pos (c.1 hc)]
    · rw [if_neg hc, if_neg (fun x => hc (c.2 x))]
/-- The document's write. -/
def writeG (W H : Nat) (G : Nat → Nat → Cel) (x y : Int) (r : Int) (n : Pn) : Nat → Nat → Cel :=
  if wd r = 1 then setG W H G x y ⟨r, 0, n⟩
  else if inG W H x y = true ∧ inG W H (x + 1) y = true then upd (upd (setG W H (setG W H G x y (blk n)) (x + 1) y (blk n)) x.toNat y.toNat ⟨r, 1, n⟩) (x.toNat + 1) y.toNat ⟨r, 2, n⟩
  else setG W H (setG W H G x y (blk n)) (x + 1) y (blk n)
theorem Wf.set {W H : Nat} {G : Nat → Nat → Cel} (h : Wf W H G) (x y : Int) (k : Cel) (hp : k.p = 0) (hr : wd k.r = 1) : Wf W H (setG W H G x y k) := by
  cases hin : inG W H x y with
  | false => simp [setG, hin]; exact h
  | true =>
    obtain ⟨a, b, c, d⟩ := inG_iff.1 hin
    obtain ⟨x, rfl⟩ := Int.eq_ofNat_of_zero_le a
    obtain ⟨y, rfl⟩ := Int.eq_ofNat_of_zero_le c
    exact (h.wrWhole (P := pt x y) (v := fun _ _ => k) (fun _ _ _ _ _ => ⟨hp, hr⟩)).congr (setG_wr h (by omega) (by omega) k).symm
theorem Wf.setBlk {W H : Nat} {G : Nat → Nat → Cel} (h : Wf W H G) (x y : Int) (n : Pn) : Wf W H (setG W H G x y (Go.Proofs.YtknhohbepkapdaaDoor.blk n)) := h.set x y _ rfl wd_32
theorem EqOn.upd {W H : Nat} {G K : Nat → Nat → Cel} (h : EqOn W H G K) (x y : Nat) (c : Cel) : EqOn W H (upd G x y c) (upd K x y c) := fun a b ha hb => by
  unfold Go.Proofs.YtknhohbepkapdaaDoor.upd; split
  · rfl
  · exact h a b ha hb
theorem upd_wrt (G : Nat → Nat → Cel) (P : Nat → Nat → Bool) (v : Nat → Nat → Cel) (x y : Nat) (c : Cel) (hP : P x y = true) : upd (wrt G P v) x y c = wrt G P (upd v x y c) := by
  funext a b
  unfold upd wrt
  by_cases e : a = x ∧ b = y
  · obtain ⟨rfl, rfl⟩ := e; simp [hP]
  · simp [e]
theorem writeG_one {W H : Nat} {G : Nat → Nat → Cel} (h : Wf W H G) {x y : Nat} (hx : x < W) (hy : y < H) (r : Int) (n : Pn) (hr : wd r = 1) : EqOn W H (writeG W H G x y r n) (wrt G (pt x y) (fun _ _ => ⟨r, 0, n⟩)) := by
  unfold writeG; rw [if_pos hr]; exact setG_wr h hx hy _
/-- Two cells beside one another. -/
def pt2 (x y : Nat) : Nat → Nat → Bool := fun a b => pt x y a b || pt (x + 1) y a b
def wide (x : Nat) (r : Int) (n : Pn) : Nat → Nat → Cel := fun a _ => if a = x then ⟨r, 1, n⟩ else ⟨r, 2, n⟩
theorem writeG_two {W H : Nat} {G : Nat → Nat → Cel} (h : Wf W H G) {x y : Nat} (hx : x + 1 < W) (hy : y < H) (r : Int) (n : Pn) (hr : wd r = 2) : EqOn W H (writeG W H G x y r n) (wrt G (pt2 x y) (wide x r n)) := by
  have i1 : inG W H x y = true := inG_iff.2 (by omega)
  have i2 : inG W H ((x : Int) + 1) y = true := inG_iff.2 (by omega)
  unfold writeG
  rw [if_neg (by omega), if_pos ⟨i1, i2⟩]
  simp only [Int.toNat_natCast]
  have h1 := setG_wr h (x := x) (y := y) (by omega) hy (Go.Proofs.YtknhohbepkapdaaDoor.blk n)
  have w1 : Wf W H (setG W H G x y (Go.Proofs.YtknhohbepkapdaaDoor.blk n)) := h.setBlk _ _ _
  have h2 := setG_wr w1 (x := x + 1) (y := y) hx hy (Go.Proofs.YtknhohbepkapdaaDoor.blk n)
  have e2 : EqOn W H (wrt (setG W H G x y (Go.Proofs.YtknhohbepkapdaaDoor.blk n)) (pt (x + 1) y) (fun _ _ => Go.Proofs.YtknhohbepkapdaaDoor.blk n)) (wrt (wrt G (pt x y) (fun _ _ => Go.Proofs.YtknhohbepkapdaaDoor.blk n)) (pt (x + 1) y) (fun _ _ => Go.Proofs.YtknhohbepkapdaaDoor.blk n)) := by
    intro a b ha hb
    unfold wrt
    have := h1 a b ha hb
    unfold wrt at this
    rw [this]
  rw [wr_wr _ _ _ _ _ (fun _ _ _ _ => rfl)] at e2
  have e3 := ((h2.trans e2).upd x y ⟨r, 1, n⟩).upd (x + 1) y ⟨r, 2, n⟩
  rw [upd_wrt _ _ _ _ _ _ (by simp [pt]), upd_wrt _ _ _ _ _ _ (by simp [pt])] at e3
  refine e3.trans (wr_dom h (fun _ _ _ _ => rfl) (fun a b _ _ hp => ?_))
  simp [pt] at hp
  unfold upd wide
  rcases hp with ⟨rfl, rfl⟩ | ⟨rfl, rfl⟩
  · simp
  · simp
theorem Wf.wide {W H : Nat} {G : Nat → Nat → Cel} (h : Wf W H G) {x y : Nat} (hx : x + 1 < W) (r : Int) (n : Pn) (hr : wd r = 2) : Wf W H (wrt G (pt2 x y) (Go.Proofs.YtknhohbepkapdaaDoor.wide x r n)) := by
  refine h.wr_of (fun a b _ _ hp => ?_) (fun a b _ _ hp hq => ?_) (fun a b _ _ hp hq => ?_)
  · unfold Go.Proofs.YtknhohbepkapdaaDoor.wide; split
    · exact .inr (.inl ⟨rfl, hr⟩)
    · exact .inr (.inr ⟨rfl, hr⟩)
  · unfold Go.Proofs.YtknhohbepkapdaaDoor.wide at hq ⊢
    split at hq
    · subst a
      simp [pt2, pt] at hp ⊢
      exact ⟨hx, hp⟩
    · simp at hq
  · unfold Go.Proofs.YtknhohbepkapdaaDoor.wide at hq ⊢
    split at hq
    · simp at hq
    · simp [pt2, pt] at hp
      rename_i hne
      obtain ⟨rfl, rfl⟩ : a = x + 1 ∧ b = y := by omega
      simp [pt2, pt]
end Go.Proofs.YtknhohbepkapdaaDoor

/- The program's rows of cells: Blank, fill. -/
namespace Go.Proofs.YtknhohbepkapdaaDoor
open Go.RowKit
attribute [local go_sem ↓] Go.wp_at_zero Go.wp_at_succ
/-- n cells lie in block g, one behind the other. -/
structure Flat (w : World) (g n : Nat) (L : Nat → Cel) : Prop where
  cel : ∀ i, i < n → CelAt w g (i * 7) (L i)
  free : ∀ o, w.frozen? ⟨g, o, none⟩ = false
def updF (L : Nat → Cel) (i : Nat) (c : Cel) : Nat → Cel := fun j => if j = i then c else L j
theorem Flat.same {w w' : World} {g n : Nat} {L : Nat → Cel} (h : Flat w g n L) (hb : w'.heap[g]? = w.heap[g]?) : Flat w' g n L :=
  ⟨fun i hi => (h.cel i hi).same hb, fun o => by rw [frozen_same hb]; exact h.free o⟩
theorem Flat.congr {w : World} {g n : Nat} {L M : Nat → Cel} (h : Flat w g n L) (e : ∀ i, i < n → L i = M i) : Flat w g n M :=
  ⟨fun i hi => by rw [← e i hi]; exact h.cel i hi, h.free⟩
theorem Flat.put {w : World} {g n : Nat} {L : Nat → Cel} (h : Flat w g n L) {i : Nat} (hi : i < n) (c : Cel) : Flat (put7 w g (i * 7) c) g n (updF L i c) := by
  refine ⟨fun j hj => ?_, fun o => ?_⟩
  · unfold updF
    by_cases e : j = i
    · subst e; rw [if_pos rfl]; exact put7_at (h.cel _ hj)
    · rw [if_neg e]
      have := h.cel j hj
      simp only [CelAt] at this ⊢
      rw [put7_far (by omega), put7_far (by omega), put7_far (by omega), put7_far (by omega), put7_far (by omega), put7_far (by omega), put7_far (by omega)]
      exact this
  · unfold put7; simp only [set_frozen]; exact h.free o
theorem Flat.lt {w : World} {g n : Nat} {L : Nat → Cel} (h : Flat w g n L) (hn : 0 < n) : g < w.heap.size := (h.cel 0 hn).lt
def fillF (L : Nat → Cel) (a k : Nat) (p : Pn) : Nat → Cel := fun i => if a ≤ i ∧ i < a + k then blk p else L i
theorem pBlank (n : Pn) (w : World) :
    Calls Tryd.prog 91 #[n.agg] w fun e w' => e = .returned (blk n).agg ∧ Below w.heap.size w w' := by
  go_enter Tryd.func91, Tryd.ntmps91
  go_wp2
  exact bodyPost_ret (v := (blk n).agg) (by simp [results, Tryd.results91, go_sem, blk]) rfl ⟨rfl, ((Below.refl _ _).alloc (Nat.le_refl _) _).alloc (by simp) _⟩
set_option maxHeartbeats 2000000 in
theorem pFill (g n a k cap : Nat) (av : Option Addr) (L : Nat → Cel) (p : Pn) (w : World) (h : Flat w g n L) (hav : 0 < k → av = some ⟨g, a * 7, none⟩) (hk : a + k ≤ n) (hn : n ≤ 800) (hn0 : 0 < n) :
    Calls Tryd.prog 70 #[.slice av k cap, p.agg] w fun e w' => e = .returned (.tuple #[]) ∧ Flat w' g n (fillF L a k p) ∧ Keep (fun i => i = g) w w' := by
  have HF : Hid (Flat w g n L) := h
  have gb := h.lt hn0
  have Hav : Hid (0 < k → av = some ⟨g, a * 7, none⟩) := hav
  clear h hav
  go_enter Tryd.func70, Tryd.ntmps70
  go_wp2_with fail
  have hb0 : Below w.heap.size w (w.alloc (.cells #[.int .i64 p.f, .int .i64 p.b, .bool p.bo, .bool p.un, .bool p.re] 44)) := (Below.refl _ _).alloc (Nat.le_refl _) _
  go_loopw [7] (fun i w' => ∃ j : Nat, j ≤ k ∧ i = .int .i64 j ∧ Flat w' g n (fillF L a j p) ∧ Keep (fun i => i = g) w w' ∧ PenAt w' w.heap.size 0 p) (fun i _ => k - (intOf i).toNat)
  case atStart => exact ⟨0, by omega, rfl, (HF.out.same (hb0.block _ gb)).congr (fun i _ => by unfold fillF; rw [if_neg (by omega)]), Keep.below _ hb0, pen_new _ _ _⟩
  case round =>
    obtain ⟨j, hj, rfl, hF, hK, hP⟩ := hrel
    have HF1 : Hid (Flat wr g n (fillF L a j p)) := hF
    by_cases hlt : j < k
    · have hav := Hav.out (by omega)
      subst hav
      obtain ⟨p0, p1, p2, p3, p4⟩ := hP
      have hlt' : (j : Int) < (k : Int) := by omega
      have Hoff : Hid ((a + j) * 7 = a * 7 + j * 7) := by show (a + j) * 7 = a * 7 + j * 7; omega
      clear hF HF
      obtain ⟨ao, hao⟩ : ∃ ao, a * 7 = ao := ⟨_, rfl⟩
      rw [hao]
      rw [hao] at Hoff
      go_wp2_with fail
      go_at_call 91
      refine (pBlank p _).mono ?_
      rintro e w3 ⟨rfl, hb3⟩
      have F3 : Flat w3 g n (fillF L a j p) := HF1.out.same (hb3.block _ (HF1.out.lt hn0))
      have P3 : PenAt w3 w.heap.size 0 p := PenAt.same ⟨p0, p1, p2, p3, p4⟩ (hb3.block _ (PenAt.lt ⟨p0, p1, p2, p3, p4⟩))
      have K3 := hK.thenBelow hb3
      have tg := F3.cel (a + j) (by omega)
      rw [Hoff.out] at tg
      obtain ⟨t0, t1, t2, t3, t4, t5, t6⟩ := tg
      have fr := F3.free
      have HF3 : Hid (Flat w3 g n (fillF L a j p)) := F3
      clear F3 hb3 p0 p1 p2 p3 p4 HF1 hK
      go_wp2_with fail
      have R := HF3.out.put (i := a + j) (by omega) (blk p)
      rw [Hoff.out] at R
      have P4 := P3.same (put7_other w3 g (ao + j * 7) w.heap.size (blk p) (by omega))
      have K4 := K3.put7 g (ao + j * 7) (blk p) (fun _ => rfl)
      generalize hW : put7 w3 g (ao + j * 7) (blk p) = w4 at *
      unfold put7 at hW
      rw [hW]
      refine ⟨⟨j + 1, by omega, by simp, R.congr (fun i _ => ?_), K4, P4⟩, by simp only [intOf]; omega⟩
      unfold updF fillF
      by_cases e1 : i = a + j
      · subst e1; rw [if_pos rfl, if_pos (by omega)]
      · rw [if_neg e1]
        by_cases e2 : a ≤ i ∧ i < a + j
        · rw [if_pos e2, if_pos (by omega)]
        · rw [if_neg e2, if_neg (by omega)]
    · have hjk : j = k := by omega
      subst hjk
      go_wp2_with fail
      go_end0
      exact ⟨rfl, hF, hK⟩
end Go.Proofs.YtknhohbepkapdaaDoor
