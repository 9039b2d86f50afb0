/- Texts of the proof, one behind the other: Gr, Gr2, PgB, PgC, PgD. -/
import Derived.Test.YtjlfibhbfdckpaaDoorK01
import Derived.Deep.RegionHeld3
import Derived.Deep.DrawnRows
import Derived.BigQuiet
/- Grids of cells: plain mathematics. -/
namespace Go.Proofs.YtjlfibhbfdckpaaDoor
open Wd (wd)
/-- Is there such a cell? -/
def inG (W H : Nat) (x y : Int) : Bool := decide (0 ≤ x) && decide (x < W) && decide (0 ≤ y) && decide (y < H)
theorem inG_iff {W H : Nat} {x y : Int} : inG W H x y = true ↔ 0 ≤ x ∧ x < W ∧ 0 ≤ y ∧ y < H := by simp [inG, and_assoc]
/-- A cell is another one; its other half, if it has one, is broken. -/
def setG (W H : Nat) (G : Nat → Nat → Cel) (x y : Int) (k : Cel) : Nat → Nat → Cel :=
  if inG W H x y = true then
    upd (if (G x.toNat y.toNat).p = 1 then upd G (x.toNat + 1) y.toNat (blk (G x.toNat y.toNat).n) else if (G x.toNat y.toNat).p = 2 then upd G (x.toNat - 1) y.toNat (blk (G x.toNat y.toNat).n) else G) x.toNat y.toNat k
  else G
/-- What a grid is: heads have tails, tails heads, letters are of their width. -/
structure Wf (W H : Nat) (G : Nat → Nat → Cel) : Prop where
  part : ∀ x y, x < W → y < H → ((G x y).p = 0 ∧ wd (G x y).r = 1) ∨ ((G x y).p = 1 ∧ wd (G x y).r = 2) ∨ ((G x y).p = 2 ∧ wd (G x y).r = 2)
  head : ∀ x y, x < W → y < H → (G x y).p = 1 → x + 1 < W ∧ G (x + 1) y = ⟨(G x y).r, 2, (G x y).n⟩
  tail : ∀ x y, x < W → y < H → (G x y).p = 2 → 1 ≤ x ∧ G (x - 1) y = ⟨(G x y).r, 1, (G x y).n⟩
/-- The cells of P are written; halves that lose their other half are broken. -/
def wrt (G : Nat → Nat → Cel) (P : Nat → Nat → Bool) (v : Nat → Nat → Cel) : Nat → Nat → Cel := fun a b =>
  if P a b = true then v a b else if ((G a b).p = 1 ∧ P (a + 1) b = true) ∨ ((G a b).p = 2 ∧ 1 ≤ a ∧ P (a - 1) b = true) then blk (G a b).n else G a b
/-- One cell. -/
def pt (x y : Nat) : Nat → Nat → Bool := fun a b => decide (a = x) && decide (b = y)
theorem pt_iff {x y a b : Nat} : pt x y a b = true ↔ a = x ∧ b = y := by simp [pt]
def EqOn (W H : Nat) (G K : Nat → Nat → Cel) : Prop := ∀ x y, x < W → y < H → G x y = K x y
theorem EqOn.symm {W H : Nat} {G K : Nat → Nat → Cel} (h : EqOn W H G K) : EqOn W H K G := fun x y hx hy => (h x y hx hy).symm
theorem EqOn.trans {W H : Nat} {G K L : Nat → Nat → Cel} (h : EqOn W H G K) (k : EqOn W H K L) : EqOn W H G L := fun x y hx hy => (h x y hx hy).trans (k x y hx hy)
theorem Cels.congr {w : World} {bc g cap W H N : Nat} {G K : Nat → Nat → Cel} (h : Cels w bc g cap W H N G) (e : EqOn W H G K) : Cels w bc g cap W H N K :=
  ⟨h.blk, ⟨fun x y hx hy => by rw [← e x y hx hy]; exact h.grid.cel x y hx hy, h.grid.free⟩, h.hN, h.ne, h.w1, h.w2, h.h1, h.h2⟩
theorem Wf.congr {W H : Nat} {G K : Nat → Nat → Cel} (h : Wf W H G) (e : EqOn W H G K) : Wf W H K := by
  refine ⟨fun x y hx hy => ?_, fun x y hx hy hp => ?_, fun x y hx hy hp => ?_⟩
  · rw [← e x y hx hy]; exact h.part x y hx hy
  · rw [← e x y hx hy] at hp ⊢
    obtain ⟨a, b⟩ := h.head x y hx hy hp
    exact ⟨a, by rw [← e _ _ a hy]; exact b⟩
  · rw [← e x y hx hy] at hp ⊢
    obtain ⟨a, b⟩ := h.tail x y hx hy hp
    exact ⟨a, by rw [← e _ _ (by omega) hy]; exact b⟩
theorem wd_32 : wd 32 = 1 := by decide
theorem blk_p (n : Pn) : (blk n).p = 0 := rfl
theorem blk_r (n : Pn) : (blk n).r = 32 := rfl
theorem blk_n (n : Pn) : (blk n).n = n := rfl
/-- Writing twice. -/
theorem wr_wr (G : Nat → Nat → Cel) (P Q : Nat → Nat → Bool) (v u : Nat → Nat → Cel) (hv : ∀ a b, P a b = true → Q a b = false → (v a b).p = 0) :
    wrt (wrt G P v) Q u = wrt G (fun a b => P a b || Q a b) (fun a b => if Q a b = true then u a b else v a b) := by
  funext a b
  unfold wrt
  by_cases hQ : Q a b = true
  · simp [hQ]
  · have hQ' : Q a b = false := by simpa using hQ
    by_cases hP : P a b = true
    · have := hv a b hP hQ'
      simp [hQ', hP, this]
    · have hP' : P a b = false := by simpa using hP
      simp only [hQ', hP', Bool.false_eq_true, if_false, Bool.or_false, Bool.or_eq_true]
      by_cases h1 : ((G a b).p = 1 ∧ P (a + 1) b = true) ∨ ((G a b).p = 2 ∧ 1 ≤ a ∧ P (a - 1) b = true)
      · rw [if_pos h1]
        have h2 : ((G a b).p = 1 ∧ (P (a + 1) b = true ∨ Q (a + 1) b = true)) ∨ ((G a b).p = 2 ∧ 1 ≤ a ∧ (P (a - 1) b = true ∨ Q (a - 1) b = true)) := by
          rcases h1 with ⟨p, q⟩ | ⟨p, q, r⟩
          · exact .inl ⟨p, .inl q⟩
          · exact .inr ⟨p, q, .inl r⟩
        rw [if_pos h2]
        simp [blk]
      · rw [if_neg h1]
        by_cases h3 : ((G a b).p = 1 ∧ Q (a + 1) b = true) ∨ ((G a b).p = 2 ∧ 1 ≤ a ∧ Q (a - 1) b = true)
        · have h2 : ((G a b).p = 1 ∧ (P (a + 1) b = true ∨ Q (a + 1) b = true)) ∨ ((G a b).p = 2 ∧ 1 ≤ a ∧ (P (a - 1) b = true ∨ Q (a - 1) b = true)) := by
            rcases h3 with ⟨p, q⟩ | ⟨p, q, r⟩
            · exact .inl ⟨p, .inr q⟩
            · exact .inr ⟨p, q, .inr r⟩
          rw [if_pos h3, if_pos h2]
        · have h2 : ¬ (((G a b).p = 1 ∧ (P (a + 1) b = true ∨ Q (a + 1) b = true)) ∨ ((G a b).p = 2 ∧ 1 ≤ a ∧ (P (a - 1) b = true ∨ Q (a - 1) b = true))) := by
            rintro (⟨p, q | q⟩ | ⟨p, q, r | r⟩)
            · exact h1 (.inl ⟨p, q⟩)
            · exact h3 (.inl ⟨p, q⟩)
            · exact h1 (.inr ⟨p, q, r⟩)
            · exact h3 (.inr ⟨p, q, r⟩)
          rw [if_neg h3, if_neg h2]
/-- Written cells that make whole letters keep a grid one. -/
theorem Wf.wr_of {W H : Nat} {G : Nat → Nat → Cel} (h : Wf W H G) {P : Nat → Nat → Bool} {v : Nat → Nat → Cel}
    (hp : ∀ x y, x < W → y < H → P x y = true → ((v x y).p = 0 ∧ wd (v x y).r = 1) ∨ ((v x y).p = 1 ∧ wd (v x y).r = 2) ∨ ((v x y).p = 2 ∧ wd (v x y).r = 2))
    (hh : ∀ x y, x < W → y < H → P x y = true → (v x y).p = 1 → x + 1 < W ∧ P (x + 1) y = true ∧ v (x + 1) y = ⟨(v x y).r, 2, (v x y).n⟩)
    (ht : ∀ x y, x < W → y < H → P x y = true → (v x y).p = 2 → 1 ≤ x ∧ P (x - 1) y = true ∧ v (x - 1) y = ⟨(v x y).r, 1, (v x y).n⟩) : Wf W H (wrt G P v) := by
  refine ⟨fun x y hx hy => ?_, fun x y hx hy hq => ?_, fun x y hx hy hq => ?_⟩
  · unfold Go.Proofs.YtjlfibhbfdckpaaDoor.wrt
    split
    · exact hp x y hx hy ‹_›
    · split
      · exact .inl ⟨rfl, wd_32⟩
      · exact h.part x y hx hy
  · unfold Go.Proofs.YtjlfibhbfdckpaaDoor.wrt at hq ⊢
    by_cases hP : P x y = true
    · rw [if_pos hP] at hq ⊢
      obtain ⟨a, b, c⟩ := hh x y hx hy hP hq
      exact ⟨a, by rw [if_pos b]; exact c⟩
    · rw [if_neg hP] at hq ⊢
      split at hq
      · simp [blk] at hq
      · rename_i hn
        rw [if_neg hn]
        obtain ⟨a, b⟩ := h.head x y hx hy hq
        have hP1 : ¬ P (x + 1) y = true := fun e => hn (.inl ⟨hq, e⟩)
        refine ⟨a, ?_⟩
        rw [if_neg hP1, if_neg, b]
        rw [b]
        simp [hP]
  · unfold Go.Proofs.YtjlfibhbfdckpaaDoor.wrt at hq ⊢
    by_cases hP : P x y = true
    · rw [if_pos hP] at hq ⊢
      obtain ⟨a, b, c⟩ := ht x y hx hy hP hq
      exact ⟨a, by rw [if_pos b]; exact c⟩
    · rw [if_neg hP] at hq ⊢
      split at hq
      · simp [blk] at hq
      · rename_i hn
        rw [if_neg hn]
        obtain ⟨a, b⟩ := h.tail x y hx hy hq
        have hP1 : ¬ P (x - 1) y = true := fun e => hn (.inr ⟨hq, a, e⟩)
        refine ⟨a, ?_⟩
        have e1 : x - 1 + 1 = x := by omega
        rw [if_neg hP1, if_neg, b]
        rw [b, e1]
        simp [hP]
/-- Whole cells alone. -/
theorem Wf.wrWhole {W H : Nat} {G : Nat → Nat → Cel} (h : Wf W H G) {P : Nat → Nat → Bool} {v : Nat → Nat → Cel} (hv : ∀ x y, x < W → y < H → P x y = true → (v x y).p = 0 ∧ wd (v x y).r = 1) : Wf W H (wrt G P v) :=
  h.wr_of (fun x y hx hy hP => .inl (hv x y hx hy hP)) (fun x y hx hy hP h1 => by have := (hv x y hx hy hP).1; omega) (fun x y hx hy hP h1 => by have := (hv x y hx hy hP).1; omega)
/-- The document's set is a writing of one cell. -/
theorem setG_wr {W H : Nat} {G : Nat → Nat → Cel} (h : Wf W H G) {x y : Nat} (hx : x < W) (hy : y < H) (k : Cel) : EqOn W H (setG W H G x y k) (wrt G (pt x y) (fun _ _ => k)) := by
  intro a b ha hb
  have hin : inG W H x y = true := inG_iff.2 (by omega)
  unfold setG wrt
  rw [if_pos hin]
  simp only [Int.toNat_natCast, pt_iff]
  unfold upd
  by_cases e : a = x ∧ b = y
  · rw [if_pos e, if_pos e]
  · rw [if_neg e, if_neg e]
    by_cases p1 : (G x y).p = 1
    · obtain ⟨q1, q2⟩ := h.head x y hx hy p1
      rw [if_pos p1]
      by_cases e2 : a = x + 1 ∧ b = y
      · obtain ⟨rfl, rfl⟩ := e2
        rw [if_pos ⟨rfl, rfl⟩, if_pos (.inr ⟨by rw [q2], by omega, by omega, rfl⟩), q2]
      · rw [if_neg e2, if_neg]
        rintro (⟨r1, r2, r3⟩ | ⟨r1, r2, r3, r4⟩)
        · subst r3
          obtain ⟨s1, s2⟩ := h.head a b ha hb r1
          rw [r2] at s2
          rw [s2] at p1
          exact absurd p1 (by simp)
        · exact e2 ⟨by omega, r4⟩
    · rw [if_neg p1]
      by_cases p2 : (G x y).p = 2
      · obtain ⟨q1, q2⟩ := h.tail x y hx hy p2
        rw [if_pos p2]
        by_cases e2 : a = x - 1 ∧ b = y
        · obtain ⟨rfl, rfl⟩ := e2
          rw [if_pos ⟨rfl, rfl⟩, if_pos (.inl ⟨by rw [q2], by omega, rfl⟩), q2]
        · rw [if_neg e2, if_neg]
          rintro (⟨r1, r2, r3⟩ | ⟨r1, r2, r3, r4⟩)
          · exact e2 ⟨by omega, r3⟩
          · subst r4
            obtain ⟨s1, s2⟩ := h.tail a b ha hb r1
            rw [r3] at s2
            rw [s2] at p2
            exact absurd p2 (by simp)
      · rw [if_neg p2, if_neg]
        rintro (⟨r1, r2, r3⟩ | ⟨r1, r2, r3, r4⟩)
        · subst r3
          obtain ⟨s1, s2⟩ := h.head a b ha hb r1
          rw [r2] at s2
          rw [s2] at p2
          exact p2 rfl
        · subst r4
          obtain ⟨s1, s2⟩ := h.tail a b ha hb r1
          rw [r3] at s2
          rw [s2] at p1
          exact p1 rfl
theorem Wf.half {W H : Nat} {G : Nat → Nat → Cel} (h : Wf W H G) (x y : Int) : inG W H x y = true → ((G x.toNat y.toNat).p = 1 → x + 1 < W) ∧ ((G x.toNat y.toNat).p = 2 → 1 ≤ x) := by
  intro hin
  obtain ⟨a, b, c, d⟩ := inG_iff.1 hin
  refine ⟨fun hp => ?_, fun hp => ?_⟩
  · have := (h.head x.toNat y.toNat (by omega) (by omega) hp).1; omega
  · have := (h.tail x.toNat y.toNat (by omega) (by omega) hp).1; omega
/-- The cells of a line from one column to another (not that one). -/
def rg (f t : Int) (y : Nat) : Nat → Nat → Bool := fun a b => decide (b = y) && decide (f ≤ a) && decide ((a : Int) < t)
theorem rg_iff {f t : Int} {y a b : Nat} : rg f t y a b = true ↔ b = y ∧ f ≤ a ∧ (a : Int) < t := by simp [rg, and_assoc]
theorem wr_congr {G : Nat → Nat → Cel} {P Q : Nat → Nat → Bool} {v : Nat → Nat → Cel} (h : ∀ a b, P a b = Q a b) : wrt G P v = wrt G Q v := by
  have : P = Q := by funext a b; exact h a b
  rw [this]
theorem wr_none (G : Nat → Nat → Cel) (P : Nat → Nat → Bool) (v : Nat → Nat → Cel) (h : ∀ a b, P a b = false) : wrt G P v = G := by
  funext a b; simp [wrt, h]
theorem wr_blk_next (G : Nat → Nat → Cel) (f t : Int) (x y : Nat) (n : Pn) (h1 : f ≤ x) (h2 : (x : Int) < t) :
    wrt (wrt G (fun a b => rg f t y a b && decide (a < x)) (fun _ _ => blk n)) (pt x y) (fun _ _ => blk n) = wrt G (fun a b => rg f t y a b && decide (a < x + 1)) (fun _ _ => blk n) := by
  rw [wr_wr _ _ _ _ _ (fun _ _ _ _ => rfl)]
  have e : (fun a b => if pt x y a b = true then blk n else blk n) = fun (_ _ : Nat) => blk n := by funext a b; simp
  rw [e]
  refine wr_congr fun a b => ?_
  rw [Bool.eq_iff_iff]
  simp [rg, pt]
  omega
theorem Wf.blk {W H : Nat} {G : Nat → Nat → Cel} (h : Wf W H G) (P : Nat → Nat → Bool) (n : Pn) : Wf W H (wrt G P (fun _ _ => blk n)) :=
  h.wrWhole (fun _ _ _ _ _ => ⟨rfl, wd_32⟩)
end Go.Proofs.YtjlfibhbfdckpaaDoor

/- Grids of cells: more plain mathematics. -/
namespace Go.Proofs.YtjlfibhbfdckpaaDoor
open Wd (wd)
/-- What is written outside the grid does not matter. -/
theorem wr_dom {W H : Nat} {G : Nat → Nat → Cel} (h : Wf W H G) {P Q : Nat → Nat → Bool} {v u : Nat → Nat → Cel} (e : ∀ a b, a < W → b < H → P a b = Q a b) (ev : ∀ a b, a < W → b < H → P a b = true → v a b = u a b) : EqOn W H (wrt G P v) (wrt G Q u) := by
  intro a b ha hb
  unfold wrt
  rw [e a b ha hb]
  by_cases hQ : Q a b = true
  · rw [if_pos hQ, if_pos hQ]; exact ev a b ha hb (by rw [e a b ha hb]; exact hQ)
  · rw [if_neg hQ, if_neg hQ]
    have c : (((G a b).p = 1 ∧ P (a + 1) b = true) ∨ ((G a b).p = 2 ∧ 1 ≤ a ∧ P (a - 1) b = true)) ↔ (((G a b).p = 1 ∧ Q (a + 1) b = true) ∨ ((G a b).p = 2 ∧ 1 ≤ a ∧ Q (a - 1) b = true)) := by
      constructor
      · rintro (⟨p, q⟩ | ⟨p, q, r⟩)
        · exact .inl ⟨p, by rw [← e _ _ (h.head a b ha hb p).1 hb]; exact q⟩
        · exact .inr ⟨p, q, by rw [← e _ _ (by omega) hb]; exact r⟩
      · rintro (⟨p, q⟩ | ⟨p, q, r⟩)
        · exact .inl ⟨p, by rw [e _ _ (h.head a b ha hb p).1 hb]; exact q⟩
        · exact .inr ⟨p, q, by rw [e _ _ (by omega) hb]; exact r⟩
    by_cases hc : ((G a b).p = 1 ∧ P (a + 1) b = true) ∨ ((G a b).p = 2 ∧ 1 ≤ a ∧ P (a - 1) b = true)
    · rw [if_pos hc, if_pos (c.1 hc)]
    · rw [if_neg hc, if_neg (fun x => hc (c.2 x))]
/-- The document's write. -/
def writeG (W H : Nat) (G : Nat → Nat → Cel) (x y : Int) (r : Int) (n : Pn) : Nat → Nat → Cel :=
  if wd r = 1 then setG W H G x y ⟨r, 0, n⟩
  else if inG W H x y = true ∧ inG W H (x + 1) y = true then upd (upd (setG W H (setG W H G x y (blk n)) (x + 1) y (blk n)) x.toNat y.toNat ⟨r, 1, n⟩) (x.toNat + 1) y.toNat ⟨r, 2, n⟩
  else setG W H (setG W H G x y (blk n)) (x + 1) y (blk n)
theorem Wf.set {W H : Nat} {G : Nat → Nat → Cel} (h : Wf W H G) (x y : Int) (k : Cel) (hp : k.p = 0) (hr : wd k.r = 1) : Wf W H (setG W H G x y k) := by
  cases hin : inG W H x y with
  | false => simp [setG, hin]; exact h
  | true =>
    obtain ⟨a, b, c, d⟩ := inG_iff.1 hin
    obtain ⟨x, rfl⟩ := Int.eq_ofNat_of_zero_le a
    obtain ⟨y, rfl⟩ := Int.eq_ofNat_of_zero_le c
    exact (h.wrWhole (P := pt x y) (v := fun _ _ => k) (fun _ _ _ _ _ => ⟨hp, hr⟩)).congr (setG_wr h (by omega) (by omega) k).symm
theorem Wf.setBlk {W H : Nat} {G : Nat → Nat → Cel} (h : Wf W H G) (x y : Int) (n : Pn) : Wf W H (setG W H G x y (Go.Proofs.YtjlfibhbfdckpaaDoor.blk n)) := h.set x y _ rfl wd_32
theorem EqOn.upd {W H : Nat} {G K : Nat → Nat → Cel} (h : EqOn W H G K) (x y : Nat) (c : Cel) : EqOn W H (upd G x y c) (upd K x y c) := fun a b ha hb => by
  unfold Go.Proofs.YtjlfibhbfdckpaaDoor.upd; split
  · rfl
  · exact h a b ha hb
theorem upd_wrt (G : Nat → Nat → Cel) (P : Nat → Nat → Bool) (v : Nat → Nat → Cel) (x y : Nat) (c : Cel) (hP : P x y = true) : upd (wrt G P v) x y c = wrt G P (upd v x y c) := by
  funext a b
  unfold upd wrt
  by_cases e : a = x ∧ b = y
  · obtain ⟨rfl, rfl⟩ := e; simp [hP]
  · simp [e]
theorem writeG_one {W H : Nat} {G : Nat → Nat → Cel} (h : Wf W H G) {x y : Nat} (hx : x < W) (hy : y < H) (r : Int) (n : Pn) (hr : wd r = 1) : EqOn W H (writeG W H G x y r n) (wrt G (pt x y) (fun _ _ => ⟨r, 0, n⟩)) := by
  unfold writeG; rw [if_pos hr]; exact setG_wr h hx hy _
/-- Two cells beside one another. -/
def pt2 (x y : Nat) : Nat → Nat → Bool := fun a b => pt x y a b || pt (x + 1) y a b
def wide (x : Nat) (r : Int) (n : Pn) : Nat → Nat → Cel := fun a _ => if a = x then ⟨r, 1, n⟩ else ⟨r, 2, n⟩
theorem writeG_two {W H : Nat} {G : Nat → Nat → Cel} (h : Wf W H G) {x y : Nat} (hx : x + 1 < W) (hy : y < H) (r : Int) (n : Pn) (hr : wd r = 2) : EqOn W H (writeG W H G x y r n) (wrt G (pt2 x y) (wide x r n)) := by
  have i1 : inG W H x y = true := inG_iff.2 (by omega)
  have i2 : inG W H ((x : Int) + 1) y = true := inG_iff.2 (by omega)
  unfold writeG
  rw [if_neg (by omega), if_pos ⟨i1, i2⟩]
  simp only [Int.toNat_natCast]
  have h1 := setG_wr h (x := x) (y := y) (by omega) hy (Go.Proofs.YtjlfibhbfdckpaaDoor.blk n)
  have w1 : Wf W H (setG W H G x y (Go.Proofs.YtjlfibhbfdckpaaDoor.blk n)) := h.setBlk _ _ _
  have h2 := setG_wr w1 (x := x + 1) (y := y) hx hy (Go.Proofs.YtjlfibhbfdckpaaDoor.blk n)
  have e2 : EqOn W H (wrt (setG W H G x y (Go.Proofs.YtjlfibhbfdckpaaDoor.blk n)) (pt (x + 1) y) (fun _ _ => Go.Proofs.YtjlfibhbfdckpaaDoor.blk n)) (wrt (wrt G (pt x y) (fun _ _ => Go.Proofs.YtjlfibhbfdckpaaDoor.blk n)) (pt (x + 1) y) (fun _ _ => Go.Proofs.YtjlfibhbfdckpaaDoor.blk n)) := by
    intro a b ha hb
    unfold wrt
    have := h1 a b ha hb
    unfold wrt at this
    rw [this]
  rw [wr_wr _ _ _ _ _ (fun _ _ _ _ => rfl)] at e2
  have e3 := ((h2.trans e2).upd x y ⟨r, 1, n⟩).upd (x + 1) y ⟨r, 2, n⟩
  rw [upd_wrt _ _ _ _ _ _ (by simp [pt]), upd_wrt _ _ _ _ _ _ (by simp [pt])] at e3
  refine e3.trans (wr_dom h (fun _ _ _ _ => rfl) (fun a b _ _ hp => ?_))
  simp [pt] at hp
  unfold upd wide
  rcases hp with ⟨rfl, rfl⟩ | ⟨rfl, rfl⟩
  · simp
  · simp
theorem Wf.wide {W H : Nat} {G : Nat → Nat → Cel} (h : Wf W H G) {x y : Nat} (hx : x + 1 < W) (r : Int) (n : Pn) (hr : wd r = 2) : Wf W H (wrt G (pt2 x y) (Go.Proofs.YtjlfibhbfdckpaaDoor.wide x r n)) := by
  refine h.wr_of (fun a b _ _ hp => ?_) (fun a b _ _ hp hq => ?_) (fun a b _ _ hp hq => ?_)
  · unfold Go.Proofs.YtjlfibhbfdckpaaDoor.wide; split
    · exact .inr (.inl ⟨rfl, hr⟩)
    · exact .inr (.inr ⟨rfl, hr⟩)
  · unfold Go.Proofs.YtjlfibhbfdckpaaDoor.wide at hq ⊢
    split at hq
    · subst a
      simp [pt2, pt] at hp ⊢
      exact ⟨hx, hp⟩
    · simp at hq
  · unfold Go.Proofs.YtjlfibhbfdckpaaDoor.wide at hq ⊢
    split at hq
    · simp at hq
    · simp [pt2, pt] at hp
      rename_i hne
      obtain ⟨rfl, rfl⟩ : a = x + 1 ∧ b = y := by omega
      simp [pt2, pt]
end Go.Proofs.YtjlfibhbfdckpaaDoor

/- The program's rows of cells: Blank, fill. -/
namespace Go.Proofs.YtjlfibhbfdckpaaDoor
open Go.RowKit
attribute [local go_sem ↓] Go.wp_at_zero Go.wp_at_succ
/-- n cells lie in block g, one behind the other. -/
structure Flat (w : World) (g n : Nat) (L : Nat → Cel) : Prop where
  cel : ∀ i, i < n → CelAt w g (i * 7) (L i)
  free : ∀ o, w.frozen? ⟨g, o, none⟩ = false
def updF (L : Nat → Cel) (i : Nat) (c : Cel) : Nat → Cel := fun j => if j = i then c else L j
theorem Flat.same {w w' : World} {g n : Nat} {L : Nat → Cel} (h : Flat w g n L) (hb : w'.heap[g]? = w.heap[g]?) : Flat w' g n L :=
  ⟨fun i hi => (h.cel i hi).same hb, fun o => by rw [frozen_same hb]; exact h.free o⟩
theorem Flat.congr {w : World} {g n : Nat} {L M : Nat → Cel} (h : Flat w g n L) (e : ∀ i, i < n → L i = M i) : Flat w g n M :=
  ⟨fun i hi => by rw [← e i hi]; exact h.cel i hi, h.free⟩
theorem Flat.put {w : World} {g n : Nat} {L : Nat → Cel} (h : Flat w g n L) {i : Nat} (hi : i < n) (c : Cel) : Flat (put7 w g (i * 7) c) g n (updF L i c) := by
  refine ⟨fun j hj => ?_, fun o => ?_⟩
  · unfold updF
    by_cases e : j = i
    · subst e; rw [if_pos rfl]; exact put7_at (h.cel _ hj)
    · rw [if_neg e]
      have := h.cel j hj
      simp only [CelAt] at this ⊢
      rw [put7_far (by omega), put7_far (by omega), put7_far (by omega), put7_far (by omega), put7_far (by omega), put7_far (by omega), put7_far (by omega)]
      exact this
  · unfold put7; simp only [set_frozen]; exact h.free o
theorem Flat.lt {w : World} {g n : Nat} {L : Nat → Cel} (h : Flat w g n L) (hn : 0 < n) : g < w.heap.size := (h.cel 0 hn).lt
def fillF (L : Nat → Cel) (a k : Nat) (p : Pn) : Nat → Cel := fun i => if a ≤ i ∧ i < a + k then blk p else L i
theorem pBlank (n : Pn) (w : World) :
    Calls Tryd.prog 91 #[n.agg] w fun e w' => e = .returned (blk n).agg ∧ Below w.heap.size w w' := by
  go_enter Tryd.func91, Tryd.ntmps91
  go_wp2
  exact bodyPost_ret (v := (blk n).agg) (by simp [results, Tryd.results91, go_sem, blk]) rfl ⟨rfl, ((Below.refl _ _).alloc (Nat.le_refl _) _).alloc (by simp) _⟩
set_option maxHeartbeats 2000000 in
theorem pFill (g n a k cap : Nat) (av : Option Addr) (L : Nat → Cel) (p : Pn) (w : World) (h : Flat w g n L) (hav : 0 < k → av = some ⟨g, a * 7, none⟩) (hk : a + k ≤ n) (hn : n ≤ 800) (hn0 : 0 < n) :
    Calls Tryd.prog 70 #[.slice av k cap, p.agg] w fun e w' => e = .returned (.tuple #[]) ∧ Flat w' g n (fillF L a k p) ∧ Keep (fun i => i = g) w w' := by
  have HF : Hid (Flat w g n L) := h
  have gb := h.lt hn0
  have Hav : Hid (0 < k → av = some ⟨g, a * 7, none⟩) := hav
  clear h hav
  go_enter Tryd.func70, Tryd.ntmps70
  go_wp2_with fail
  have hb0 : Below w.heap.size w (w.alloc (.cells #[.int .i64 p.f, .int .i64 p.b, .bool p.bo, .bool p.un, .bool p.re] 44)) := (Below.refl _ _).alloc (Nat.le_refl _) _
  go_loopw [7] (fun i w' => ∃ j : Nat, j ≤ k ∧ i = .int .i64 j ∧ Flat w' g n (fillF L a j p) ∧ Keep (fun i => i = g) w w' ∧ PenAt w' w.heap.size 0 p) (fun i _ => k - (intOf i).toNat)
  case atStart => exact ⟨0, by omega, rfl, (HF.out.same (hb0.block _ gb)).congr (fun i _ => by unfold fillF; rw [if_neg (by omega)]), Keep.below _ hb0, pen_new _ _ _⟩
  case round =>
    obtain ⟨j, hj, rfl, hF, hK, hP⟩ := hrel
    have HF1 : Hid (Flat wr g n (fillF L a j p)) := hF
    by_cases hlt : j < k
    · have hav := Hav.out (by omega)
      subst hav
      obtain ⟨p0, p1, p2, p3, p4⟩ := hP
      have hlt' : (j : Int) < (k : Int) := by omega
      have Hoff : Hid ((a + j) * 7 = a * 7 + j * 7) := by show (a + j) * 7 = a * 7 + j * 7; omega
      clear hF HF
      obtain ⟨ao, hao⟩ : ∃ ao, a * 7 = ao := ⟨_, rfl⟩
      rw [hao]
      rw [hao] at Hoff
      go_wp2_with fail
      go_at_call 91
      refine (pBlank p _).mono ?_
      rintro e w3 ⟨rfl, hb3⟩
      have F3 : Flat w3 g n (fillF L a j p) := HF1.out.same (hb3.block _ (HF1.out.lt hn0))
      have P3 : PenAt w3 w.heap.size 0 p := PenAt.same ⟨p0, p1, p2, p3, p4⟩ (hb3.block _ (PenAt.lt ⟨p0, p1, p2, p3, p4⟩))
      have K3 := hK.thenBelow hb3
      have tg := F3.cel (a + j) (by omega)
      rw [Hoff.out] at tg
      obtain ⟨t0, t1, t2, t3, t4, t5, t6⟩ := tg
      have fr := F3.free
      have HF3 : Hid (Flat w3 g n (fillF L a j p)) := F3
      clear F3 hb3 p0 p1 p2 p3 p4 HF1 hK
      go_wp2_with fail
      have R := HF3.out.put (i := a + j) (by omega) (blk p)
      rw [Hoff.out] at R
      have P4 := P3.same (put7_other w3 g (ao + j * 7) w.heap.size (blk p) (by omega))
      have K4 := K3.put7 g (ao + j * 7) (blk p) (fun _ => rfl)
      generalize hW : put7 w3 g (ao + j * 7) (blk p) = w4 at *
      unfold put7 at hW
      rw [hW]
      refine ⟨⟨j + 1, by omega, by simp, R.congr (fun i _ => ?_), K4, P4⟩, by simp only [intOf]; omega⟩
      unfold updF fillF
      by_cases e1 : i = a + j
      · subst e1; rw [if_pos rfl, if_pos (by omega)]
      · rw [if_neg e1]
        by_cases e2 : a ≤ i ∧ i < a + j
        · rw [if_pos e2, if_pos (by omega)]
        · rw [if_neg e2, if_neg (by omega)]
    · have hjk : j = k := by omega
      subst hjk
      go_wp2_with fail
      go_end0
      exact ⟨rfl, hF, hK⟩
end Go.Proofs.YtjlfibhbfdckpaaDoor

/- The program's rows of cells: cut. -/
namespace Go.Proofs.YtjlfibhbfdckpaaDoor
open Go.RowKit
attribute [local go_sem ↓] Go.wp_at_zero Go.wp_at_succ
def cutF (L : Nat → Cel) (a k c : Nat) : Nat → Cel :=
  if 1 ≤ c ∧ c + 1 ≤ k ∧ (L (a + c)).p = 2 then updF (updF L (a + c - 1) (blk (L (a + c - 1)).n)) (a + c) (blk (L (a + c)).n) else L
set_option maxHeartbeats 2000000 in
theorem pCut (g n a k cap c : Nat) (L : Nat → Cel) (w : World) (h : Flat w g n L) (hk : a + k ≤ n) (hc : c ≤ k) (hn : n ≤ 800) (hk0 : 0 < k) :
    Calls Tryd.prog 89 #[.slice (some ⟨g, a * 7, none⟩) k cap, .int .i64 c] w fun e w' => e = .returned (.tuple #[]) ∧ Flat w' g n (cutF L a k c) ∧ Keep (fun i => i = g) w w' := by
  have HF : Hid (Flat w g n L) := h
  have HK : Hid (Keep (fun i => i = g) w w) := Keep.refl _ _
  clear h
  by_cases h1 : Wd.inB c 1 (k - 1) = true
  · have h1' := h1
    simp [Wd.inB] at h1'
    obtain ⟨l1, l2⟩ := h1'
    obtain ⟨d, rfl⟩ : ∃ d, c = d + 1 := ⟨c - 1, by omega⟩
    have c1 := HF.out.cel (a + d) (by omega)
    have c2 := HF.out.cel (a + (d + 1)) (by omega)
    have fr := HF.out.free
    obtain ⟨ao, hao⟩ : ∃ ao, a * 7 = ao := ⟨_, rfl⟩
    rw [show (a + d) * 7 = ao + d * 7 by omega] at c1
    rw [show (a + (d + 1)) * 7 = ao + (d + 1) * 7 by omega] at c2
    rw [hao]
    obtain ⟨x0, x1, x2, x3, x4, x5, x6⟩ := c1
    obtain ⟨y0, y1, y2, y3, y4, y5, y6⟩ := c2
    have Hao : Hid (a * 7 = ao) := hao
    clear hao
    have hlt : ((d : Int) + 1) < k := by omega
    by_cases h2 : (L (a + (d + 1))).p = 2
    · rw [h2] at y1
      go_enter Tryd.func89, Tryd.ntmps89
      go_wp2_with fail
      go_at_call 43
      refine (pWithin _ _ _ _).mono ?_
      rintro e w' ⟨rfl, hw'⟩
      replace hw' := hw'.symm
      subst hw'
      go_wp2_with fail
      go_at_call 91
      refine (pBlank (L (a + d)).n _).mono ?_
      rintro e w3 ⟨rfl, hb3⟩
      have gb := HF.out.lt (by omega)
      have F3 : Flat w3 g n L := HF.out.same (hb3.block _ gb)
      have K3 := HK.out.thenBelow hb3
      clear x0 x1 x2 x3 x4 x5 x6 y0 y1 y2 y3 y4 y5 y6 fr HF HK
      have c1 := F3.cel (a + d) (by omega)
      have c2 := F3.cel (a + (d + 1)) (by omega)
      have fr := F3.free
      rw [show (a + d) * 7 = ao + d * 7 by have := Hao.out; omega] at c1
      rw [show (a + (d + 1)) * 7 = ao + (d + 1) * 7 by have := Hao.out; omega] at c2
      obtain ⟨x0, x1, x2, x3, x4, x5, x6⟩ := c1
      obtain ⟨y0, y1, y2, y3, y4, y5, y6⟩ := c2
      have HF3 : Hid (Flat w3 g n L) := F3
      clear F3 hb3
      go_wp2_with fail
      have R := HF3.out.put (i := a + d) (by omega) (blk (L (a + d)).n)
      rw [show (a + d) * 7 = ao + d * 7 by have := Hao.out; omega] at R
      have K4 := K3.put7 g (ao + d * 7) (blk (L (a + d)).n) (fun _ => rfl)
      generalize hW : put7 w3 g (ao + d * 7) (blk (L (a + d)).n) = w4 at *
      unfold put7 at hW
      rw [hW]
      clear hW x0 x1 x2 x3 x4 x5 x6 y0 y1 y2 y3 y4 y5 y6 fr HF3 K3
      go_at_call 91
      refine (pBlank (L (a + (d + 1))).n _).mono ?_
      rintro e w5 ⟨rfl, hb5⟩
      have F5 : Flat w5 g n _ := R.same (hb5.block _ (R.lt (by omega)))
      have K5 := K4.thenBelow hb5
      have c2 := F5.cel (a + (d + 1)) (by omega)
      have fr := F5.free
      rw [show (a + (d + 1)) * 7 = ao + (d + 1) * 7 by have := Hao.out; omega] at c2
      obtain ⟨y0, y1, y2, y3, y4, y5, y6⟩ := c2
      have HF5 : Hid (Flat w5 g n (updF L (a + d) (blk (L (a + d)).n))) := F5
      clear F5 hb5 R K4
      go_wp2_with fail
      have R := HF5.out.put (i := a + (d + 1)) (by omega) (blk (L (a + (d + 1))).n)
      rw [show (a + (d + 1)) * 7 = ao + (d + 1) * 7 by have := Hao.out; omega] at R
      have K6 := K5.put7 g (ao + (d + 1) * 7) (blk (L (a + (d + 1))).n) (fun _ => rfl)
      generalize hW : put7 w5 g (ao + (d + 1) * 7) (blk (L (a + (d + 1))).n) = w6 at *
      unfold put7 at hW
      rw [hW]
      go_end0
      refine ⟨rfl, ?_, K6⟩
      unfold cutF
      rw [if_pos ⟨by omega, by omega, h2⟩, show a + (d + 1) - 1 = a + d by omega]
      exact R
    · have h2' : ¬ (L (a + (d + 1))).p = 2 := h2
      go_enter Tryd.func89, Tryd.ntmps89
      go_wp2_with fail
      go_at_call 43
      refine (pWithin _ _ _ _).mono ?_
      rintro e w' ⟨rfl, hw'⟩
      replace hw' := hw'.symm
      subst hw'
      go_wp2_with fail
      refine bodyPost_ret (v := .tuple #[]) (by simp [results, Tryd.results89, go_sem]) rfl ⟨rfl, ?_, HK.out⟩
      unfold cutF
      rw [if_neg (fun h => h2 h.2.2)]
      exact HF.out
  · go_enter Tryd.func89, Tryd.ntmps89
    go_wp2_with fail
    go_at_call 43
    refine (pWithin _ _ _ _).mono ?_
    rintro e w' ⟨rfl, hw'⟩
    replace hw' := hw'.symm
    subst hw'
    rw [show Wd.inB (c : Int) 1 (k - 1) = false by simpa using h1]
    go_wp2_with fail
    refine bodyPost_ret (v := .tuple #[]) (by simp [results, Tryd.results89, go_sem]) rfl ⟨rfl, ?_, HK.out⟩
    unfold cutF
    rw [if_neg (fun h => h1 (by simp [Wd.inB]; omega))]
    exact HF.out
end Go.Proofs.YtjlfibhbfdckpaaDoor

/- The program's grid: what it is in memory; Width, Height, Has, line, part, Cell. -/
namespace Go.Proofs.YtjlfibhbfdckpaaDoor
open Go.RowKit
attribute [local go_sem ↓] Go.wp_at_zero Go.wp_at_succ
def lin (W : Nat) (G : Nat → Nat → Cel) : Nat → Cel := fun i => G (i % W) (i / W)
def unlin (W : Nat) (L : Nat → Cel) : Nat → Nat → Cel := fun x y => L (y * W + x)
theorem lin_at {W : Nat} (G : Nat → Nat → Cel) {x : Nat} (y : Nat) (hx : x < W) : lin W G (y * W + x) = G x y := by
  unfold lin
  have a : (y * W + x) % W = x := by rw [Nat.mul_comm, Nat.mul_add_mod, Nat.mod_eq_of_lt hx]
  have b : (y * W + x) / W = y := by rw [Nat.mul_comm, Nat.mul_add_div (by omega), Nat.div_eq_of_lt hx]; rfl
  rw [a, b]
theorem Grid.flat {w : World} {g W H : Nat} {G : Nat → Nat → Cel} (h : Grid w g W H G) (hW : 0 < W) : Flat w g (H * W) (lin W G) := by
  refine ⟨fun i hi => ?_, h.free⟩
  have a := h.cel (i % W) (i / W) (Nat.mod_lt _ hW) ((Nat.div_lt_iff_lt_mul hW).2 hi)
  rw [Nat.mul_comm (i / W), Nat.div_add_mod] at a
  exact a
theorem Flat.grid {w : World} {g W H : Nat} {L : Nat → Cel} (h : Flat w g (H * W) L) : Grid w g W H (unlin W L) :=
  ⟨fun _ _ hx hy => h.cel _ (place_lt hx hy), h.free⟩
/-- The program's grid: a struct of three cells in block bg, the cells in block g. -/
structure GrAt (w : World) (bg g W H N : Nat) (G : Nat → Nat → Cel) : Prop where
  blk : w.heap[bg]? = some (.cells #[.int .i64 W, .int .i64 H, .slice (some ⟨g, 0, none⟩) N N] 97)
  grid : Grid w g W H G
  hN : N = H * W
  ne : bg ≠ g
  w1 : 1 ≤ W
  w2 : W ≤ 40
  h1 : 1 ≤ H
  h2 : H ≤ 20
theorem GrAt.nle {w : World} {bg g W H N : Nat} {G : Nat → Nat → Cel} (h : GrAt w bg g W H N G) : N ≤ 800 := by
  rw [h.hN]; exact Nat.mul_le_mul h.h2 h.w2
theorem GrAt.lt {w : World} {bg g W H N : Nat} {G : Nat → Nat → Cel} (h : GrAt w bg g W H N G) : bg < w.heap.size := (Array.getElem?_eq_some_iff.1 h.blk).1
theorem GrAt.glt {w : World} {bg g W H N : Nat} {G : Nat → Nat → Cel} (h : GrAt w bg g W H N G) : g < w.heap.size := (h.grid.cel 0 0 h.w1 h.h1).lt
theorem GrAt.same {w w' : World} {bg g W H N : Nat} {G : Nat → Nat → Cel} (h : GrAt w bg g W H N G) (h1 : w'.heap[bg]? = w.heap[bg]?) (h2 : w'.heap[g]? = w.heap[g]?) : GrAt w' bg g W H N G :=
  ⟨by rw [h1]; exact h.blk, h.grid.same h2, h.hN, h.ne, h.w1, h.w2, h.h1, h.h2⟩
theorem GrAt.below {w w' : World} {bg g W H N : Nat} {G : Nat → Nat → Cel} (h : GrAt w bg g W H N G) (hb : Below w.heap.size w w') : GrAt w' bg g W H N G :=
  h.same (hb.block _ h.lt) (hb.block _ h.glt)
theorem GrAt.c0 {w : World} {bg g W H N : Nat} {G : Nat → Nat → Cel} (h : GrAt w bg g W H N G) : w.cell? ⟨bg, 0, none⟩ = some (.int .i64 W) := by rw [cell_of_block h.blk]; rfl
theorem GrAt.c1 {w : World} {bg g W H N : Nat} {G : Nat → Nat → Cel} (h : GrAt w bg g W H N G) : w.cell? ⟨bg, 1, none⟩ = some (.int .i64 H) := by rw [cell_of_block h.blk]; rfl
theorem GrAt.c2 {w : World} {bg g W H N : Nat} {G : Nat → Nat → Cel} (h : GrAt w bg g W H N G) : w.cell? ⟨bg, 2, none⟩ = some (.slice (some ⟨g, 0, none⟩) N N) := by rw [cell_of_block h.blk]; rfl
theorem GrAt.congr {w : World} {bg g W H N : Nat} {G K : Nat → Nat → Cel} (h : GrAt w bg g W H N G) (e : EqOn W H G K) : GrAt w bg g W H N K :=
  ⟨h.blk, ⟨fun x y hx hy => by rw [← e x y hx hy]; exact h.grid.cel x y hx hy, h.grid.free⟩, h.hN, h.ne, h.w1, h.w2, h.h1, h.h2⟩
/-- The cells are others now, the grid the same. -/
theorem GrAt.with {w w' : World} {bg g W H N : Nat} {G K : Nat → Nat → Cel} {L : Nat → Cel} (h : GrAt w bg g W H N G) (f : Flat w' g N L) (k : Keep (fun i => i = g) w w') (e : EqOn W H (unlin W L) K) : GrAt w' bg g W H N K := by
  have f' := f
  rw [h.hN] at f'
  exact GrAt.congr ⟨by rw [k.block _ h.lt h.ne]; exact h.blk, f'.grid, h.hN, h.ne, h.w1, h.w2, h.h1, h.h2⟩ e
theorem GrAt.flat {w : World} {bg g W H N : Nat} {G : Nat → Nat → Cel} (h : GrAt w bg g W H N G) : Flat w g N (lin W G) := by
  rw [h.hN]; exact h.grid.flat h.w1
theorem below_drewN (w : World) (n : Nat) : Below w.heap.size w (w.drewN n) := ⟨rfl, rfl, rfl, Nat.le_refl _, fun _ _ => rfl⟩
theorem pWidth (bg g W H N : Nat) (G : Nat → Nat → Cel) (w : World) (h : GrAt w bg g W H N G) :
    Calls Tryd.prog 46 #[.pointer (some ⟨bg, 0, none⟩)] w fun e w' => e = .returned (.int .i64 W) ∧ w' = w := by
  have c := h.c0
  go_enter Tryd.func46, Tryd.ntmps46
  go_wp2
  go_ret
  exact ⟨rfl, rfl⟩
theorem pHeight (bg g W H N : Nat) (G : Nat → Nat → Cel) (w : World) (h : GrAt w bg g W H N G) :
    Calls Tryd.prog 47 #[.pointer (some ⟨bg, 0, none⟩)] w fun e w' => e = .returned (.int .i64 H) ∧ w' = w := by
  have c := h.c1
  go_enter Tryd.func47, Tryd.ntmps47
  go_wp2
  go_ret
  exact ⟨rfl, rfl⟩
theorem pHas (bg g W H N : Nat) (G : Nat → Nat → Cel) (x y : Int) (w : World) (h : GrAt w bg g W H N G) :
    Calls Tryd.prog 59 #[.pointer (some ⟨bg, 0, none⟩), .int .i64 x, .int .i64 y] w fun e w' => e = .returned (.bool (inG W H x y)) ∧ w' = w := by
  have c := h.c0
  have d := h.c1
  have a1 := h.w1
  have a2 := h.w2
  have a3 := h.h1
  have a4 := h.h2
  have hx : inG W H x y = (Wd.inB x 0 (W - 1) && Wd.inB y 0 (H - 1)) := by
    rw [Bool.eq_iff_iff, inG_iff]; simp [Wd.inB]; omega
  rw [hx]
  by_cases h1 : Wd.inB x 0 (W - 1) = true
  all_goals
    go_enter Tryd.func59, Tryd.ntmps59
    go_wp2_with (first | (go_at_call 43; refine (pWithin _ _ _ _).mono ?_; rintro e w' ⟨rfl, rfl⟩))
    go_ret
    exact ⟨by simp [h1], rfl⟩
theorem pLine (bg g W H N : Nat) (G : Nat → Nat → Cel) (y m r : Nat) (w : World) (h : GrAt w bg g W H N G) (hy : y < H) (hm : y * W = m) (hr : m + r = N) :
    Calls Tryd.prog 67 #[.pointer (some ⟨bg, 0, none⟩), .int .i64 y] w fun e w' => e = .returned (.slice (some ⟨g, m * 7, none⟩) W r) ∧ Below w.heap.size w w' := by
  have c := h.c0
  have d := h.c2
  have a1 := h.w1
  have a2 := h.w2
  have a3 := h.h1
  have a4 := h.h2
  have nle := h.nle
  have hmy : (y : Int) * W = m := by rw [← hm]; simp
  have hmy' : ((y : Int) + 1) * W = m + W := by rw [Int.add_mul, hmy]; omega
  have hmw : m + W ≤ N := by rw [← hm, h.hN]; have := Nat.mul_le_mul_right W hy; rw [Nat.succ_mul] at this; exact this
  clear hm
  go_enter Tryd.func67, Tryd.ntmps67
  go_wp2_with fail
  go_quiet (fail)
  rw [show m + W - m = W by omega, show N - m = r by omega]
  go_wp2_with fail
  go_ret
  exact ⟨rfl, below_drewN _ _⟩
def partF (L : Nat → Cel) (m W x0 x1 : Nat) : Nat → Cel := cutF (cutF L m W x0) m W x1
set_option maxHeartbeats 2000000 in
theorem pPart (bg g W H N : Nat) (G : Nat → Nat → Cel) (x0 x1 y m r : Nat) (w : World) (h : GrAt w bg g W H N G) (hy : y < H) (hm : y * W = m) (hr : m + r = N) (hx : x0 < x1) (hx1 : x1 ≤ W) :
    Calls Tryd.prog 68 #[.pointer (some ⟨bg, 0, none⟩), .int .i64 x0, .int .i64 x1, .int .i64 y] w fun e w' => e = .returned (.slice (some ⟨g, (m + x0) * 7, none⟩) (x1 - x0 : Nat) (r - x0 : Nat)) ∧ Flat w' g N (partF (lin W G) m W x0 x1) ∧ Keep (fun i => i = g) w w' := by
  have nle := h.nle
  have hmw : m + W ≤ N := by rw [← hm, h.hN]; have := Nat.mul_le_mul_right W hy; rw [Nat.succ_mul] at this; exact this
  have w1 := h.w1
  have w2 := h.w2
  have HG : Hid (GrAt w bg g W H N G) := h
  have Hm : Hid (y * W = m) := hm
  clear h hm
  go_enter Tryd.func68, Tryd.ntmps68
  go_wp2_with fail
  go_at_call 67
  refine (pLine bg g W H N G y m r _ HG.out hy Hm.out hr).mono ?_
  rintro e w1 ⟨rfl, hb1⟩
  have HF1 : Hid (Flat w1 g N (lin W G)) := HG.out.flat.same (hb1.block _ HG.out.glt)
  have K1 : Keep (fun i => i = g) w w1 := Keep.below _ hb1
  clear hb1
  go_wp2_with fail
  go_at_call 89
  refine (pCut g N m W r x0 _ _ HF1.out hmw (by omega) nle (by omega)).mono ?_
  rintro e w3 ⟨rfl, F3, k3⟩
  have HF3 : Hid (Flat w3 g N (cutF (lin W G) m W x0)) := F3
  have K3 := K1.trans k3 (fun _ _ h => h)
  clear F3 k3 HF1
  go_wp2_with fail
  go_at_call 89
  refine (pCut g N m W r x1 _ _ HF3.out hmw (by omega) nle (by omega)).mono ?_
  rintro e w4 ⟨rfl, F4, k4⟩
  have HF4 : Hid (Flat w4 g N (partF (lin W G) m W x0 x1)) := F4
  have K4 := K3.trans k4 (fun _ _ h => h)
  clear F4 k4 HF3 K1 K3
  go_wp2_with fail
  rw [show m * 7 + x0 * 7 = (m + x0) * 7 by omega]
  go_ret
  exact ⟨rfl, HF4.out, K4⟩
set_option maxHeartbeats 1000000 in
theorem pCell (bg g W H N : Nat) (G : Nat → Nat → Cel) (x y : Nat) (w : World) (h : GrAt w bg g W H N G) (hx : x < W) (hy : y < H) :
    Calls Tryd.prog 60 #[.pointer (some ⟨bg, 0, none⟩), .int .i64 x, .int .i64 y] w fun e w' => e = .returned (G x y).agg ∧ Below w.heap.size w w' := by
  have hl : y * W + x < N := by rw [h.hN]; exact place_lt (by omega) (by omega)
  have hlen := h.nle
  have h0 := h.c0
  have h2 := h.c2
  have hc := h.grid.cel x y (by omega) (by omega)
  obtain ⟨i, hi⟩ : ∃ i, y * W + x = i := ⟨_, rfl⟩
  obtain ⟨m, hm⟩ : ∃ m, y * W = m := ⟨_, rfl⟩
  rw [hi] at hl hc
  rw [hm] at hi
  generalize G x y = c at *
  clear h
  have hw1 : IntKind.i64.wrap ((y : Int) * (W : Int)) = (m : Int) := by rw [← Int.natCast_mul, hm]; exact wrap_id _ (by omega) (by omega)
  have hw2 : IntKind.i64.wrap ((m : Int) + (x : Int)) = (i : Int) := by rw [wrap_id _ (by omega) (by omega)]; omega
  have hi1 : (0 : Int) ≤ (i : Int) := by omega
  have hi2 : (i : Int) < (N : Int) := by omega
  clear hm hi
  obtain ⟨c0, c1, c2, c3, c4, c5, c6⟩ := hc
  have n1 := World.new_ne w _ h0
  have n2 := World.new_ne w _ c0
  go_enter Tryd.func60, Tryd.ntmps60
  go_wp2
  go_region_held3 (fun w' => w'.cell? ⟨bg, 0, none⟩ = some (.int .i64 W) ∧ w'.cell? ⟨bg, 2, none⟩ = some (.slice (some ⟨g, 0, none⟩) N N) ∧ w'.cell? ⟨g, i * 7, none⟩ = some (.int .i32 c.r) ∧ w'.cell? ⟨g, i * 7 + 1, none⟩ = some (.int .i64 c.p) ∧ w'.cell? ⟨g, i * 7 + 2, none⟩ = some (.int .i64 c.n.f) ∧ w'.cell? ⟨g, i * 7 + 3, none⟩ = some (.int .i64 c.n.b) ∧ w'.cell? ⟨g, i * 7 + 4, none⟩ = some (.bool c.n.bo) ∧ w'.cell? ⟨g, i * 7 + 5, none⟩ = some (.bool c.n.un) ∧ w'.cell? ⟨g, i * 7 + 6, none⟩ = some (.bool c.n.re)) (go_keep) (fail)
  go_wp2
  exact bodyPost_ret (v := c.agg) (by simp [results, Tryd.results60, go_sem]) rfl ⟨rfl, ((Below.refl _ _).alloc (Nat.le_refl _) _).drew⟩
end Go.Proofs.YtjlfibhbfdckpaaDoor
