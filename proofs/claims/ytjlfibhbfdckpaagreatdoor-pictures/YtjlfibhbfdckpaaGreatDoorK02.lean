/- Texts of the proof, one behind the other: Gr, Gr2, Rw, Gr3. -/
import Derived.Test.YtjlfibhbfdckpaaGreatDoorK01
import Derived.Deep.AppendLies
/- Grids of cells: plain mathematics. -/
namespace Go.Proofs.YtjlfibhbfdckpaaGreatDoor
open Wd (wd)
/-- Is there such a cell? -/
def inG (W H : Nat) (x y : Int) : Bool := decide (0 ≤ x) && decide (x < W) && decide (0 ≤ y) && decide (y < H)
theorem inG_iff {W H : Nat} {x y : Int} : inG W H x y = true ↔ 0 ≤ x ∧ x < W ∧ 0 ≤ y ∧ y < H := by simp [inG, and_assoc]
/-- A cell is another one; its other half, if it has one, is broken. -/
def setG (W H : Nat) (G : Nat → Nat → Cel) (x y : Int) (k : Cel) : Nat → Nat → Cel :=
  if inG W H x y = true then
    upd (if (G x.toNat y.toNat).p = 1 then upd G (x.toNat + 1) y.toNat (blk (G x.toNat y.toNat).n) else if (G x.toNat y.toNat).p = 2 then upd G (x.toNat - 1) y.toNat (blk (G x.toNat y.toNat).n) else G) x.toNat y.toNat k
  else G
/-- What a grid is: heads have tails, tails heads, letters are of their width. -/
structure Wf (W H : Nat) (G : Nat → Nat → Cel) : Prop where
  part : ∀ x y, x < W → y < H → ((G x y).p = 0 ∧ wd (G x y).r = 1) ∨ ((G x y).p = 1 ∧ wd (G x y).r = 2) ∨ ((G x y).p = 2 ∧ wd (G x y).r = 2)
  head : ∀ x y, x < W → y < H → (G x y).p = 1 → x + 1 < W ∧ G (x + 1) y = ⟨(G x y).r, 2, (G x y).n⟩
  tail : ∀ x y, x < W → y < H → (G x y).p = 2 → 1 ≤ x ∧ G (x - 1) y = ⟨(G x y).r, 1, (G x y).n⟩
/-- The cells of P are written; halves that lose their other half are broken. -/
def wrt (G : Nat → Nat → Cel) (P : Nat → Nat → Bool) (v : Nat → Nat → Cel) : Nat → Nat → Cel := fun a b =>
  if P a b = true then v a b else if ((G a b).p = 1 ∧ P (a + 1) b = true) ∨ ((G a b).p = 2 ∧ 1 ≤ a ∧ P (a - 1) b = true) then blk (G a b).n else G a b
/-- One cell. -/
def pt (x y : Nat) : Nat → Nat → Bool := fun a b => decide (a = x) && decide (b = y)
theorem pt_iff {x y a b : Nat} : pt x y a b = true ↔ a = x ∧ b = y := by simp [pt]
def EqOn (W H : Nat) (G K : Nat → Nat → Cel) : Prop := ∀ x y, x < W → y < H → G x y = K x y
theorem EqOn.symm {W H : Nat} {G K : Nat → Nat → Cel} (h : EqOn W H G K) : EqOn W H K G := fun x y hx hy => (h x y hx hy).symm
theorem EqOn.trans {W H : Nat} {G K L : Nat → Nat → Cel} (h : EqOn W H G K) (k : EqOn W H K L) : EqOn W H G L := fun x y hx hy => (h x y hx hy).trans (k x y hx hy)
theorem Cels.congr {w : World} {bc g cap W H N : Nat} {G K : Nat → Nat → Cel} (h : Cels w bc g cap W H N G) (e : EqOn W H G K) : Cels w bc g cap W H N K :=
  ⟨h.blk, ⟨fun x y hx hy => by rw [← e x y hx hy]; exact h.grid.cel x y hx hy, h.grid.free⟩, h.hN, h.ne, h.w1, h.w2, h.h1, h.h2⟩
theorem Wf.congr {W H : Nat} {G K : Nat → Nat → Cel} (h : Wf W H G) (e : EqOn W H G K) : Wf W H K := by
  refine ⟨fun x y hx hy => ?_, fun x y hx hy hp => ?_, fun x y hx hy hp => ?_⟩
  · rw [← e x y hx hy]; exact h.part x y hx hy
  · rw [← e x y hx hy] at hp ⊢
    obtain ⟨a, b⟩ := h.head x y hx hy hp
    exact ⟨a, by rw [← e _ _ a hy]; exact b⟩
  · rw [← e x y hx hy] at hp ⊢
    obtain ⟨a, b⟩ := h.tail x y hx hy hp
    exact ⟨a, by rw [← e _ _ (by omega) hy]; exact b⟩
theorem wd_32 : wd 32 = 1 := by decide
theorem blk_p (n : Pn) : (blk n).p = 0 := rfl
theorem blk_r (n : Pn) : (blk n).r = 32 := rfl
theorem blk_n (n : Pn) : (blk n).n = n := rfl
/-- Writing twice. -/
theorem wr_wr (G : Nat → Nat → Cel) (P Q : Nat → Nat → Bool) (v u : Nat → Nat → Cel) (hv : ∀ a b, P a b = true → Q a b = false → (v a b).p = 0) :
    wrt (wrt G P v) Q u = wrt G (fun a b => P a b || Q a b) (fun a b => if Q a b = true then u a b else v a b) := by
  funext a b
  unfold wrt
  by_cases hQ : Q a b = true
  · simp [hQ]
  · have hQ' : Q a b = false := by simpa using hQ
    by_cases hP : P a b = true
    · have := hv a b hP hQ'
      simp [hQ', hP, this]
    · have hP' : P a b = false := by simpa using hP
      simp only [hQ', hP', Bool.false_eq_true, if_false, Bool.or_false, Bool.or_eq_true]
      by_cases h1 : ((G a b).p = 1 ∧ P (a + 1) b = true) ∨ ((G a b).p = 2 ∧ 1 ≤ a ∧ P (a - 1) b = true)
      · rw [if_pos h1]
        have h2 : ((G a b).p = 1 ∧ (P (a + 1) b = true ∨ Q (a + 1) b = true)) ∨ ((G a b).p = 2 ∧ 1 ≤ a ∧ (P (a - 1) b = true ∨ Q (a - 1) b = true)) := by
          rcases h1 with ⟨p, q⟩ | ⟨p, q, r⟩
          · exact .inl ⟨p, .inl q⟩
          · exact .inr ⟨p, q, .inl r⟩
        rw [if_pos h2]
        simp [blk]
      · rw [if_neg h1]
        by_cases h3 : ((G a b).p = 1 ∧ Q (a + 1) b = true) ∨ ((G a b).p = 2 ∧ 1 ≤ a ∧ Q (a - 1) b = true)
        · have h2 : ((G a b).p = 1 ∧ (P (a + 1) b = true ∨ Q (a + 1) b = true)) ∨ ((G a b).p = 2 ∧ 1 ≤ a ∧ (P (a - 1) b = true ∨ Q (a - 1) b = true)) := by
            rcases h3 with ⟨p, q⟩ | ⟨p, q, r⟩
            · exact .inl ⟨p, .inr q⟩
            · exact .inr ⟨p, q, .inr r⟩
          rw [if_pos h3, if_pos h2]
        · have h2 : ¬ (((G a b).p = 1 ∧ (P (a + 1) b = true ∨ Q (a + 1) b = true)) ∨ ((G a b).p = 2 ∧ 1 ≤ a ∧ (P (a - 1) b = true ∨ Q (a - 1) b = true))) := by
            rintro (⟨p, q | q⟩ | ⟨p, q, r | r⟩)
            · exact h1 (.inl ⟨p, q⟩)
            · exact h3 (.inl ⟨p, q⟩)
            · exact h1 (.inr ⟨p, q, r⟩)
            · exact h3 (.inr ⟨p, q, r⟩)
          rw [if_neg h3, if_neg h2]
/-- Written cells that make whole letters keep a grid one. -/
theorem Wf.wr_of {W H : Nat} {G : Nat → Nat → Cel} (h : Wf W H G) {P : Nat → Nat → Bool} {v : Nat → Nat → Cel}
    (hp : ∀ x y, x < W → y < H → P x y = true → ((v x y).p = 0 ∧ wd (v x y).r = 1) ∨ ((v x y).p = 1 ∧ wd (v x y).r = 2) ∨ ((v x y).p = 2 ∧ wd (v x y).r = 2))
    (hh : ∀ x y, x < W → y < H → P x y = true → (v x y).p = 1 → x + 1 < W ∧ P (x + 1) y = true ∧ v (x + 1) y = ⟨(v x y).r, 2, (v x y).n⟩)
    (ht : ∀ x y, x < W → y < H → P x y = true → (v x y).p = 2 → 1 ≤ x ∧ P (x - 1) y = true ∧ v (x - 1) y = ⟨(v x y).r, 1, (v x y).n⟩) : Wf W H (wrt G P v) := by
  refine ⟨fun x y hx hy => ?_, fun x y hx hy hq => ?_, fun x y hx hy hq => ?_⟩
  · unfold Go.Proofs.YtjlfibhbfdckpaaGreatDoor.wrt
    split
    · exact hp x y hx hy ‹_›
    · split
      · exact .inl ⟨rfl, wd_32⟩
      · exact h.part x y hx hy
  · unfold Go.Proofs.YtjlfibhbfdckpaaGreatDoor.wrt at hq ⊢
    by_cases hP : P x y = true
    · rw [if_pos hP] at hq ⊢
      obtain ⟨a, b, c⟩ := hh x y hx hy hP hq
      exact ⟨a, by rw [if_pos b]; exact c⟩
    · rw [if_neg hP] at hq ⊢
      split at hq
      · simp [blk] at hq
      · rename_i hn
        rw [if_neg hn]
        obtain ⟨a, b⟩ := h.head x y hx hy hq
        have hP1 : ¬ P (x + 1) y = true := fun e => hn (.inl ⟨hq, e⟩)
        refine ⟨a, ?_⟩
        rw [if_neg hP1, if_neg, b]
        rw [b]
        simp [hP]
  · unfold Go.Proofs.YtjlfibhbfdckpaaGreatDoor.wrt at hq ⊢
    by_cases hP : P x y = true
    · rw [if_pos hP] at hq ⊢
      obtain ⟨a, b, c⟩ := ht x y hx hy hP hq
      exact ⟨a, by rw [if_pos b]; exact c⟩
    · rw [if_neg hP] at hq ⊢
      split at hq
      · simp [blk] at hq
      · rename_i hn
        rw [if_neg hn]
        obtain ⟨a, b⟩ := h.tail x y hx hy hq
        have hP1 : ¬ P (x - 1) y = true := fun e => hn (.inr ⟨hq, a, e⟩)
        refine ⟨a, ?_⟩
        have e1 : x - 1 + 1 = x := by omega
        rw [if_neg hP1, if_neg, b]
        rw [b, e1]
        simp [hP]
/-- Whole cells alone. -/
theorem Wf.wrWhole {W H : Nat} {G : Nat → Nat → Cel} (h : Wf W H G) {P : Nat → Nat → Bool} {v : Nat → Nat → Cel} (hv : ∀ x y, x < W → y < H → P x y = true → (v x y).p = 0 ∧ wd (v x y).r = 1) : Wf W H (wrt G P v) :=
  h.wr_of (fun x y hx hy hP => .inl (hv x y hx hy hP)) (fun x y hx hy hP h1 => by have := (hv x y hx hy hP).1; omega) (fun x y hx hy hP h1 => by have := (hv x y hx hy hP).1; omega)
/-- The document's set is a writing of one cell. -/
theorem setG_wr {W H : Nat} {G : Nat → Nat → Cel} (h : Wf W H G) {x y : Nat} (hx : x < W) (hy : y < H) (k : Cel) : EqOn W H (setG W H G x y k) (wrt G (pt x y) (fun _ _ => k)) := by
  intro a b ha hb
  have hin : inG W H x y = true := inG_iff.2 (by omega)
  unfold setG wrt
  rw [if_pos hin]
  simp only [Int.toNat_natCast, pt_iff]
  unfold upd
  by_cases e : a = x ∧ b = y
  · rw [if_pos e, if_pos e]
  · rw [if_neg e, if_neg e]
    by_cases p1 : (G x y).p = 1
    · obtain ⟨q1, q2⟩ := h.head x y hx hy p1
      rw [if_pos p1]
      by_cases e2 : a = x + 1 ∧ b = y
      · obtain ⟨rfl, rfl⟩ := e2
        rw [if_pos ⟨rfl, rfl⟩, if_pos (.inr ⟨by rw [q2], by omega, by omega, rfl⟩), q2]
      · rw [if_neg e2, if_neg]
        rintro (⟨r1, r2, r3⟩ | ⟨r1, r2, r3, r4⟩)
        · subst r3
          obtain ⟨s1, s2⟩ := h.head a b ha hb r1
          rw [r2] at s2
          rw [s2] at p1
          exact absurd p1 (by simp)
        · exact e2 ⟨by omega, r4⟩
    · rw [if_neg p1]
      by_cases p2 : (G x y).p = 2
      · obtain ⟨q1, q2⟩ := h.tail x y hx hy p2
        rw [if_pos p2]
        by_cases e2 : a = x - 1 ∧ b = y
        · obtain ⟨rfl, rfl⟩ := e2
          rw [if_pos ⟨rfl, rfl⟩, if_pos (.inl ⟨by rw [q2], by omega, rfl⟩), q2]
        · rw [if_neg e2, if_neg]
          rintro (⟨r1, r2, r3⟩ | ⟨r1, r2, r3, r4⟩)
          · exact e2 ⟨by omega, r3⟩
          · subst r4
            obtain ⟨s1, s2⟩ := h.tail a b ha hb r1
            rw [r3] at s2
            rw [s2] at p2
            exact absurd p2 (by simp)
      · rw [if_neg p2, if_neg]
        rintro (⟨r1, r2, r3⟩ | ⟨r1, r2, r3, r4⟩)
        · subst r3
          obtain ⟨s1, s2⟩ := h.head a b ha hb r1
          rw [r2] at s2
          rw [s2] at p2
          exact p2 rfl
        · subst r4
          obtain ⟨s1, s2⟩ := h.tail a b ha hb r1
          rw [r3] at s2
          rw [s2] at p1
          exact p1 rfl
theorem Wf.half {W H : Nat} {G : Nat → Nat → Cel} (h : Wf W H G) (x y : Int) : inG W H x y = true → ((G x.toNat y.toNat).p = 1 → x + 1 < W) ∧ ((G x.toNat y.toNat).p = 2 → 1 ≤ x) := by
  intro hin
  obtain ⟨a, b, c, d⟩ := inG_iff.1 hin
  refine ⟨fun hp => ?_, fun hp => ?_⟩
  · have := (h.head x.toNat y.toNat (by omega) (by omega) hp).1; omega
  · have := (h.tail x.toNat y.toNat (by omega) (by omega) hp).1; omega
/-- The cells of a line from one column to another (not that one). -/
def rg (f t : Int) (y : Nat) : Nat → Nat → Bool := fun a b => decide (b = y) && decide (f ≤ a) && decide ((a : Int) < t)
theorem rg_iff {f t : Int} {y a b : Nat} : rg f t y a b = true ↔ b = y ∧ f ≤ a ∧ (a : Int) < t := by simp [rg, and_assoc]
theorem wr_congr {G : Nat → Nat → Cel} {P Q : Nat → Nat → Bool} {v : Nat → Nat → Cel} (h : ∀ a b, P a b = Q a b) : wrt G P v = wrt G Q v := by
  have : P = Q := by funext a b; exact h a b
  rw [this]
theorem wr_none (G : Nat → Nat → Cel) (P : Nat → Nat → Bool) (v : Nat → Nat → Cel) (h : ∀ a b, P a b = false) : wrt G P v = G := by
  funext a b; simp [wrt, h]
theorem wr_blk_next (G : Nat → Nat → Cel) (f t : Int) (x y : Nat) (n : Pn) (h1 : f ≤ x) (h2 : (x : Int) < t) :
    wrt (wrt G (fun a b => rg f t y a b && decide (a < x)) (fun _ _ => blk n)) (pt x y) (fun _ _ => blk n) = wrt G (fun a b => rg f t y a b && decide (a < x + 1)) (fun _ _ => blk n) := by
  rw [wr_wr _ _ _ _ _ (fun _ _ _ _ => rfl)]
  have e : (fun a b => if pt x y a b = true then blk n else blk n) = fun (_ _ : Nat) => blk n := by funext a b; simp
  rw [e]
  refine wr_congr fun a b => ?_
  rw [Bool.eq_iff_iff]
  simp [rg, pt]
  omega
theorem Wf.blk {W H : Nat} {G : Nat → Nat → Cel} (h : Wf W H G) (P : Nat → Nat → Bool) (n : Pn) : Wf W H (wrt G P (fun _ _ => blk n)) :=
  h.wrWhole (fun _ _ _ _ _ => ⟨rfl, wd_32⟩)
end Go.Proofs.YtjlfibhbfdckpaaGreatDoor

/- Grids of cells: more plain mathematics. -/
namespace Go.Proofs.YtjlfibhbfdckpaaGreatDoor
open Wd (wd)
/-- What is written outside the grid does not matter. -/
theorem wr_dom {W H : Nat} {G : Nat → Nat → Cel} (h : Wf W H G) {P Q : Nat → Nat → Bool} {v u : Nat → Nat → Cel} (e : ∀ a b, a < W → b < H → P a b = Q a b) (ev : ∀ a b, a < W → b < H → P a b = true → v a b = u a b) : EqOn W H (wrt G P v) (wrt G Q u) := by
  intro a b ha hb
  unfold wrt
  rw [e a b ha hb]
  by_cases hQ : Q a b = true
  · rw [if_pos hQ, if_pos hQ]; exact ev a b ha hb (by rw [e a b ha hb]; exact hQ)
  · rw [if_neg hQ, if_neg hQ]
    have c : (((G a b).p = 1 ∧ P (a + 1) b = true) ∨ ((G a b).p = 2 ∧ 1 ≤ a ∧ P (a - 1) b = true)) ↔ (((G a b).p = 1 ∧ Q (a + 1) b = true) ∨ ((G a b).p = 2 ∧ 1 ≤ a ∧ Q (a - 1) b = true)) := by
      constructor
      · rintro (⟨p, q⟩ | ⟨p, q, r⟩)
        · exact .inl ⟨p, by rw [← e _ _ (h.head a b ha hb p).1 hb]; exact q⟩
        · exact .inr ⟨p, q, by rw [← e _ _ (by omega) hb]; exact r⟩
      · rintro (⟨p, q⟩ | ⟨p, q, r⟩)
        · exact .inl ⟨p, by rw [e _ _ (h.head a b ha hb p).1 hb]; exact q⟩
        · exact .inr ⟨p, q, by rw [e _ _ (by omega) hb]; exact r⟩
    by_cases hc : ((G a b).p = 1 ∧ P (a + 1) b = true) ∨ ((G a b).p = 2 ∧ 1 ≤ a ∧ P (a - 1) b = true)
    · rw [if_pos hc, if_pos (c.1 hc)]
    · rw [if_neg hc, if_neg (fun x => hc (c.2 x))]
/-- The document's write. -/
def writeG (W H : Nat) (G : Nat → Nat → Cel) (x y : Int) (r : Int) (n : Pn) : Nat → Nat → Cel :=
  if wd r = 1 then setG W H G x y ⟨r, 0, n⟩
  else if inG W H x y = true ∧ inG W H (x + 1) y = true then upd (upd (setG W H (setG W H G x y (blk n)) (x + 1) y (blk n)) x.toNat y.toNat ⟨r, 1, n⟩) (x.toNat + 1) y.toNat ⟨r, 2, n⟩
  else setG W H (setG W H G x y (blk n)) (x + 1) y (blk n)
theorem Wf.set {W H : Nat} {G : Nat → Nat → Cel} (h : Wf W H G) (x y : Int) (k : Cel) (hp : k.p = 0) (hr : wd k.r = 1) : Wf W H (setG W H G x y k) := by
  cases hin : inG W H x y with
  | false => simp [setG, hin]; exact h
  | true =>
    obtain ⟨a, b, c, d⟩ := inG_iff.1 hin
    obtain ⟨x, rfl⟩ := Int.eq_ofNat_of_zero_le a
    obtain ⟨y, rfl⟩ := Int.eq_ofNat_of_zero_le c
    exact (h.wrWhole (P := pt x y) (v := fun _ _ => k) (fun _ _ _ _ _ => ⟨hp, hr⟩)).congr (setG_wr h (by omega) (by omega) k).symm
theorem Wf.setBlk {W H : Nat} {G : Nat → Nat → Cel} (h : Wf W H G) (x y : Int) (n : Pn) : Wf W H (setG W H G x y (Go.Proofs.YtjlfibhbfdckpaaGreatDoor.blk n)) := h.set x y _ rfl wd_32
theorem EqOn.upd {W H : Nat} {G K : Nat → Nat → Cel} (h : EqOn W H G K) (x y : Nat) (c : Cel) : EqOn W H (upd G x y c) (upd K x y c) := fun a b ha hb => by
  unfold Go.Proofs.YtjlfibhbfdckpaaGreatDoor.upd; split
  · rfl
  · exact h a b ha hb
theorem upd_wrt (G : Nat → Nat → Cel) (P : Nat → Nat → Bool) (v : Nat → Nat → Cel) (x y : Nat) (c : Cel) (hP : P x y = true) : upd (wrt G P v) x y c = wrt G P (upd v x y c) := by
  funext a b
  unfold upd wrt
  by_cases e : a = x ∧ b = y
  · obtain ⟨rfl, rfl⟩ := e; simp [hP]
  · simp [e]
theorem writeG_one {W H : Nat} {G : Nat → Nat → Cel} (h : Wf W H G) {x y : Nat} (hx : x < W) (hy : y < H) (r : Int) (n : Pn) (hr : wd r = 1) : EqOn W H (writeG W H G x y r n) (wrt G (pt x y) (fun _ _ => ⟨r, 0, n⟩)) := by
  unfold writeG; rw [if_pos hr]; exact setG_wr h hx hy _
/-- Two cells beside one another. -/
def pt2 (x y : Nat) : Nat → Nat → Bool := fun a b => pt x y a b || pt (x + 1) y a b
def wide (x : Nat) (r : Int) (n : Pn) : Nat → Nat → Cel := fun a _ => if a = x then ⟨r, 1, n⟩ else ⟨r, 2, n⟩
theorem writeG_two {W H : Nat} {G : Nat → Nat → Cel} (h : Wf W H G) {x y : Nat} (hx : x + 1 < W) (hy : y < H) (r : Int) (n : Pn) (hr : wd r = 2) : EqOn W H (writeG W H G x y r n) (wrt G (pt2 x y) (wide x r n)) := by
  have i1 : inG W H x y = true := inG_iff.2 (by omega)
  have i2 : inG W H ((x : Int) + 1) y = true := inG_iff.2 (by omega)
  unfold writeG
  rw [if_neg (by omega), if_pos ⟨i1, i2⟩]
  simp only [Int.toNat_natCast]
  have h1 := setG_wr h (x := x) (y := y) (by omega) hy (Go.Proofs.YtjlfibhbfdckpaaGreatDoor.blk n)
  have w1 : Wf W H (setG W H G x y (Go.Proofs.YtjlfibhbfdckpaaGreatDoor.blk n)) := h.setBlk _ _ _
  have h2 := setG_wr w1 (x := x + 1) (y := y) hx hy (Go.Proofs.YtjlfibhbfdckpaaGreatDoor.blk n)
  have e2 : EqOn W H (wrt (setG W H G x y (Go.Proofs.YtjlfibhbfdckpaaGreatDoor.blk n)) (pt (x + 1) y) (fun _ _ => Go.Proofs.YtjlfibhbfdckpaaGreatDoor.blk n)) (wrt (wrt G (pt x y) (fun _ _ => Go.Proofs.YtjlfibhbfdckpaaGreatDoor.blk n)) (pt (x + 1) y) (fun _ _ => Go.Proofs.YtjlfibhbfdckpaaGreatDoor.blk n)) := by
    intro a b ha hb
    unfold wrt
    have := h1 a b ha hb
    unfold wrt at this
    rw [this]
  rw [wr_wr _ _ _ _ _ (fun _ _ _ _ => rfl)] at e2
  have e3 := ((h2.trans e2).upd x y ⟨r, 1, n⟩).upd (x + 1) y ⟨r, 2, n⟩
  rw [upd_wrt _ _ _ _ _ _ (by simp [pt]), upd_wrt _ _ _ _ _ _ (by simp [pt])] at e3
  refine e3.trans (wr_dom h (fun _ _ _ _ => rfl) (fun a b _ _ hp => ?_))
  simp [pt] at hp
  unfold upd wide
  rcases hp with ⟨rfl, rfl⟩ | ⟨rfl, rfl⟩
  · simp
  · simp
theorem Wf.wide {W H : Nat} {G : Nat → Nat → Cel} (h : Wf W H G) {x y : Nat} (hx : x + 1 < W) (r : Int) (n : Pn) (hr : wd r = 2) : Wf W H (wrt G (pt2 x y) (Go.Proofs.YtjlfibhbfdckpaaGreatDoor.wide x r n)) := by
  refine h.wr_of (fun a b _ _ hp => ?_) (fun a b _ _ hp hq => ?_) (fun a b _ _ hp hq => ?_)
  · unfold Go.Proofs.YtjlfibhbfdckpaaGreatDoor.wide; split
    · exact .inr (.inl ⟨rfl, hr⟩)
    · exact .inr (.inr ⟨rfl, hr⟩)
  · unfold Go.Proofs.YtjlfibhbfdckpaaGreatDoor.wide at hq ⊢
    split at hq
    · subst a
      simp [pt2, pt] at hp ⊢
      exact ⟨hx, hp⟩
    · simp at hq
  · unfold Go.Proofs.YtjlfibhbfdckpaaGreatDoor.wide at hq ⊢
    split at hq
    · simp at hq
    · simp [pt2, pt] at hp
      rename_i hne
      obtain ⟨rfl, rfl⟩ : a = x + 1 ∧ b = y := by omega
      simp [pt2, pt]
end Go.Proofs.YtjlfibhbfdckpaaGreatDoor

/- Rows of cells that were appended. -/
namespace Go.Proofs.YtjlfibhbfdckpaaGreatDoor
open Go.RowKit
def flat (L : List Cel) : List Value := L.flatMap Cel.vals
theorem flat_append (L M : List Cel) : flat (L ++ M) = flat L ++ flat M := by simp [flat]
theorem flat_one (c : Cel) : flat [c] = c.vals := by simp [flat]
theorem flat_length (L : List Cel) : (flat L).length = L.length * 7 := by
  induction L with
  | nil => rfl
  | cons c L ih => simp [flat] at ih ⊢; omega
theorem flat_at (L : List Cel) (i : Nat) (c : Cel) (h : L[i]? = some c) (j : Nat) (v : Value) (hv : c.vals[j]? = some v) : (flat L)[i * 7 + j]? = some v := by
  induction L generalizing i with
  | nil => simp at h
  | cons d L ih =>
    have e : flat (d :: L) = d.vals ++ flat L := by simp [flat]
    rw [e]
    cases i with
    | zero =>
      simp at h; subst h
      have hj : j < 7 := by
        have := (List.getElem?_eq_some_iff.1 hv).1
        simpa using this
      rw [List.getElem?_append_left (by simpa using hj)]
      simpa using hv
    | succ i =>
      rw [List.getElem?_append_right (by simp; omega)]
      have e2 : (i + 1) * 7 + j - d.vals.length = i * 7 + j := by simp; omega
      rw [e2]
      exact ih i (by simpa using h)
theorem row_cel {w : World} {base g n cap : Nat} {L : List Cel} {t : TypeId} (h : w.ownsRow base t 7 (.slice (some ⟨g, 0, none⟩) n cap) n (flat L)) (i : Nat) (c : Cel) (hi : L[i]? = some c) : CelAt w g (i * 7) c := by
  obtain ⟨hl, h | ⟨g', cap', cur, hv, hb, hg, hn, hm, hs, ht⟩⟩ := h
  · simp at h
  · simp at hv
    obtain ⟨rfl, rfl⟩ := hv
    have key : ∀ j v, c.vals[j]? = some v → w.cell? ⟨g, i * 7 + j, none⟩ = some v := by
      intro j v hjv
      rw [cell_of_block hg]
      have := flat_at L i c hi j v hjv
      rw [← ht] at this
      have hlt := (List.getElem?_eq_some_iff.1 this).1
      rw [List.getElem?_take_of_lt (by simp at hlt; omega)] at this
      simpa using this
    exact ⟨key 0 _ rfl, key 1 _ rfl, key 2 _ rfl, key 3 _ rfl, key 4 _ rfl, key 5 _ rfl, key 6 _ rfl⟩
theorem row_free {w : World} {base g n cap : Nat} {xs : List Value} {t : TypeId} (h : w.ownsRow base t 7 (.slice (some ⟨g, 0, none⟩) n cap) n xs) (o : Nat) : w.frozen? ⟨g, o, none⟩ = false := by
  obtain ⟨hl, h | ⟨g', cap', cur, hv, hb, hg, hn, hm, hs, ht⟩⟩ := h
  · simp at h
  · simp at hv
    obtain ⟨rfl, rfl⟩ := hv
    exact frozen_of_block hg o
theorem row_ge {w : World} {base g n cap k : Nat} {xs : List Value} {t : TypeId} (h : w.ownsRow base t 7 (.slice (some ⟨g, 0, none⟩) n cap) k xs) : base ≤ g ∧ g < w.heap.size := h.lt g rfl
theorem one_vals (c : Cel) : ∀ u ∈ c.vals, u.oneCell' = true := by simp [Value.oneCell']
theorem row_same {w w' : World} {base : Nat} {v : Value} {n : Nat} {xs : List Value} {t : TypeId} (h : w.ownsRow base t 7 v n xs) (hb : ∀ g, v.ownBlock = some g → w'.heap[g]? = w.heap[g]?) : w'.ownsRow base t 7 v n xs := by
  obtain ⟨hl, h | ⟨g', cap', cur, rfl, hb', hg, rest⟩⟩ := h
  · exact ⟨hl, .inl h⟩
  · exact ⟨hl, .inr ⟨g', cap', cur, rfl, hb', by rw [hb g' rfl]; exact hg, rest⟩⟩
theorem heap_set_same {w : World} {b : Nat} {C : Array Value} {t : TypeId} {fr : Nat × Nat} (h : w.heap[b]? = some (.cells C t fr)) (o : Nat) (v : Value) : (w.setCell ⟨b, o, none⟩ v).heap[b]? = some (.cells (C.setIfInBounds o v) t fr) := by
  unfold World.setCell
  simp [Array.getElem?_modify, h]
theorem Keep.grown {F : Nat → Prop} {a w w' : World} {row : Option Nat} (h : Keep F a w) (hg : w.grownBy w' row) (hr : ∀ k, row = some k → k < a.heap.size → F k) : Keep F a w' :=
  ⟨hg.os.trans h.os, hg.tape.trans h.tape, hg.output.trans h.output, Nat.le_trans h.size hg.size, fun k hk hF =>
    (hg.block k (Nat.lt_of_lt_of_le hk h.size) (fun e => hF (hr k e.symm hk))).trans (h.block k hk hF)⟩
theorem row_slice {w : World} {base t n k : Nat} {xs : List Value} {v : Value} (h : w.ownsRow base t k v n xs) (hn : 1 ≤ n) : ∃ g cap, v = .slice (some ⟨g, 0, none⟩) n cap := by
  obtain ⟨_, ⟨_, h⟩ | ⟨g, cap, _, hv, _⟩⟩ := h
  · omega
  · exact ⟨g, cap, hv⟩
theorem heap_new' (w : World) (o : Obj) (b : Nat) (hb : b = w.heap.size) : (w.alloc o).heap[b]? = some o := by subst hb; exact heap_new w o
theorem cel_new' (w : World) (c : Cel) (q : Int) (h : c.p = q) (t : TypeId) : CelAt (w.alloc (.cells #[.int .i32 c.r, .int .i64 q, .int .i64 c.n.f, .int .i64 c.n.b, .bool c.n.bo, .bool c.n.un, .bool c.n.re] t)) w.heap.size 0 c := by
  subst h
  exact ⟨cell_of_block (heap_new w _) 0, cell_of_block (heap_new w _) 1, cell_of_block (heap_new w _) 2, cell_of_block (heap_new w _) 3, cell_of_block (heap_new w _) 4, cell_of_block (heap_new w _) 5, cell_of_block (heap_new w _) 6⟩
end Go.Proofs.YtjlfibhbfdckpaaGreatDoor

/- Grids of cells: scrolling, sizing. -/
namespace Go.Proofs.YtjlfibhbfdckpaaGreatDoor
open Wd (wd)
/-- Lines move up by n. -/
def scrollG (top bot n : Int) (p : Pn) (G : Nat → Nat → Cel) : Nat → Nat → Cel := fun x y =>
  if top ≤ y ∧ (y : Int) ≤ bot then (if top ≤ y + n ∧ (y : Int) + n ≤ bot then G x (y + n).toNat else blk p) else G x y
/-- The first m cells, line behind line. -/
def cellsTo (W : Nat) (G : Nat → Nat → Cel) (m : Nat) : List Cel := (List.range m).map fun i => G (i % W) (i / W)
theorem cellsTo_length (W : Nat) (G : Nat → Nat → Cel) (m : Nat) : (cellsTo W G m).length = m := by simp [cellsTo]
theorem cellsTo_succ (W : Nat) (G : Nat → Nat → Cel) (x y : Nat) (hx : x < W) : cellsTo W G (y * W + (x + 1)) = cellsTo W G (y * W + x) ++ [G x y] := by
  unfold cellsTo
  rw [← Nat.add_assoc, List.range_succ, List.map_append]
  have a : (y * W + x) % W = x := by rw [Nat.mul_comm, Nat.mul_add_mod]; exact Nat.mod_eq_of_lt hx
  have b : (y * W + x) / W = y := by rw [Nat.mul_comm, Nat.mul_add_div (by omega)]; simp [Nat.div_eq_of_lt hx]
  simp [a, b]
theorem cellsTo_at (W : Nat) (G : Nat → Nat → Cel) (m x y : Nat) (hx : x < W) (h : y * W + x < m) : (cellsTo W G m)[y * W + x]? = some (G x y) := by
  have a : (y * W + x) % W = x := by rw [Nat.mul_comm, Nat.mul_add_mod]; exact Nat.mod_eq_of_lt hx
  have b : (y * W + x) / W = y := by rw [Nat.mul_comm, Nat.mul_add_div (by omega)]; simp [Nat.div_eq_of_lt hx]
  simp [cellsTo, List.getElem?_map, List.getElem?_range h, a, b]
theorem cels_of_row {w : World} {base bc g cap W H N : Nat} {G : Nat → Nat → Cel} (hb : w.heap[bc]? = some (.cells #[.int .i64 W, .int .i64 H, .slice (some ⟨g, 0, none⟩) N cap] 122))
    (hr : w.ownsRow base 38 7 (.slice (some ⟨g, 0, none⟩) N cap) N (flat (cellsTo W G N))) (hN : N = H * W) (ne : bc ≠ g) (w1 : 1 ≤ W) (w2 : W ≤ 40) (h1 : 1 ≤ H) (h2 : H ≤ 20) : Cels w bc g cap W H N G :=
  ⟨hb, ⟨fun x y hx hy => row_cel hr _ _ (cellsTo_at W G N x y hx (by rw [hN]; exact place_lt hx hy)), row_free hr⟩, hN, ne, w1, w2, h1, h2⟩
theorem Wf.scroll {W H : Nat} {G : Nat → Nat → Cel} (h : Wf W H G) (top bot n : Int) (p : Pn) (ht : 0 ≤ top) (hb : bot < H) : Wf W H (scrollG top bot n p G) := by
  have key : ∀ x y, x < W → y < H → (∃ y', y' < H ∧ (∀ x', scrollG top bot n p G x' y = G x' y')) ∨ (∀ x', scrollG top bot n p G x' y = Go.Proofs.YtjlfibhbfdckpaaGreatDoor.blk p) := by
    intro x y hx hy
    unfold scrollG
    by_cases h1 : top ≤ y ∧ (y : Int) ≤ bot
    · by_cases h2 : top ≤ y + n ∧ (y : Int) + n ≤ bot
      · left; exact ⟨((y : Int) + n).toNat, by omega, fun x' => by rw [if_pos h1, if_pos h2]⟩
      · right; intro x'; rw [if_pos h1, if_neg h2]
    · left; exact ⟨y, hy, fun x' => by rw [if_neg h1]⟩
  refine ⟨fun x y hx hy => ?_, fun x y hx hy hp => ?_, fun x y hx hy hp => ?_⟩
  · rcases key x y hx hy with ⟨y', hy', e⟩ | e
    · rw [e]; exact h.part x y' hx hy'
    · rw [e]; exact .inl ⟨rfl, wd_32⟩
  · rcases key x y hx hy with ⟨y', hy', e⟩ | e
    · rw [e] at hp; rw [e, e]; exact h.head x y' hx hy' hp
    · rw [e] at hp; simp [Go.Proofs.YtjlfibhbfdckpaaGreatDoor.blk] at hp
  · rcases key x y hx hy with ⟨y', hy', e⟩ | e
    · rw [e] at hp; rw [e, e]; exact h.tail x y' hx hy' hp
    · rw [e] at hp; simp [Go.Proofs.YtjlfibhbfdckpaaGreatDoor.blk] at hp
end Go.Proofs.YtjlfibhbfdckpaaGreatDoor
