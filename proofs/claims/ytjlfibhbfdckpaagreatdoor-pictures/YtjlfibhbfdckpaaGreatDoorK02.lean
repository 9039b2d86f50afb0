/- Texts of the proof, one behind the other: WdPlain, Gr. -/
import Derived.Test.YtjlfibhbfdckpaaGreatDoorK01
import Derived.WalkKit
/- The width of a letter: plain mathematics. -/
namespace Go.Proofs.YtjlfibhbfdckpaaGreatDoor.Wd
/-- Is n from a to b? -/
def inB (n a b : Int) : Bool := decide (a ≤ n) && decide (n ≤ b)
theorem inB_t {n a b : Int} (h1 : a ≤ n) (h2 : n ≤ b) : inB n a b = true := by simp [inB, h1, h2]
theorem inB_l {n a b : Int} (h1 : n < a) : inB n a b = false := by simp [inB]; omega
theorem inB_r {n a b : Int} (h1 : b < n) : inB n a b = false := by simp [inB]; omega
theorem inB_iff {n a b : Int} : inB n a b = true ↔ a ≤ n ∧ n ≤ b := by simp [inB]
theorem inB_not {n a b : Int} : inB n a b = false ↔ n < a ∨ b < n := by simp [inB]; omega
def validB (n : Int) : Bool := inB n 0 55295 || inB n 57344 1114111
def zeroB (n : Int) : Bool := !validB n || decide (n < 32) || inB n 127 159 || inB n 768 879 || inB n 8203 8207
def wideB (n : Int) : Bool := inB n 4352 4447 || inB n 11904 42191 || inB n 44032 55203 || inB n 63744 64255 || inB n 65072 65103 || inB n 65280 65376 || inB n 65504 65510 || inB n 127744 128591 || inB n 131072 262141
/-- The width. -/
def wd (n : Int) : Int := if zeroB n then 0 else if wideB n then 2 else 1
theorem wd_cases (n : Int) : wd n = 0 ∨ wd n = 1 ∨ wd n = 2 := by
  unfold wd
  cases zeroB n <;> cases wideB n <;> simp
theorem valid_cases (n : Int) : (0 ≤ n ∧ n < 55296 ∧ validB n = true) ∨ (57343 < n ∧ n ≤ 1114111 ∧ validB n = true) ∨ (n < 0 ∧ validB n = false) ∨ (55296 ≤ n ∧ n ≤ 57343 ∧ validB n = false) ∨ (1114111 < n ∧ validB n = false) := by
  have a := @inB_iff n 0 55295
  have b := @inB_iff n 57344 1114111
  unfold validB
  cases h1 : inB n 0 55295 <;> cases h2 : inB n 57344 1114111 <;> simp [h1, h2] at a b ⊢ <;> omega
theorem zero_cases (n : Int) : (validB n = false ∧ zeroB n = true) ∨ (validB n = true ∧ n < 32 ∧ zeroB n = true) ∨ (validB n = true ∧ 32 ≤ n ∧ inB n 127 159 = true ∧ zeroB n = true)
    ∨ (validB n = true ∧ 32 ≤ n ∧ inB n 127 159 = false ∧ inB n 768 879 = true ∧ zeroB n = true) ∨ (validB n = true ∧ 32 ≤ n ∧ inB n 127 159 = false ∧ inB n 768 879 = false ∧ inB n 8203 8207 = true ∧ zeroB n = true)
    ∨ (validB n = true ∧ 32 ≤ n ∧ inB n 127 159 = false ∧ inB n 768 879 = false ∧ inB n 8203 8207 = false ∧ zeroB n = false) := by
  unfold zeroB
  by_cases h0 : n < 32
  · cases validB n <;> simp [h0]
  · have h0' : 32 ≤ n := by omega
    cases validB n <;> cases inB n 127 159 <;> cases inB n 768 879 <;> cases inB n 8203 8207 <;> simp [h0, h0']
theorem wide_cases (n : Int) : (inB n 4352 4447 = true ∧ wideB n = true)
    ∨ (inB n 4352 4447 = false ∧ inB n 11904 42191 = true ∧ wideB n = true)
    ∨ (inB n 4352 4447 = false ∧ inB n 11904 42191 = false ∧ inB n 44032 55203 = true ∧ wideB n = true)
    ∨ (inB n 4352 4447 = false ∧ inB n 11904 42191 = false ∧ inB n 44032 55203 = false ∧ inB n 63744 64255 = true ∧ wideB n = true)
    ∨ (inB n 4352 4447 = false ∧ inB n 11904 42191 = false ∧ inB n 44032 55203 = false ∧ inB n 63744 64255 = false ∧ inB n 65072 65103 = true ∧ wideB n = true)
    ∨ (inB n 4352 4447 = false ∧ inB n 11904 42191 = false ∧ inB n 44032 55203 = false ∧ inB n 63744 64255 = false ∧ inB n 65072 65103 = false ∧ inB n 65280 65376 = true ∧ wideB n = true)
    ∨ (inB n 4352 4447 = false ∧ inB n 11904 42191 = false ∧ inB n 44032 55203 = false ∧ inB n 63744 64255 = false ∧ inB n 65072 65103 = false ∧ inB n 65280 65376 = false ∧ inB n 65504 65510 = true ∧ wideB n = true)
    ∨ (inB n 4352 4447 = false ∧ inB n 11904 42191 = false ∧ inB n 44032 55203 = false ∧ inB n 63744 64255 = false ∧ inB n 65072 65103 = false ∧ inB n 65280 65376 = false ∧ inB n 65504 65510 = false ∧ inB n 127744 128591 = true ∧ wideB n = true)
    ∨ (inB n 4352 4447 = false ∧ inB n 11904 42191 = false ∧ inB n 44032 55203 = false ∧ inB n 63744 64255 = false ∧ inB n 65072 65103 = false ∧ inB n 65280 65376 = false ∧ inB n 65504 65510 = false ∧ inB n 127744 128591 = false ∧ inB n 131072 262141 = true ∧ wideB n = true)
    ∨ (inB n 4352 4447 = false ∧ inB n 11904 42191 = false ∧ inB n 44032 55203 = false ∧ inB n 63744 64255 = false ∧ inB n 65072 65103 = false ∧ inB n 65280 65376 = false ∧ inB n 65504 65510 = false ∧ inB n 127744 128591 = false ∧ inB n 131072 262141 = false ∧ wideB n = false) := by
  cases h0 : inB n 4352 4447 with
  | true => simp [wideB, h0]
  | false =>
   cases h1 : inB n 11904 42191 with
   | true => simp [wideB, h0, h1]
   | false =>
    cases h2 : inB n 44032 55203 with
    | true => simp [wideB, h0, h1, h2]
    | false =>
     cases h3 : inB n 63744 64255 with
     | true => simp [wideB, h0, h1, h2, h3]
     | false =>
      cases h4 : inB n 65072 65103 with
      | true => simp [wideB, h0, h1, h2, h3, h4]
      | false =>
       cases h5 : inB n 65280 65376 with
       | true => simp [wideB, h0, h1, h2, h3, h4, h5]
       | false =>
        cases h6 : inB n 65504 65510 with
        | true => simp [wideB, h0, h1, h2, h3, h4, h5, h6]
        | false =>
         cases h7 : inB n 127744 128591 with
         | true => simp [wideB, h0, h1, h2, h3, h4, h5, h6, h7]
         | false =>
          cases h8 : inB n 131072 262141 with
          | true => simp [wideB, h0, h1, h2, h3, h4, h5, h6, h7, h8]
          | false =>
           simp [wideB, h0, h1, h2, h3, h4, h5, h6, h7, h8]
/-- The document's two tables. -/
def zeroL : List (Int × Int) := [(127, 159), (768, 879), (8203, 8207), (55296, 57343)]
def wideL : List (Int × Int) := [(4352, 4447), (11904, 42191), (44032, 55203), (63744, 64255), (65072, 65103), (65280, 65376), (65504, 65510), (127744, 128591), (131072, 262141)]
def anyB (n : Int) (l : List (Int × Int)) : Bool := l.any fun p => inB n p.1 p.2
theorem wide_any (n : Int) : anyB n wideL = wideB n := by
  simp [anyB, wideL, wideB, Bool.or_assoc]
theorem zero_any (n : Int) : zeroB n = (decide (n < 32) || decide (1114111 < n) || anyB n zeroL) := by
  rw [Bool.eq_iff_iff]
  simp [anyB, zeroL, zeroB, validB, inB]
  omega
theorem any_step (n : Int) (l : List (Int × Int)) (k : Nat) (a b : Int) (h : l[k]? = some (a, b)) (h1 : anyB n (l.take k) = false) (h2 : inB n a b = false) : anyB n (l.take (k + 1)) = false := by
  rw [List.take_add_one, h]
  simp only [anyB, List.any_append, Option.toList, List.any_cons, List.any_nil, Bool.or_false] at *
  simp [h1, h2]
theorem any_hit (n : Int) (l : List (Int × Int)) (k : Nat) (a b : Int) (h : l[k]? = some (a, b)) (h2 : inB n a b = true) : anyB n l = true := by
  simp only [anyB, List.any_eq_true]
  exact ⟨(a, b), List.mem_of_getElem? h, h2⟩
theorem wd_zero (n : Int) (h : anyB n zeroL = true) : wd n = 0 := by simp [wd, zero_any, h]
theorem wd_two (n : Int) (h1 : 32 ≤ n) (h2 : n ≤ 1114111) (h : anyB n zeroL = false) (h3 : anyB n wideL = true) : wd n = 2 := by
  have a : ¬ n < 32 := by omega
  have b : ¬ 1114111 < n := by omega
  rw [wide_any] at h3
  simp [wd, zero_any, h, a, b, h3]
theorem wd_one (n : Int) (h1 : 32 ≤ n) (h2 : n ≤ 1114111) (h : anyB n zeroL = false) (h3 : anyB n wideL = false) : wd n = 1 := by
  have a : ¬ n < 32 := by omega
  have b : ¬ 1114111 < n := by omega
  rw [wide_any] at h3
  simp [wd, zero_any, h, a, b, h3]
end Go.Proofs.YtjlfibhbfdckpaaGreatDoor.Wd

/- Grids of cells: plain mathematics. -/
namespace Go.Proofs.YtjlfibhbfdckpaaGreatDoor
open Wd (wd)
/-- Is there such a cell? -/
def inG (W H : Nat) (x y : Int) : Bool := decide (0 ≤ x) && decide (x < W) && decide (0 ≤ y) && decide (y < H)
theorem inG_iff {W H : Nat} {x y : Int} : inG W H x y = true ↔ 0 ≤ x ∧ x < W ∧ 0 ≤ y ∧ y < H := by simp [inG, and_assoc]
/-- A cell is another one; its other half, if it has one, is broken. -/
def setG (W H : Nat) (G : Nat → Nat → Cel) (x y : Int) (k : Cel) : Nat → Nat → Cel :=
  if inG W H x y = true then
    upd (if (G x.toNat y.toNat).p = 1 then upd G (x.toNat + 1) y.toNat (blk (G x.toNat y.toNat).n) else if (G x.toNat y.toNat).p = 2 then upd G (x.toNat - 1) y.toNat (blk (G x.toNat y.toNat).n) else G) x.toNat y.toNat k
  else G
/-- What a grid is: heads have tails, tails heads, letters are of their width. -/
structure Wf (W H : Nat) (G : Nat → Nat → Cel) : Prop where
  part : ∀ x y, x < W → y < H → ((G x y).p = 0 ∧ wd (G x y).r = 1) ∨ ((G x y).p = 1 ∧ wd (G x y).r = 2) ∨ ((G x y).p = 2 ∧ wd (G x y).r = 2)
  head : ∀ x y, x < W → y < H → (G x y).p = 1 → x + 1 < W ∧ G (x + 1) y = ⟨(G x y).r, 2, (G x y).n⟩
  tail : ∀ x y, x < W → y < H → (G x y).p = 2 → 1 ≤ x ∧ G (x - 1) y = ⟨(G x y).r, 1, (G x y).n⟩
/-- The cells of P are written; halves that lose their other half are broken. -/
def wrt (G : Nat → Nat → Cel) (P : Nat → Nat → Bool) (v : Nat → Nat → Cel) : Nat → Nat → Cel := fun a b =>
  if P a b = true then v a b else if ((G a b).p = 1 ∧ P (a + 1) b = true) ∨ ((G a b).p = 2 ∧ 1 ≤ a ∧ P (a - 1) b = true) then blk (G a b).n else G a b
/-- One cell. -/
def pt (x y : Nat) : Nat → Nat → Bool := fun a b => decide (a = x) && decide (b = y)
theorem pt_iff {x y a b : Nat} : pt x y a b = true ↔ a = x ∧ b = y := by simp [pt]
def EqOn (W H : Nat) (G K : Nat → Nat → Cel) : Prop := ∀ x y, x < W → y < H → G x y = K x y
theorem EqOn.symm {W H : Nat} {G K : Nat → Nat → Cel} (h : EqOn W H G K) : EqOn W H K G := fun x y hx hy => (h x y hx hy).symm
theorem EqOn.trans {W H : Nat} {G K L : Nat → Nat → Cel} (h : EqOn W H G K) (k : EqOn W H K L) : EqOn W H G L := fun x y hx hy => (h x y hx hy).trans (k x y hx hy)
theorem Cels.congr {w : World} {bc g cap W H N : Nat} {G K : Nat → Nat → Cel} (h : Cels w bc g cap W H N G) (e : EqOn W H G K) : Cels w bc g cap W H N K :=
  ⟨h.blk, ⟨fun x y hx hy => by rw [← e x y hx hy]; exact h.grid.cel x y hx hy, h.grid.free⟩, h.hN, h.ne, h.w1, h.w2, h.h1, h.h2⟩
theorem Wf.congr {W H : Nat} {G K : Nat → Nat → Cel} (h : Wf W H G) (e : EqOn W H G K) : Wf W H K := by
  refine ⟨fun x y hx hy => ?_, fun x y hx hy hp => ?_, fun x y hx hy hp => ?_⟩
  · rw [← e x y hx hy]; exact h.part x y hx hy
  · rw [← e x y hx hy] at hp ⊢
    obtain ⟨a, b⟩ := h.head x y hx hy hp
    exact ⟨a, by rw [← e _ _ a hy]; exact b⟩
  · rw [← e x y hx hy] at hp ⊢
    obtain ⟨a, b⟩ := h.tail x y hx hy hp
    exact ⟨a, by rw [← e _ _ (by omega) hy]; exact b⟩
theorem wd_32 : wd 32 = 1 := by decide
theorem blk_p (n : Pn) : (blk n).p = 0 := rfl
theorem blk_r (n : Pn) : (blk n).r = 32 := rfl
theorem blk_n (n : Pn) : (blk n).n = n := rfl
/-- Writing twice. -/
theorem wr_wr (G : Nat → Nat → Cel) (P Q : Nat → Nat → Bool) (v u : Nat → Nat → Cel) (hv : ∀ a b, P a b = true → Q a b = false → (v a b).p = 0) :
    wrt (wrt G P v) Q u = wrt G (fun a b => P a b || Q a b) (fun a b => if Q a b = true then u a b else v a b) := by
  funext a b
  unfold wrt
  by_cases hQ : Q a b = true
  · simp [hQ]
  · have hQ' : Q a b = false := by simpa using hQ
    by_cases hP : P a b = true
    · have := hv a b hP hQ'
      simp [hQ', hP, this]
    · have hP' : P a b = false := by simpa using hP
      simp only [hQ', hP', Bool.false_eq_true, if_false, Bool.or_false, Bool.or_eq_true]
      by_cases h1 : ((G a b).p = 1 ∧ P (a + 1) b = true) ∨ ((G a b).p = 2 ∧ 1 ≤ a ∧ P (a - 1) b = true)
      · rw [if_pos h1]
        have h2 : ((G a b).p = 1 ∧ (P (a + 1) b = true ∨ Q (a + 1) b = true)) ∨ ((G a b).p = 2 ∧ 1 ≤ a ∧ (P (a - 1) b = true ∨ Q (a - 1) b = true)) := by
          rcases h1 with ⟨p, q⟩ | ⟨p, q, r⟩
          · exact .inl ⟨p, .inl q⟩
          · exact .inr ⟨p, q, .inl r⟩
        rw [if_pos h2]
        simp [blk]
      · rw [if_neg h1]
        by_cases h3 : ((G a b).p = 1 ∧ Q (a + 1) b = true) ∨ ((G a b).p = 2 ∧ 1 ≤ a ∧ Q (a - 1) b = true)
        · have h2 : ((G a b).p = 1 ∧ (P (a + 1) b = true ∨ Q (a + 1) b = true)) ∨ ((G a b).p = 2 ∧ 1 ≤ a ∧ (P (a - 1) b = true ∨ Q (a - 1) b = true)) := by
            rcases h3 with ⟨p, q⟩ | ⟨p, q, r⟩
            · exact .inl ⟨p, .inr q⟩
            · exact .inr ⟨p, q, .inr r⟩
          rw [if_pos h3, if_pos h2]
        · have h2 : ¬ (((G a b).p = 1 ∧ (P (a + 1) b = true ∨ Q (a + 1) b = true)) ∨ ((G a b).p = 2 ∧ 1 ≤ a ∧ (P (a - 1) b = true ∨ Q (a - 1) b = true))) := by
            rintro (⟨p, q | q⟩ | ⟨p, q, r | r⟩)
            · exact h1 (.inl ⟨p, q⟩)
            · exact h3 (.inl ⟨p, q⟩)
            · exact h1 (.inr ⟨p, q, r⟩)
            · exact h3 (.inr ⟨p, q, r⟩)
          rw [if_neg h3, if_neg h2]
/-- Written cells that make whole letters keep a grid one. -/
theorem Wf.wr_of {W H : Nat} {G : Nat → Nat → Cel} (h : Wf W H G) {P : Nat → Nat → Bool} {v : Nat → Nat → Cel}
    (hp : ∀ x y, x < W → y < H → P x y = true → ((v x y).p = 0 ∧ wd (v x y).r = 1) ∨ ((v x y).p = 1 ∧ wd (v x y).r = 2) ∨ ((v x y).p = 2 ∧ wd (v x y).r = 2))
    (hh : ∀ x y, x < W → y < H → P x y = true → (v x y).p = 1 → x + 1 < W ∧ P (x + 1) y = true ∧ v (x + 1) y = ⟨(v x y).r, 2, (v x y).n⟩)
    (ht : ∀ x y, x < W → y < H → P x y = true → (v x y).p = 2 → 1 ≤ x ∧ P (x - 1) y = true ∧ v (x - 1) y = ⟨(v x y).r, 1, (v x y).n⟩) : Wf W H (wrt G P v) := by
  refine ⟨fun x y hx hy => ?_, fun x y hx hy hq => ?_, fun x y hx hy hq => ?_⟩
  · unfold Go.Proofs.YtjlfibhbfdckpaaGreatDoor.wrt
    split
    · exact hp x y hx hy ‹_›
    · split
      · exact .inl ⟨rfl, wd_32⟩
      · exact h.part x y hx hy
  · unfold Go.Proofs.YtjlfibhbfdckpaaGreatDoor.wrt at hq ⊢
    by_cases hP : P x y = true
    · rw [if_pos hP] at hq ⊢
      obtain ⟨a, b, c⟩ := hh x y hx hy hP hq
      exact ⟨a, by rw [if_pos b]; exact c⟩
    · rw [if_neg hP] at hq ⊢
      split at hq
      · simp [blk] at hq
      · rename_i hn
        rw [if_neg hn]
        obtain ⟨a, b⟩ := h.head x y hx hy hq
        have hP1 : ¬ P (x + 1) y = true := fun e => hn (.inl ⟨hq, e⟩)
        refine ⟨a, ?_⟩
        rw [if_neg hP1, if_neg, b]
        rw [b]
        simp [hP]
  · unfold Go.Proofs.YtjlfibhbfdckpaaGreatDoor.wrt at hq ⊢
    by_cases hP : P x y = true
    · rw [if_pos hP] at hq ⊢
      obtain ⟨a, b, c⟩ := ht x y hx hy hP hq
      exact ⟨a, by rw [if_pos b]; exact c⟩
    · rw [if_neg hP] at hq ⊢
      split at hq
      · simp [blk] at hq
      · rename_i hn
        rw [if_neg hn]
        obtain ⟨a, b⟩ := h.tail x y hx hy hq
        have hP1 : ¬ P (x - 1) y = true := fun e => hn (.inr ⟨hq, a, e⟩)
        refine ⟨a, ?_⟩
        have e1 : x - 1 + 1 = x := by omega
        rw [if_neg hP1, if_neg, b]
        rw [b, e1]
        simp [hP]
/-- Whole cells alone. -/
theorem Wf.wrWhole {W H : Nat} {G : Nat → Nat → Cel} (h : Wf W H G) {P : Nat → Nat → Bool} {v : Nat → Nat → Cel} (hv : ∀ x y, x < W → y < H → P x y = true → (v x y).p = 0 ∧ wd (v x y).r = 1) : Wf W H (wrt G P v) :=
  h.wr_of (fun x y hx hy hP => .inl (hv x y hx hy hP)) (fun x y hx hy hP h1 => by have := (hv x y hx hy hP).1; omega) (fun x y hx hy hP h1 => by have := (hv x y hx hy hP).1; omega)
/-- The document's set is a writing of one cell. -/
theorem setG_wr {W H : Nat} {G : Nat → Nat → Cel} (h : Wf W H G) {x y : Nat} (hx : x < W) (hy : y < H) (k : Cel) : EqOn W H (setG W H G x y k) (wrt G (pt x y) (fun _ _ => k)) := by
  intro a b ha hb
  have hin : inG W H x y = true := inG_iff.2 (by omega)
  unfold setG wrt
  rw [if_pos hin]
  simp only [Int.toNat_natCast, pt_iff]
  unfold upd
  by_cases e : a = x ∧ b = y
  · rw [if_pos e, if_pos e]
  · rw [if_neg e, if_neg e]
    by_cases p1 : (G x y).p = 1
    · obtain ⟨q1, q2⟩ := h.head x y hx hy p1
      rw [if_pos p1]
      by_cases e2 : a = x + 1 ∧ b = y
      · obtain ⟨rfl, rfl⟩ := e2
        rw [if_pos ⟨rfl, rfl⟩, if_pos (.inr ⟨by rw [q2], by omega, by omega, rfl⟩), q2]
      · rw [if_neg e2, if_neg]
        rintro (⟨r1, r2, r3⟩ | ⟨r1, r2, r3, r4⟩)
        · subst r3
          obtain ⟨s1, s2⟩ := h.head a b ha hb r1
          rw [r2] at s2
          rw [s2] at p1
          exact absurd p1 (by simp)
        · exact e2 ⟨by omega, r4⟩
    · rw [if_neg p1]
      by_cases p2 : (G x y).p = 2
      · obtain ⟨q1, q2⟩ := h.tail x y hx hy p2
        rw [if_pos p2]
        by_cases e2 : a = x - 1 ∧ b = y
        · obtain ⟨rfl, rfl⟩ := e2
          rw [if_pos ⟨rfl, rfl⟩, if_pos (.inl ⟨by rw [q2], by omega, rfl⟩), q2]
        · rw [if_neg e2, if_neg]
          rintro (⟨r1, r2, r3⟩ | ⟨r1, r2, r3, r4⟩)
          · exact e2 ⟨by omega, r3⟩
          · subst r4
            obtain ⟨s1, s2⟩ := h.tail a b ha hb r1
            rw [r3] at s2
            rw [s2] at p2
            exact absurd p2 (by simp)
      · rw [if_neg p2, if_neg]
        rintro (⟨r1, r2, r3⟩ | ⟨r1, r2, r3, r4⟩)
        · subst r3
          obtain ⟨s1, s2⟩ := h.head a b ha hb r1
          rw [r2] at s2
          rw [s2] at p2
          exact p2 rfl
        · subst r4
          obtain ⟨s1, s2⟩ := h.tail a b ha hb r1
          rw [r3] at s2
          rw [s2] at p1
          exact p1 rfl
theorem Wf.half {W H : Nat} {G : Nat → Nat → Cel} (h : Wf W H G) (x y : Int) : inG W H x y = true → ((G x.toNat y.toNat).p = 1 → x + 1 < W) ∧ ((G x.toNat y.toNat).p = 2 → 1 ≤ x) := by
  intro hin
  obtain ⟨a, b, c, d⟩ := inG_iff.1 hin
  refine ⟨fun hp => ?_, fun hp => ?_⟩
  · have := (h.head x.toNat y.toNat (by omega) (by omega) hp).1; omega
  · have := (h.tail x.toNat y.toNat (by omega) (by omega) hp).1; omega
/-- The cells of a line from one column to another (not that one). -/
def rg (f t : Int) (y : Nat) : Nat → Nat → Bool := fun a b => decide (b = y) && decide (f ≤ a) && decide ((a : Int) < t)
theorem rg_iff {f t : Int} {y a b : Nat} : rg f t y a b = true ↔ b = y ∧ f ≤ a ∧ (a : Int) < t := by simp [rg, and_assoc]
theorem wr_congr {G : Nat → Nat → Cel} {P Q : Nat → Nat → Bool} {v : Nat → Nat → Cel} (h : ∀ a b, P a b = Q a b) : wrt G P v = wrt G Q v := by
  have : P = Q := by funext a b; exact h a b
  rw [this]
theorem wr_none (G : Nat → Nat → Cel) (P : Nat → Nat → Bool) (v : Nat → Nat → Cel) (h : ∀ a b, P a b = false) : wrt G P v = G := by
  funext a b; simp [wrt, h]
theorem wr_blk_next (G : Nat → Nat → Cel) (f t : Int) (x y : Nat) (n : Pn) (h1 : f ≤ x) (h2 : (x : Int) < t) :
    wrt (wrt G (fun a b => rg f t y a b && decide (a < x)) (fun _ _ => blk n)) (pt x y) (fun _ _ => blk n) = wrt G (fun a b => rg f t y a b && decide (a < x + 1)) (fun _ _ => blk n) := by
  rw [wr_wr _ _ _ _ _ (fun _ _ _ _ => rfl)]
  have e : (fun a b => if pt x y a b = true then blk n else blk n) = fun (_ _ : Nat) => blk n := by funext a b; simp
  rw [e]
  refine wr_congr fun a b => ?_
  rw [Bool.eq_iff_iff]
  simp [rg, pt]
  omega
theorem Wf.blk {W H : Nat} {G : Nat → Nat → Cel} (h : Wf W H G) (P : Nat → Nat → Bool) (n : Pn) : Wf W H (wrt G P (fun _ _ => blk n)) :=
  h.wrWhole (fun _ _ _ _ _ => ⟨rfl, wd_32⟩)
end Go.Proofs.YtjlfibhbfdckpaaGreatDoor
