/- Texts of the proof, one behind the other: Gr2, Rw, Gr3, Gr4. -/
import Derived.Test.YtjlfibhbfdckpaaGreatDoorK02
import Derived.Deep.AppendLies
/- Grids of cells: more plain mathematics. -/
namespace Go.Proofs.YtjlfibhbfdckpaaGreatDoor
open Wd (wd)
/-- What is written outside the grid does not matter. -/
theorem wr_dom {W H : Nat} {G : Nat → Nat → Cel} (h : Wf W H G) {P Q : Nat → Nat → Bool} {v u : Nat → Nat → Cel} (e : ∀ a b, a < W → b < H → P a b = Q a b) (ev : ∀ a b, a < W → b < H → P a b = true → v a b = u a b) : EqOn W H (wrt G P v) (wrt G Q u) := by
  intro a b ha hb
  unfold wrt
  rw [e a b ha hb]
  by_cases hQ : Q a b = true
  · rw [if_pos hQ, if_pos hQ]; exact ev a b ha hb (by rw [e a b ha hb]; exact hQ)
  · rw [if_neg hQ, if_neg hQ]
    have c : (((G a b).p = 1 ∧ P (a + 1) b = true) ∨ ((G a b).p = 2 ∧ 1 ≤ a ∧ P (a - 1) b = true)) ↔ (((G a b).p = 1 ∧ Q (a + 1) b = true) ∨ ((G a b).p = 2 ∧ 1 ≤ a ∧ Q (a - 1) b = true)) := by
      constructor
      · rintro (⟨p, q⟩ | ⟨p, q, r⟩)
        · exact .inl ⟨p, by rw [← e _ _ (h.head a b ha hb p).1 hb]; exact q⟩
        · exact .inr ⟨p, q, by rw [← e _ _ (by omega) hb]; exact r⟩
      · rintro (⟨p, q⟩ | ⟨p, q, r⟩)
        · exact .inl ⟨p, by rw [e _ _ (h.head a b ha hb p).1 hb]; exact q⟩
        · exact .inr ⟨p, q, by rw [e _ _ (by omega) hb]; exact r⟩
    by_cases hc : ((G a b).p = 1 ∧ P (a + 1) b = true) ∨ ((G a b).p = 2 ∧ 1 ≤ a ∧ P (a - 1) b = true)
    · rw [if_pos hc, if_pos (c.1 hc)]
    · rw [if_neg hc, if_neg (fun x => hc (c.2 x))]
/-- The document's write. -/
def writeG (W H : Nat) (G : Nat → Nat → Cel) (x y : Int) (r : Int) (n : Pn) : Nat → Nat → Cel :=
  if wd r = 1 then setG W H G x y ⟨r, 0, n⟩
  else if inG W H x y = true ∧ inG W H (x + 1) y = true then upd (upd (setG W H (setG W H G x y (blk n)) (x + 1) y (blk n)) x.toNat y.toNat ⟨r, 1, n⟩) (x.toNat + 1) y.toNat ⟨r, 2, n⟩
  else setG W H (setG W H G x y (blk n)) (x + 1) y (blk n)
theorem Wf.set {W H : Nat} {G : Nat → Nat → Cel} (h : Wf W H G) (x y : Int) (k : Cel) (hp : k.p = 0) (hr : wd k.r = 1) : Wf W H (setG W H G x y k) := by
  cases hin : inG W H x y with
  | false => simp [setG, hin]; exact h
  | true =>
    obtain ⟨a, b, c, d⟩ := inG_iff.1 hin
    obtain ⟨x, rfl⟩ := Int.eq_ofNat_of_zero_le a
    obtain ⟨y, rfl⟩ := Int.eq_ofNat_of_zero_le c
    exact (h.wrWhole (P := pt x y) (v := fun _ _ => k) (fun _ _ _ _ _ => ⟨hp, hr⟩)).congr (setG_wr h (by omega) (by omega) k).symm
theorem Wf.setBlk {W H : Nat} {G : Nat → Nat → Cel} (h : Wf W H G) (x y : Int) (n : Pn) : Wf W H (setG W H G x y (Go.Proofs.YtjlfibhbfdckpaaGreatDoor.blk n)) := h.set x y _ rfl wd_32
theorem EqOn.upd {W H : Nat} {G K : Nat → Nat → Cel} (h : EqOn W H G K) (x y : Nat) (c : Cel) : EqOn W H (upd G x y c) (upd K x y c) := fun a b ha hb => by
  unfold Go.Proofs.YtjlfibhbfdckpaaGreatDoor.upd; split
  · rfl
  · exact h a b ha hb
theorem upd_wrt (G : Nat → Nat → Cel) (P : Nat → Nat → Bool) (v : Nat → Nat → Cel) (x y : Nat) (c : Cel) (hP : P x y = true) : upd (wrt G P v) x y c = wrt G P (upd v x y c) := by
  funext a b
  unfold upd wrt
  by_cases e : a = x ∧ b = y
  · obtain ⟨rfl, rfl⟩ := e; simp [hP]
  · simp [e]
theorem writeG_one {W H : Nat} {G : Nat → Nat → Cel} (h : Wf W H G) {x y : Nat} (hx : x < W) (hy : y < H) (r : Int) (n : Pn) (hr : wd r = 1) : EqOn W H (writeG W H G x y r n) (wrt G (pt x y) (fun _ _ => ⟨r, 0, n⟩)) := by
  unfold writeG; rw [if_pos hr]; exact setG_wr h hx hy _
/-- Two cells beside one another. -/
def pt2 (x y : Nat) : Nat → Nat → Bool := fun a b => pt x y a b || pt (x + 1) y a b
def wide (x : Nat) (r : Int) (n : Pn) : Nat → Nat → Cel := fun a _ => if a = x then ⟨r, 1, n⟩ else ⟨r, 2, n⟩
theorem writeG_two {W H : Nat} {G : Nat → Nat → Cel} (h : Wf W H G) {x y : Nat} (hx : x + 1 < W) (hy : y < H) (r : Int) (n : Pn) (hr : wd r = 2) : EqOn W H (writeG W H G x y r n) (wrt G (pt2 x y) (wide x r n)) := by
  have i1 : inG W H x y = true := inG_iff.2 (by omega)
  have i2 : inG W H ((x : Int) + 1) y = true := inG_iff.2 (by omega)
  unfold writeG
  rw [if_neg (by omega), if_pos ⟨i1, i2⟩]
  simp only [Int.toNat_natCast]
  have h1 := setG_wr h (x := x) (y := y) (by omega) hy (Go.Proofs.YtjlfibhbfdckpaaGreatDoor.blk n)
  have w1 : Wf W H (setG W H G x y (Go.Proofs.YtjlfibhbfdckpaaGreatDoor.blk n)) := h.setBlk _ _ _
  have h2 := setG_wr w1 (x := x + 1) (y := y) hx hy (Go.Proofs.YtjlfibhbfdckpaaGreatDoor.blk n)
  have e2 : EqOn W H (wrt (setG W H G x y (Go.Proofs.YtjlfibhbfdckpaaGreatDoor.blk n)) (pt (x + 1) y) (fun _ _ => Go.Proofs.YtjlfibhbfdckpaaGreatDoor.blk n)) (wrt (wrt G (pt x y) (fun _ _ => Go.Proofs.YtjlfibhbfdckpaaGreatDoor.blk n)) (pt (x + 1) y) (fun _ _ => Go.Proofs.YtjlfibhbfdckpaaGreatDoor.blk n)) := by
    intro a b ha hb
    unfold wrt
    have := h1 a b ha hb
    unfold wrt at this
    rw [this]
  rw [wr_wr _ _ _ _ _ (fun _ _ _ _ => rfl)] at e2
  have e3 := ((h2.trans e2).upd x y ⟨r, 1, n⟩).upd (x + 1) y ⟨r, 2, n⟩
  rw [upd_wrt _ _ _ _ _ _ (by simp [pt]), upd_wrt _ _ _ _ _ _ (by simp [pt])] at e3
  refine e3.trans (wr_dom h (fun _ _ _ _ => rfl) (fun a b _ _ hp => ?_))
  simp [pt] at hp
  unfold upd wide
  rcases hp with ⟨rfl, rfl⟩ | ⟨rfl, rfl⟩
  · simp
  · simp
theorem Wf.wide {W H : Nat} {G : Nat → Nat → Cel} (h : Wf W H G) {x y : Nat} (hx : x + 1 < W) (r : Int) (n : Pn) (hr : wd r = 2) : Wf W H (wrt G (pt2 x y) (Go.Proofs.YtjlfibhbfdckpaaGreatDoor.wide x r n)) := by
  refine h.wr_of (fun a b _ _ hp => ?_) (fun a b _ _ hp hq => ?_) (fun a b _ _ hp hq => ?_)
  · unfold Go.Proofs.YtjlfibhbfdckpaaGreatDoor.wide; split
    · exact .inr (.inl ⟨rfl, hr⟩)
    · exact .inr (.inr ⟨rfl, hr⟩)
  · unfold Go.Proofs.YtjlfibhbfdckpaaGreatDoor.wide at hq ⊢
    split at hq
    · subst a
      simp [pt2, pt] at hp ⊢
      exact ⟨hx, hp⟩
    · simp at hq
  · unfold Go.Proofs.YtjlfibhbfdckpaaGreatDoor.wide at hq ⊢
    split at hq
    · simp at hq
    · simp [pt2, pt] at hp
      rename_i hne
      obtain ⟨rfl, rfl⟩ : a = x + 1 ∧ b = y := by omega
      simp [pt2, pt]
end Go.Proofs.YtjlfibhbfdckpaaGreatDoor

/- Rows of cells that were appended. -/
namespace Go.Proofs.YtjlfibhbfdckpaaGreatDoor
open Go.RowKit
def flat (L : List Cel) : List Value := L.flatMap Cel.vals
theorem flat_append (L M : List Cel) : flat (L ++ M) = flat L ++ flat M := by simp [flat]
theorem flat_one (c : Cel) : flat [c] = c.vals := by simp [flat]
theorem flat_length (L : List Cel) : (flat L).length = L.length * 7 := by
  induction L with
  | nil => rfl
  | cons c L ih => simp [flat] at ih ⊢; omega
theorem flat_at (L : List Cel) (i : Nat) (c : Cel) (h : L[i]? = some c) (j : Nat) (v : Value) (hv : c.vals[j]? = some v) : (flat L)[i * 7 + j]? = some v := by
  induction L generalizing i with
  | nil => simp at h
  | cons d L ih =>
    have e : flat (d :: L) = d.vals ++ flat L := by simp [flat]
    rw [e]
    cases i with
    | zero =>
      simp at h; subst h
      have hj : j < 7 := by
        have := (List.getElem?_eq_some_iff.1 hv).1
        simpa using this
      rw [List.getElem?_append_left (by simpa using hj)]
      simpa using hv
    | succ i =>
      rw [List.getElem?_append_right (by simp; omega)]
      have e2 : (i + 1) * 7 + j - d.vals.length = i * 7 + j := by simp; omega
      rw [e2]
      exact ih i (by simpa using h)
theorem row_cel {w : World} {base g n cap : Nat} {L : List Cel} {t : TypeId} (h : w.ownsRow base t 7 (.slice (some ⟨g, 0, none⟩) n cap) n (flat L)) (i : Nat) (c : Cel) (hi : L[i]? = some c) : CelAt w g (i * 7) c := by
  obtain ⟨hl, h | ⟨g', cap', cur, hv, hb, hg, hn, hm, hs, ht⟩⟩ := h
  · simp at h
  · simp at hv
    obtain ⟨rfl, rfl⟩ := hv
    have key : ∀ j v, c.vals[j]? = some v → w.cell? ⟨g, i * 7 + j, none⟩ = some v := by
      intro j v hjv
      rw [cell_of_block hg]
      have := flat_at L i c hi j v hjv
      rw [← ht] at this
      have hlt := (List.getElem?_eq_some_iff.1 this).1
      rw [List.getElem?_take_of_lt (by simp at hlt; omega)] at this
      simpa using this
    exact ⟨key 0 _ rfl, key 1 _ rfl, key 2 _ rfl, key 3 _ rfl, key 4 _ rfl, key 5 _ rfl, key 6 _ rfl⟩
theorem row_free {w : World} {base g n cap : Nat} {xs : List Value} {t : TypeId} (h : w.ownsRow base t 7 (.slice (some ⟨g, 0, none⟩) n cap) n xs) (o : Nat) : w.frozen? ⟨g, o, none⟩ = false := by
  obtain ⟨hl, h | ⟨g', cap', cur, hv, hb, hg, hn, hm, hs, ht⟩⟩ := h
  · simp at h
  · simp at hv
    obtain ⟨rfl, rfl⟩ := hv
    exact frozen_of_block hg o
theorem row_ge {w : World} {base g n cap k : Nat} {xs : List Value} {t : TypeId} (h : w.ownsRow base t 7 (.slice (some ⟨g, 0, none⟩) n cap) k xs) : base ≤ g ∧ g < w.heap.size := h.lt g rfl
theorem one_vals (c : Cel) : ∀ u ∈ c.vals, u.oneCell' = true := by simp [Value.oneCell']
theorem row_same {w w' : World} {base : Nat} {v : Value} {n : Nat} {xs : List Value} {t : TypeId} (h : w.ownsRow base t 7 v n xs) (hb : ∀ g, v.ownBlock = some g → w'.heap[g]? = w.heap[g]?) : w'.ownsRow base t 7 v n xs := by
  obtain ⟨hl, h | ⟨g', cap', cur, rfl, hb', hg, rest⟩⟩ := h
  · exact ⟨hl, .inl h⟩
  · exact ⟨hl, .inr ⟨g', cap', cur, rfl, hb', by rw [hb g' rfl]; exact hg, rest⟩⟩
theorem heap_set_same {w : World} {b : Nat} {C : Array Value} {t : TypeId} {fr : Nat × Nat} (h : w.heap[b]? = some (.cells C t fr)) (o : Nat) (v : Value) : (w.setCell ⟨b, o, none⟩ v).heap[b]? = some (.cells (C.setIfInBounds o v) t fr) := by
  unfold World.setCell
  simp [Array.getElem?_modify, h]
theorem Keep.grown {F : Nat → Prop} {a w w' : World} {row : Option Nat} (h : Keep F a w) (hg : w.grownBy w' row) (hr : ∀ k, row = some k → k < a.heap.size → F k) : Keep F a w' :=
  ⟨hg.os.trans h.os, hg.tape.trans h.tape, hg.output.trans h.output, Nat.le_trans h.size hg.size, fun k hk hF =>
    (hg.block k (Nat.lt_of_lt_of_le hk h.size) (fun e => hF (hr k e.symm hk))).trans (h.block k hk hF)⟩
theorem row_slice {w : World} {base t n k : Nat} {xs : List Value} {v : Value} (h : w.ownsRow base t k v n xs) (hn : 1 ≤ n) : ∃ g cap, v = .slice (some ⟨g, 0, none⟩) n cap := by
  obtain ⟨_, ⟨_, h⟩ | ⟨g, cap, _, hv, _⟩⟩ := h
  · omega
  · exact ⟨g, cap, hv⟩
theorem heap_new' (w : World) (o : Obj) (b : Nat) (hb : b = w.heap.size) : (w.alloc o).heap[b]? = some o := by subst hb; exact heap_new w o
theorem cel_new' (w : World) (c : Cel) (q : Int) (h : c.p = q) (t : TypeId) : CelAt (w.alloc (.cells #[.int .i32 c.r, .int .i64 q, .int .i64 c.n.f, .int .i64 c.n.b, .bool c.n.bo, .bool c.n.un, .bool c.n.re] t)) w.heap.size 0 c := by
  subst h
  exact ⟨cell_of_block (heap_new w _) 0, cell_of_block (heap_new w _) 1, cell_of_block (heap_new w _) 2, cell_of_block (heap_new w _) 3, cell_of_block (heap_new w _) 4, cell_of_block (heap_new w _) 5, cell_of_block (heap_new w _) 6⟩
end Go.Proofs.YtjlfibhbfdckpaaGreatDoor

/- Grids of cells: scrolling, sizing. -/
namespace Go.Proofs.YtjlfibhbfdckpaaGreatDoor
open Wd (wd)
/-- Lines move up by n. -/
def scrollG (top bot n : Int) (p : Pn) (G : Nat → Nat → Cel) : Nat → Nat → Cel := fun x y =>
  if top ≤ y ∧ (y : Int) ≤ bot then (if top ≤ y + n ∧ (y : Int) + n ≤ bot then G x (y + n).toNat else blk p) else G x y
/-- The first m cells, line behind line. -/
def cellsTo (W : Nat) (G : Nat → Nat → Cel) (m : Nat) : List Cel := (List.range m).map fun i => G (i % W) (i / W)
theorem cellsTo_length (W : Nat) (G : Nat → Nat → Cel) (m : Nat) : (cellsTo W G m).length = m := by simp [cellsTo]
theorem cellsTo_succ (W : Nat) (G : Nat → Nat → Cel) (x y : Nat) (hx : x < W) : cellsTo W G (y * W + (x + 1)) = cellsTo W G (y * W + x) ++ [G x y] := by
  unfold cellsTo
  rw [← Nat.add_assoc, List.range_succ, List.map_append]
  have a : (y * W + x) % W = x := by rw [Nat.mul_comm, Nat.mul_add_mod]; exact Nat.mod_eq_of_lt hx
  have b : (y * W + x) / W = y := by rw [Nat.mul_comm, Nat.mul_add_div (by omega)]; simp [Nat.div_eq_of_lt hx]
  simp [a, b]
theorem cellsTo_at (W : Nat) (G : Nat → Nat → Cel) (m x y : Nat) (hx : x < W) (h : y * W + x < m) : (cellsTo W G m)[y * W + x]? = some (G x y) := by
  have a : (y * W + x) % W = x := by rw [Nat.mul_comm, Nat.mul_add_mod]; exact Nat.mod_eq_of_lt hx
  have b : (y * W + x) / W = y := by rw [Nat.mul_comm, Nat.mul_add_div (by omega)]; simp [Nat.div_eq_of_lt hx]
  simp [cellsTo, List.getElem?_map, List.getElem?_range h, a, b]
theorem cels_of_row {w : World} {base bc g cap W H N : Nat} {G : Nat → Nat → Cel} (hb : w.heap[bc]? = some (.cells #[.int .i64 W, .int .i64 H, .slice (some ⟨g, 0, none⟩) N cap] 122))
    (hr : w.ownsRow base 38 7 (.slice (some ⟨g, 0, none⟩) N cap) N (flat (cellsTo W G N))) (hN : N = H * W) (ne : bc ≠ g) (w1 : 1 ≤ W) (w2 : W ≤ 40) (h1 : 1 ≤ H) (h2 : H ≤ 20) : Cels w bc g cap W H N G :=
  ⟨hb, ⟨fun x y hx hy => row_cel hr _ _ (cellsTo_at W G N x y hx (by rw [hN]; exact place_lt hx hy)), row_free hr⟩, hN, ne, w1, w2, h1, h2⟩
theorem Wf.scroll {W H : Nat} {G : Nat → Nat → Cel} (h : Wf W H G) (top bot n : Int) (p : Pn) (ht : 0 ≤ top) (hb : bot < H) : Wf W H (scrollG top bot n p G) := by
  have key : ∀ x y, x < W → y < H → (∃ y', y' < H ∧ (∀ x', scrollG top bot n p G x' y = G x' y')) ∨ (∀ x', scrollG top bot n p G x' y = Go.Proofs.YtjlfibhbfdckpaaGreatDoor.blk p) := by
    intro x y hx hy
    unfold scrollG
    by_cases h1 : top ≤ y ∧ (y : Int) ≤ bot
    · by_cases h2 : top ≤ y + n ∧ (y : Int) + n ≤ bot
      · left; exact ⟨((y : Int) + n).toNat, by omega, fun x' => by rw [if_pos h1, if_pos h2]⟩
      · right; intro x'; rw [if_pos h1, if_neg h2]
    · left; exact ⟨y, hy, fun x' => by rw [if_neg h1]⟩
  refine ⟨fun x y hx hy => ?_, fun x y hx hy hp => ?_, fun x y hx hy hp => ?_⟩
  · rcases key x y hx hy with ⟨y', hy', e⟩ | e
    · rw [e]; exact h.part x y' hx hy'
    · rw [e]; exact .inl ⟨rfl, wd_32⟩
  · rcases key x y hx hy with ⟨y', hy', e⟩ | e
    · rw [e] at hp; rw [e, e]; exact h.head x y' hx hy' hp
    · rw [e] at hp; simp [Go.Proofs.YtjlfibhbfdckpaaGreatDoor.blk] at hp
  · rcases key x y hx hy with ⟨y', hy', e⟩ | e
    · rw [e] at hp; rw [e, e]; exact h.tail x y' hx hy' hp
    · rw [e] at hp; simp [Go.Proofs.YtjlfibhbfdckpaaGreatDoor.blk] at hp
end Go.Proofs.YtjlfibhbfdckpaaGreatDoor

/- Grids of cells: what is broken by sizing. -/
namespace Go.Proofs.YtjlfibhbfdckpaaGreatDoor
open Wd (wd)
/-- Wf, but heads may have been cut off at the last column. -/
structure Aw (W H : Nat) (G : Nat → Nat → Cel) : Prop where
  head : ∀ x y, x + 1 < W → y < H → (G x y).p = 1 → (G (x + 1) y).p = 2
  tail : ∀ x y, x < W → y < H → (G x y).p = 2 → 1 ≤ x ∧ (G (x - 1) y).p = 1
/-- The first m cells have been looked at. -/
def bk (W : Nat) (G : Nat → Nat → Cel) (m : Nat) : Nat → Nat → Cel := fun a b => if b * W + a < m ∧ a + 1 = W ∧ (G a b).p = 1 then blk (G a b).n else G a b
theorem bk_at (W : Nat) (G : Nat → Nat → Cel) (x y : Nat) : bk W G (y * W + x) x y = G x y := by
  unfold bk; exact if_neg (by omega)
theorem bk_right (W : Nat) (G : Nat → Nat → Cel) (x y : Nat) : bk W G (y * W + x) (x + 1) y = G (x + 1) y := by
  unfold bk; exact if_neg (by omega)
theorem bk_left (W : Nat) (G : Nat → Nat → Cel) (x y : Nat) (hx : x < W) (_h1 : 1 ≤ x) : bk W G (y * W + x) (x - 1) y = G (x - 1) y := by
  unfold bk; exact if_neg (by omega)
theorem bk_next (W H : Nat) (G : Nat → Nat → Cel) (x y : Nat) (hx : x < W) (h : ¬ (x + 1 = W ∧ (G x y).p = 1)) : EqOn W H (bk W G (y * W + x)) (bk W G (y * W + x + 1)) := by
  intro a b ha _
  unfold bk
  by_cases e : b * W + a = y * W + x
  · obtain ⟨rfl, rfl⟩ := place_inj ha hx e
    rw [if_neg (by omega), if_neg (by omega)]
  · by_cases c : b * W + a < y * W + x ∧ a + 1 = W ∧ (G a b).p = 1
    · rw [if_pos c, if_pos ⟨by omega, c.2⟩]
    · rw [if_neg c, if_neg (fun q => c ⟨by omega, q.2⟩)]
theorem bk_put (W H : Nat) (G : Nat → Nat → Cel) (x y : Nat) (hx : x < W) (h : x + 1 = W ∧ (G x y).p = 1) : EqOn W H (upd (bk W G (y * W + x)) x y (blk (G x y).n)) (bk W G (y * W + x + 1)) := by
  intro a b ha _
  unfold bk upd
  by_cases e : a = x ∧ b = y
  · obtain ⟨rfl, rfl⟩ := e
    rw [if_pos ⟨rfl, rfl⟩, if_pos ⟨by omega, h⟩]
  · have e' : b * W + a ≠ y * W + x := fun q => e (place_inj ha hx q)
    rw [if_neg e]
    show (if b * W + a < y * W + x ∧ a + 1 = W ∧ (G a b).p = 1 then blk (G a b).n else G a b) = _
    by_cases c : b * W + a < y * W + x ∧ a + 1 = W ∧ (G a b).p = 1
    · rw [if_pos c, if_pos ⟨by omega, c.2⟩]
    · rw [if_neg c, if_neg (fun q => c ⟨by omega, q.2⟩)]
/-- Heads at the last column are broken. -/
def lastG (W : Nat) (G : Nat → Nat → Cel) : Nat → Nat → Cel := fun a b => if a + 1 = W ∧ (G a b).p = 1 then blk (G a b).n else G a b
theorem bk_all (W H : Nat) (G : Nat → Nat → Cel) : EqOn W H (bk W G (H * W)) (lastG W G) := by
  intro a b ha hb
  unfold bk lastG
  have := place_lt ha hb
  by_cases c : a + 1 = W ∧ (G a b).p = 1
  · rw [if_pos ⟨this, c⟩, if_pos c]
  · rw [if_neg (fun q => c q.2), if_neg c]
/-- Another size. -/
def sizedG (W H W' : Nat) (G : Nat → Nat → Cel) : Nat → Nat → Cel := lastG W' (fun a b => if a < W ∧ b < H then G a b else blk Pn.plain)
theorem aw_sized {W H W' H' : Nat} {G : Nat → Nat → Cel} (h : Wf W H G) : Aw W' H' (fun a b => if a < W ∧ b < H then G a b else blk Pn.plain) := by
  refine ⟨fun x y hx hy hp => ?_, fun x y hx hy hp => ?_⟩
  · by_cases c : x < W ∧ y < H
    · rw [if_pos c] at hp
      obtain ⟨a, b⟩ := h.head x y c.1 c.2 hp
      show (if x + 1 < W ∧ y < H then G (x + 1) y else blk Pn.plain).p = 2
      rw [if_pos ⟨a, c.2⟩, b]
    · rw [if_neg c] at hp; simp [blk] at hp
  · by_cases c : x < W ∧ y < H
    · rw [if_pos c] at hp
      obtain ⟨a, b⟩ := h.tail x y c.1 c.2 hp
      refine ⟨a, ?_⟩
      show (if x - 1 < W ∧ y < H then G (x - 1) y else blk Pn.plain).p = 1
      rw [if_pos ⟨by omega, c.2⟩, b]
    · rw [if_neg c] at hp; simp [blk] at hp
theorem Wf.sized {W H W' H' : Nat} {G : Nat → Nat → Cel} (h : Wf W H G) : Wf W' H' (sizedG W H W' G) := by
  unfold sizedG lastG
  refine ⟨fun x y hx hy => ?_, fun x y hx hy hp => ?_, fun x y hx hy hp => ?_⟩
  · by_cases c : x < W ∧ y < H
    · simp only [if_pos c]
      split
      · exact .inl ⟨rfl, wd_32⟩
      · exact h.part x y c.1 c.2
    · simp only [if_neg c]
      split <;> exact .inl ⟨rfl, wd_32⟩
  · by_cases c : x < W ∧ y < H
    · simp only [if_pos c] at hp ⊢
      by_cases q : x + 1 = W' ∧ (G x y).p = 1
      · rw [if_pos q] at hp; simp [Go.Proofs.YtjlfibhbfdckpaaGreatDoor.blk] at hp
      · rw [if_neg q] at hp ⊢
        obtain ⟨a, b⟩ := h.head x y c.1 c.2 hp
        refine ⟨by omega, ?_⟩
        simp only [if_pos (show x + 1 < W ∧ y < H from ⟨a, c.2⟩), b]
        simp
    · simp only [if_neg c] at hp; simp [Go.Proofs.YtjlfibhbfdckpaaGreatDoor.blk] at hp
  · by_cases c : x < W ∧ y < H
    · simp only [if_pos c] at hp ⊢
      by_cases q : x + 1 = W' ∧ (G x y).p = 1
      · rw [if_pos q] at hp; simp [Go.Proofs.YtjlfibhbfdckpaaGreatDoor.blk] at hp
      · rw [if_neg q] at hp ⊢
        obtain ⟨a, b⟩ := h.tail x y c.1 c.2 hp
        refine ⟨a, ?_⟩
        simp only [if_pos (show x - 1 < W ∧ y < H from ⟨by omega, c.2⟩), b]
        have : ¬ (x - 1 + 1 = W') := by omega
        simp [this]
    · simp only [if_neg c] at hp; simp [Go.Proofs.YtjlfibhbfdckpaaGreatDoor.blk] at hp
theorem wf_plain (W H : Nat) : Wf W H (fun _ _ => blk Pn.plain) :=
  ⟨fun _ _ _ _ => .inl ⟨rfl, wd_32⟩, fun _ _ _ _ h => by simp [blk] at h, fun _ _ _ _ h => by simp [blk] at h⟩
end Go.Proofs.YtjlfibhbfdckpaaGreatDoor
