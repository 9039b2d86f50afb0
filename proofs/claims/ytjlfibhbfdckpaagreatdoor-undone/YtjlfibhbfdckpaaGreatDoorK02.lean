/- Texts of the proof, one behind the other: Gr2, Rw, Gr3, Gr4, Gr5, ScP, ScP2, ScP3, ScP4. -/
import Derived.Test.YtjlfibhbfdckpaaGreatDoorK01
import Derived.Deep.AppendLies
/- Grids of cells: more plain mathematics. -/
namespace Go.Proofs.YtjlfibhbfdckpaaGreatDoor
open Wd (wd)
/-- What is written outside the grid does not matter. -/
theorem wr_dom {W H : Nat} {G : Nat → Nat → Cel} (h : Wf W H G) {P Q : Nat → Nat → Bool} {v u : Nat → Nat → Cel} (e : ∀ a b, a < W → b < H → P a b = Q a b) (ev : ∀ a b, a < W → b < H → P a b = true → v a b = u a b) : EqOn W H (wrt G P v) (wrt G Q u) := by
  intro a b ha hb
  unfold wrt
  rw [e a b ha hb]
  by_cases hQ : Q a b = true
  · rw [if_pos hQ, if_pos hQ]; exact ev a b ha hb (by rw [e a b ha hb]; exact hQ)
  · rw [if_neg hQ, if_neg hQ]
    have c : (((G a b).p = 1 ∧ P (a + 1) b = true) ∨ ((G a b).p = 2 ∧ 1 ≤ a ∧ P (a - 1) b = true)) ↔ (((G a b).p = 1 ∧ Q (a + 1) b = true) ∨ ((G a b).p = 2 ∧ 1 ≤ a ∧ Q (a - 1) b = true)) := by
      constructor
      · rintro (⟨p, q⟩ | ⟨p, q, r⟩)
        · exact .inl ⟨p, by rw [← e _ _ (h.head a b ha hb p).1 hb]; exact q⟩
        · exact .inr ⟨p, q, by rw [← e _ _ (by omega) hb]; exact r⟩
      · rintro (⟨p, q⟩ | ⟨p, q, r⟩)
        · exact .inl ⟨p, by rw [e _ _ (h.head a b ha hb p).1 hb]; exact q⟩
        · exact .inr ⟨p, q, by rw [e _ _ (by omega) hb]; exact r⟩
    by_cases hc : ((G a b).p = 1 ∧ P (a + 1) b = true) ∨ ((G a b).p = 2 ∧ 1 ≤ a ∧ P (a - 1) b = true)
    · rw [if_pos hc, if_pos (c.1 hc)]
    · rw [if_neg hc, if_neg (fun x => hc (c.2 x))]
/-- The document's write. -/
def writeG (W H : Nat) (G : Nat → Nat → Cel) (x y : Int) (r : Int) (n : Pn) : Nat → Nat → Cel :=
  if wd r = 1 then setG W H G x y ⟨r, 0, n⟩
  else if inG W H x y = true ∧ inG W H (x + 1) y = true then upd (upd (setG W H (setG W H G x y (blk n)) (x + 1) y (blk n)) x.toNat y.toNat ⟨r, 1, n⟩) (x.toNat + 1) y.toNat ⟨r, 2, n⟩
  else setG W H (setG W H G x y (blk n)) (x + 1) y (blk n)
theorem Wf.set {W H : Nat} {G : Nat → Nat → Cel} (h : Wf W H G) (x y : Int) (k : Cel) (hp : k.p = 0) (hr : wd k.r = 1) : Wf W H (setG W H G x y k) := by
  cases hin : inG W H x y with
  | false => simp [setG, hin]; exact h
  | true =>
    obtain ⟨a, b, c, d⟩ := inG_iff.1 hin
    obtain ⟨x, rfl⟩ := Int.eq_ofNat_of_zero_le a
    obtain ⟨y, rfl⟩ := Int.eq_ofNat_of_zero_le c
    exact (h.wrWhole (P := pt x y) (v := fun _ _ => k) (fun _ _ _ _ _ => ⟨hp, hr⟩)).congr (setG_wr h (by omega) (by omega) k).symm
theorem Wf.setBlk {W H : Nat} {G : Nat → Nat → Cel} (h : Wf W H G) (x y : Int) (n : Pn) : Wf W H (setG W H G x y (Go.Proofs.YtjlfibhbfdckpaaGreatDoor.blk n)) := h.set x y _ rfl wd_32
theorem EqOn.upd {W H : Nat} {G K : Nat → Nat → Cel} (h : EqOn W H G K) (x y : Nat) (c : Cel) : EqOn W H (upd G x y c) (upd K x y c) := fun a b ha hb => by
  unfold Go.Proofs.YtjlfibhbfdckpaaGreatDoor.upd; split
  · rfl
  · exact h a b ha hb
theorem upd_wrt (G : Nat → Nat → Cel) (P : Nat → Nat → Bool) (v : Nat → Nat → Cel) (x y : Nat) (c : Cel) (hP : P x y = true) : upd (wrt G P v) x y c = wrt G P (upd v x y c) := by
  funext a b
  unfold upd wrt
  by_cases e : a = x ∧ b = y
  · obtain ⟨rfl, rfl⟩ := e; simp [hP]
  · simp [e]
theorem writeG_one {W H : Nat} {G : Nat → Nat → Cel} (h : Wf W H G) {x y : Nat} (hx : x < W) (hy : y < H) (r : Int) (n : Pn) (hr : wd r = 1) : EqOn W H (writeG W H G x y r n) (wrt G (pt x y) (fun _ _ => ⟨r, 0, n⟩)) := by
  unfold writeG; rw [if_pos hr]; exact setG_wr h hx hy _
/-- Two cells beside one another. -/
def pt2 (x y : Nat) : Nat → Nat → Bool := fun a b => pt x y a b || pt (x + 1) y a b
def wide (x : Nat) (r : Int) (n : Pn) : Nat → Nat → Cel := fun a _ => if a = x then ⟨r, 1, n⟩ else ⟨r, 2, n⟩
theorem writeG_two {W H : Nat} {G : Nat → Nat → Cel} (h : Wf W H G) {x y : Nat} (hx : x + 1 < W) (hy : y < H) (r : Int) (n : Pn) (hr : wd r = 2) : EqOn W H (writeG W H G x y r n) (wrt G (pt2 x y) (wide x r n)) := by
  have i1 : inG W H x y = true := inG_iff.2 (by omega)
  have i2 : inG W H ((x : Int) + 1) y = true := inG_iff.2 (by omega)
  unfold writeG
  rw [if_neg (by omega), if_pos ⟨i1, i2⟩]
  simp only [Int.toNat_natCast]
  have h1 := setG_wr h (x := x) (y := y) (by omega) hy (Go.Proofs.YtjlfibhbfdckpaaGreatDoor.blk n)
  have w1 : Wf W H (setG W H G x y (Go.Proofs.YtjlfibhbfdckpaaGreatDoor.blk n)) := h.setBlk _ _ _
  have h2 := setG_wr w1 (x := x + 1) (y := y) hx hy (Go.Proofs.YtjlfibhbfdckpaaGreatDoor.blk n)
  have e2 : EqOn W H (wrt (setG W H G x y (Go.Proofs.YtjlfibhbfdckpaaGreatDoor.blk n)) (pt (x + 1) y) (fun _ _ => Go.Proofs.YtjlfibhbfdckpaaGreatDoor.blk n)) (wrt (wrt G (pt x y) (fun _ _ => Go.Proofs.YtjlfibhbfdckpaaGreatDoor.blk n)) (pt (x + 1) y) (fun _ _ => Go.Proofs.YtjlfibhbfdckpaaGreatDoor.blk n)) := by
    intro a b ha hb
    unfold wrt
    have := h1 a b ha hb
    unfold wrt at this
    rw [this]
  rw [wr_wr _ _ _ _ _ (fun _ _ _ _ => rfl)] at e2
  have e3 := ((h2.trans e2).upd x y ⟨r, 1, n⟩).upd (x + 1) y ⟨r, 2, n⟩
  rw [upd_wrt _ _ _ _ _ _ (by simp [pt]), upd_wrt _ _ _ _ _ _ (by simp [pt])] at e3
  refine e3.trans (wr_dom h (fun _ _ _ _ => rfl) (fun a b _ _ hp => ?_))
  simp [pt] at hp
  unfold upd wide
  rcases hp with ⟨rfl, rfl⟩ | ⟨rfl, rfl⟩
  · simp
  · simp
theorem Wf.wide {W H : Nat} {G : Nat → Nat → Cel} (h : Wf W H G) {x y : Nat} (hx : x + 1 < W) (r : Int) (n : Pn) (hr : wd r = 2) : Wf W H (wrt G (pt2 x y) (Go.Proofs.YtjlfibhbfdckpaaGreatDoor.wide x r n)) := by
  refine h.wr_of (fun a b _ _ hp => ?_) (fun a b _ _ hp hq => ?_) (fun a b _ _ hp hq => ?_)
  · unfold Go.Proofs.YtjlfibhbfdckpaaGreatDoor.wide; split
    · exact .inr (.inl ⟨rfl, hr⟩)
    · exact .inr (.inr ⟨rfl, hr⟩)
  · unfold Go.Proofs.YtjlfibhbfdckpaaGreatDoor.wide at hq ⊢
    split at hq
    · subst a
      simp [pt2, pt] at hp ⊢
      exact ⟨hx, hp⟩
    · simp at hq
  · unfold Go.Proofs.YtjlfibhbfdckpaaGreatDoor.wide at hq ⊢
    split at hq
    · simp at hq
    · simp [pt2, pt] at hp
      rename_i hne
      obtain ⟨rfl, rfl⟩ : a = x + 1 ∧ b = y := by omega
      simp [pt2, pt]
end Go.Proofs.YtjlfibhbfdckpaaGreatDoor

/- Rows of cells that were appended. -/
namespace Go.Proofs.YtjlfibhbfdckpaaGreatDoor
open Go.RowKit
def flat (L : List Cel) : List Value := L.flatMap Cel.vals
theorem flat_append (L M : List Cel) : flat (L ++ M) = flat L ++ flat M := by simp [flat]
theorem flat_one (c : Cel) : flat [c] = c.vals := by simp [flat]
theorem flat_length (L : List Cel) : (flat L).length = L.length * 7 := by
  induction L with
  | nil => rfl
  | cons c L ih => simp [flat] at ih ⊢; omega
theorem flat_at (L : List Cel) (i : Nat) (c : Cel) (h : L[i]? = some c) (j : Nat) (v : Value) (hv : c.vals[j]? = some v) : (flat L)[i * 7 + j]? = some v := by
  induction L generalizing i with
  | nil => simp at h
  | cons d L ih =>
    have e : flat (d :: L) = d.vals ++ flat L := by simp [flat]
    rw [e]
    cases i with
    | zero =>
      simp at h; subst h
      have hj : j < 7 := by
        have := (List.getElem?_eq_some_iff.1 hv).1
        simpa using this
      rw [List.getElem?_append_left (by simpa using hj)]
      simpa using hv
    | succ i =>
      rw [List.getElem?_append_right (by simp; omega)]
      have e2 : (i + 1) * 7 + j - d.vals.length = i * 7 + j := by simp; omega
      rw [e2]
      exact ih i (by simpa using h)
theorem row_cel {w : World} {base g n cap : Nat} {L : List Cel} {t : TypeId} (h : w.ownsRow base t 7 (.slice (some ⟨g, 0, none⟩) n cap) n (flat L)) (i : Nat) (c : Cel) (hi : L[i]? = some c) : CelAt w g (i * 7) c := by
  obtain ⟨hl, h | ⟨g', cap', cur, hv, hb, hg, hn, hm, hs, ht⟩⟩ := h
  · simp at h
  · simp at hv
    obtain ⟨rfl, rfl⟩ := hv
    have key : ∀ j v, c.vals[j]? = some v → w.cell? ⟨g, i * 7 + j, none⟩ = some v := by
      intro j v hjv
      rw [cell_of_block hg]
      have := flat_at L i c hi j v hjv
      rw [← ht] at this
      have hlt := (List.getElem?_eq_some_iff.1 this).1
      rw [List.getElem?_take_of_lt (by simp at hlt; omega)] at this
      simpa using this
    exact ⟨key 0 _ rfl, key 1 _ rfl, key 2 _ rfl, key 3 _ rfl, key 4 _ rfl, key 5 _ rfl, key 6 _ rfl⟩
theorem row_free {w : World} {base g n cap : Nat} {xs : List Value} {t : TypeId} (h : w.ownsRow base t 7 (.slice (some ⟨g, 0, none⟩) n cap) n xs) (o : Nat) : w.frozen? ⟨g, o, none⟩ = false := by
  obtain ⟨hl, h | ⟨g', cap', cur, hv, hb, hg, hn, hm, hs, ht⟩⟩ := h
  · simp at h
  · simp at hv
    obtain ⟨rfl, rfl⟩ := hv
    exact frozen_of_block hg o
theorem row_ge {w : World} {base g n cap k : Nat} {xs : List Value} {t : TypeId} (h : w.ownsRow base t 7 (.slice (some ⟨g, 0, none⟩) n cap) k xs) : base ≤ g ∧ g < w.heap.size := h.lt g rfl
theorem one_vals (c : Cel) : ∀ u ∈ c.vals, u.oneCell' = true := by simp [Value.oneCell']
theorem row_same {w w' : World} {base : Nat} {v : Value} {n : Nat} {xs : List Value} {t : TypeId} (h : w.ownsRow base t 7 v n xs) (hb : ∀ g, v.ownBlock = some g → w'.heap[g]? = w.heap[g]?) : w'.ownsRow base t 7 v n xs := by
  obtain ⟨hl, h | ⟨g', cap', cur, rfl, hb', hg, rest⟩⟩ := h
  · exact ⟨hl, .inl h⟩
  · exact ⟨hl, .inr ⟨g', cap', cur, rfl, hb', by rw [hb g' rfl]; exact hg, rest⟩⟩
theorem heap_set_same {w : World} {b : Nat} {C : Array Value} {t : TypeId} {fr : Nat × Nat} (h : w.heap[b]? = some (.cells C t fr)) (o : Nat) (v : Value) : (w.setCell ⟨b, o, none⟩ v).heap[b]? = some (.cells (C.setIfInBounds o v) t fr) := by
  unfold World.setCell
  simp [Array.getElem?_modify, h]
theorem Keep.grown {F : Nat → Prop} {a w w' : World} {row : Option Nat} (h : Keep F a w) (hg : w.grownBy w' row) (hr : ∀ k, row = some k → k < a.heap.size → F k) : Keep F a w' :=
  ⟨hg.os.trans h.os, hg.tape.trans h.tape, hg.output.trans h.output, Nat.le_trans h.size hg.size, fun k hk hF =>
    (hg.block k (Nat.lt_of_lt_of_le hk h.size) (fun e => hF (hr k e.symm hk))).trans (h.block k hk hF)⟩
theorem row_slice {w : World} {base t n k : Nat} {xs : List Value} {v : Value} (h : w.ownsRow base t k v n xs) (hn : 1 ≤ n) : ∃ g cap, v = .slice (some ⟨g, 0, none⟩) n cap := by
  obtain ⟨_, ⟨_, h⟩ | ⟨g, cap, _, hv, _⟩⟩ := h
  · omega
  · exact ⟨g, cap, hv⟩
theorem heap_new' (w : World) (o : Obj) (b : Nat) (hb : b = w.heap.size) : (w.alloc o).heap[b]? = some o := by subst hb; exact heap_new w o
theorem cel_new' (w : World) (c : Cel) (q : Int) (h : c.p = q) (t : TypeId) : CelAt (w.alloc (.cells #[.int .i32 c.r, .int .i64 q, .int .i64 c.n.f, .int .i64 c.n.b, .bool c.n.bo, .bool c.n.un, .bool c.n.re] t)) w.heap.size 0 c := by
  subst h
  exact ⟨cell_of_block (heap_new w _) 0, cell_of_block (heap_new w _) 1, cell_of_block (heap_new w _) 2, cell_of_block (heap_new w _) 3, cell_of_block (heap_new w _) 4, cell_of_block (heap_new w _) 5, cell_of_block (heap_new w _) 6⟩
end Go.Proofs.YtjlfibhbfdckpaaGreatDoor

/- Grids of cells: scrolling, sizing. -/
namespace Go.Proofs.YtjlfibhbfdckpaaGreatDoor
open Wd (wd)
/-- Lines move up by n. -/
def scrollG (top bot n : Int) (p : Pn) (G : Nat → Nat → Cel) : Nat → Nat → Cel := fun x y =>
  if top ≤ y ∧ (y : Int) ≤ bot then (if top ≤ y + n ∧ (y : Int) + n ≤ bot then G x (y + n).toNat else blk p) else G x y
/-- The first m cells, line behind line. -/
def cellsTo (W : Nat) (G : Nat → Nat → Cel) (m : Nat) : List Cel := (List.range m).map fun i => G (i % W) (i / W)
theorem cellsTo_length (W : Nat) (G : Nat → Nat → Cel) (m : Nat) : (cellsTo W G m).length = m := by simp [cellsTo]
theorem cellsTo_succ (W : Nat) (G : Nat → Nat → Cel) (x y : Nat) (hx : x < W) : cellsTo W G (y * W + (x + 1)) = cellsTo W G (y * W + x) ++ [G x y] := by
  unfold cellsTo
  rw [← Nat.add_assoc, List.range_succ, List.map_append]
  have a : (y * W + x) % W = x := by rw [Nat.mul_comm, Nat.mul_add_mod]; exact Nat.mod_eq_of_lt hx
  have b : (y * W + x) / W = y := by rw [Nat.mul_comm, Nat.mul_add_div (by omega)]; simp [Nat.div_eq_of_lt hx]
  simp [a, b]
theorem cellsTo_at (W : Nat) (G : Nat → Nat → Cel) (m x y : Nat) (hx : x < W) (h : y * W + x < m) : (cellsTo W G m)[y * W + x]? = some (G x y) := by
  have a : (y * W + x) % W = x := by rw [Nat.mul_comm, Nat.mul_add_mod]; exact Nat.mod_eq_of_lt hx
  have b : (y * W + x) / W = y := by rw [Nat.mul_comm, Nat.mul_add_div (by omega)]; simp [Nat.div_eq_of_lt hx]
  simp [cellsTo, List.getElem?_map, List.getElem?_range h, a, b]
theorem cels_of_row {w : World} {base bc g cap W H N : Nat} {G : Nat → Nat → Cel} (hb : w.heap[bc]? = some (.cells #[.int .i64 W, .int .i64 H, .slice (some ⟨g, 0, none⟩) N cap] 122))
    (hr : w.ownsRow base 38 7 (.slice (some ⟨g, 0, none⟩) N cap) N (flat (cellsTo W G N))) (hN : N = H * W) (ne : bc ≠ g) (w1 : 1 ≤ W) (w2 : W ≤ 40) (h1 : 1 ≤ H) (h2 : H ≤ 20) : Cels w bc g cap W H N G :=
  ⟨hb, ⟨fun x y hx hy => row_cel hr _ _ (cellsTo_at W G N x y hx (by rw [hN]; exact place_lt hx hy)), row_free hr⟩, hN, ne, w1, w2, h1, h2⟩
theorem Wf.scroll {W H : Nat} {G : Nat → Nat → Cel} (h : Wf W H G) (top bot n : Int) (p : Pn) (ht : 0 ≤ top) (hb : bot < H) : Wf W H (scrollG top bot n p G) := by
  have key : ∀ x y, x < W → y < H → (∃ y', y' < H ∧ (∀ x', scrollG top bot n p G x' y = G x' y')) ∨ (∀ x', scrollG top bot n p G x' y = Go.Proofs.YtjlfibhbfdckpaaGreatDoor.blk p) := by
    intro x y hx hy
    unfold scrollG
    by_cases h1 : top ≤ y ∧ (y : Int) ≤ bot
    · by_cases h2 : top ≤ y + n ∧ (y : Int) + n ≤ bot
      · left; exact ⟨((y : Int) + n).toNat, by omega, fun x' => by rw [if_pos h1, if_pos h2]⟩
      · right; intro x'; rw [if_pos h1, if_neg h2]
    · left; exact ⟨y, hy, fun x' => by rw [if_neg h1]⟩
  refine ⟨fun x y hx hy => ?_, fun x y hx hy hp => ?_, fun x y hx hy hp => ?_⟩
  · rcases key x y hx hy with ⟨y', hy', e⟩ | e
    · rw [e]; exact h.part x y' hx hy'
    · rw [e]; exact .inl ⟨rfl, wd_32⟩
  · rcases key x y hx hy with ⟨y', hy', e⟩ | e
    · rw [e] at hp; rw [e, e]; exact h.head x y' hx hy' hp
    · rw [e] at hp; simp [Go.Proofs.YtjlfibhbfdckpaaGreatDoor.blk] at hp
  · rcases key x y hx hy with ⟨y', hy', e⟩ | e
    · rw [e] at hp; rw [e, e]; exact h.tail x y' hx hy' hp
    · rw [e] at hp; simp [Go.Proofs.YtjlfibhbfdckpaaGreatDoor.blk] at hp
end Go.Proofs.YtjlfibhbfdckpaaGreatDoor

/- Grids of cells: what is broken by sizing. -/
namespace Go.Proofs.YtjlfibhbfdckpaaGreatDoor
open Wd (wd)
/-- Wf, but heads may have been cut off at the last column. -/
structure Aw (W H : Nat) (G : Nat → Nat → Cel) : Prop where
  head : ∀ x y, x + 1 < W → y < H → (G x y).p = 1 → (G (x + 1) y).p = 2
  tail : ∀ x y, x < W → y < H → (G x y).p = 2 → 1 ≤ x ∧ (G (x - 1) y).p = 1
/-- The first m cells have been looked at. -/
def bk (W : Nat) (G : Nat → Nat → Cel) (m : Nat) : Nat → Nat → Cel := fun a b => if b * W + a < m ∧ a + 1 = W ∧ (G a b).p = 1 then blk (G a b).n else G a b
theorem bk_at (W : Nat) (G : Nat → Nat → Cel) (x y : Nat) : bk W G (y * W + x) x y = G x y := by
  unfold bk; exact if_neg (by omega)
theorem bk_right (W : Nat) (G : Nat → Nat → Cel) (x y : Nat) : bk W G (y * W + x) (x + 1) y = G (x + 1) y := by
  unfold bk; exact if_neg (by omega)
theorem bk_left (W : Nat) (G : Nat → Nat → Cel) (x y : Nat) (hx : x < W) (_h1 : 1 ≤ x) : bk W G (y * W + x) (x - 1) y = G (x - 1) y := by
  unfold bk; exact if_neg (by omega)
theorem bk_next (W H : Nat) (G : Nat → Nat → Cel) (x y : Nat) (hx : x < W) (h : ¬ (x + 1 = W ∧ (G x y).p = 1)) : EqOn W H (bk W G (y * W + x)) (bk W G (y * W + x + 1)) := by
  intro a b ha _
  unfold bk
  by_cases e : b * W + a = y * W + x
  · obtain ⟨rfl, rfl⟩ := place_inj ha hx e
    rw [if_neg (by omega), if_neg (by omega)]
  · by_cases c : b * W + a < y * W + x ∧ a + 1 = W ∧ (G a b).p = 1
    · rw [if_pos c, if_pos ⟨by omega, c.2⟩]
    · rw [if_neg c, if_neg (fun q => c ⟨by omega, q.2⟩)]
theorem bk_put (W H : Nat) (G : Nat → Nat → Cel) (x y : Nat) (hx : x < W) (h : x + 1 = W ∧ (G x y).p = 1) : EqOn W H (upd (bk W G (y * W + x)) x y (blk (G x y).n)) (bk W G (y * W + x + 1)) := by
  intro a b ha _
  unfold bk upd
  by_cases e : a = x ∧ b = y
  · obtain ⟨rfl, rfl⟩ := e
    rw [if_pos ⟨rfl, rfl⟩, if_pos ⟨by omega, h⟩]
  · have e' : b * W + a ≠ y * W + x := fun q => e (place_inj ha hx q)
    rw [if_neg e]
    show (if b * W + a < y * W + x ∧ a + 1 = W ∧ (G a b).p = 1 then blk (G a b).n else G a b) = _
    by_cases c : b * W + a < y * W + x ∧ a + 1 = W ∧ (G a b).p = 1
    · rw [if_pos c, if_pos ⟨by omega, c.2⟩]
    · rw [if_neg c, if_neg (fun q => c ⟨by omega, q.2⟩)]
/-- Heads at the last column are broken. -/
def lastG (W : Nat) (G : Nat → Nat → Cel) : Nat → Nat → Cel := fun a b => if a + 1 = W ∧ (G a b).p = 1 then blk (G a b).n else G a b
theorem bk_all (W H : Nat) (G : Nat → Nat → Cel) : EqOn W H (bk W G (H * W)) (lastG W G) := by
  intro a b ha hb
  unfold bk lastG
  have := place_lt ha hb
  by_cases c : a + 1 = W ∧ (G a b).p = 1
  · rw [if_pos ⟨this, c⟩, if_pos c]
  · rw [if_neg (fun q => c q.2), if_neg c]
/-- Another size. -/
def sizedG (W H W' : Nat) (G : Nat → Nat → Cel) : Nat → Nat → Cel := lastG W' (fun a b => if a < W ∧ b < H then G a b else blk Pn.plain)
theorem aw_sized {W H W' H' : Nat} {G : Nat → Nat → Cel} (h : Wf W H G) : Aw W' H' (fun a b => if a < W ∧ b < H then G a b else blk Pn.plain) := by
  refine ⟨fun x y hx hy hp => ?_, fun x y hx hy hp => ?_⟩
  · by_cases c : x < W ∧ y < H
    · rw [if_pos c] at hp
      obtain ⟨a, b⟩ := h.head x y c.1 c.2 hp
      show (if x + 1 < W ∧ y < H then G (x + 1) y else blk Pn.plain).p = 2
      rw [if_pos ⟨a, c.2⟩, b]
    · rw [if_neg c] at hp; simp [blk] at hp
  · by_cases c : x < W ∧ y < H
    · rw [if_pos c] at hp
      obtain ⟨a, b⟩ := h.tail x y c.1 c.2 hp
      refine ⟨a, ?_⟩
      show (if x - 1 < W ∧ y < H then G (x - 1) y else blk Pn.plain).p = 1
      rw [if_pos ⟨by omega, c.2⟩, b]
    · rw [if_neg c] at hp; simp [blk] at hp
theorem Wf.sized {W H W' H' : Nat} {G : Nat → Nat → Cel} (h : Wf W H G) : Wf W' H' (sizedG W H W' G) := by
  unfold sizedG lastG
  refine ⟨fun x y hx hy => ?_, fun x y hx hy hp => ?_, fun x y hx hy hp => ?_⟩
  · by_cases c : x < W ∧ y < H
    · simp only [if_pos c]
      split
      · exact .inl ⟨rfl, wd_32⟩
      · exact h.part x y c.1 c.2
    · simp only [if_neg c]
      split <;> exact .inl ⟨rfl, wd_32⟩
  · by_cases c : x < W ∧ y < H
    · simp only [if_pos c] at hp ⊢
      by_cases q : x + 1 = W' ∧ (G x y).p = 1
      · rw [if_pos q] at hp; simp [Go.Proofs.YtjlfibhbfdckpaaGreatDoor.blk] at hp
      · rw [if_neg q] at hp ⊢
        obtain ⟨a, b⟩ := h.head x y c.1 c.2 hp
        refine ⟨by omega, ?_⟩
        simp only [if_pos (show x + 1 < W ∧ y < H from ⟨a, c.2⟩), b]
        simp
    · simp only [if_neg c] at hp; simp [Go.Proofs.YtjlfibhbfdckpaaGreatDoor.blk] at hp
  · by_cases c : x < W ∧ y < H
    · simp only [if_pos c] at hp ⊢
      by_cases q : x + 1 = W' ∧ (G x y).p = 1
      · rw [if_pos q] at hp; simp [Go.Proofs.YtjlfibhbfdckpaaGreatDoor.blk] at hp
      · rw [if_neg q] at hp ⊢
        obtain ⟨a, b⟩ := h.tail x y c.1 c.2 hp
        refine ⟨a, ?_⟩
        simp only [if_pos (show x - 1 < W ∧ y < H from ⟨by omega, c.2⟩), b]
        have : ¬ (x - 1 + 1 = W') := by omega
        simp [this]
    · simp only [if_neg c] at hp; simp [Go.Proofs.YtjlfibhbfdckpaaGreatDoor.blk] at hp
theorem wf_plain (W H : Nat) : Wf W H (fun _ _ => blk Pn.plain) :=
  ⟨fun _ _ _ _ => .inl ⟨rfl, wd_32⟩, fun _ _ _ _ h => by simp [blk] at h, fun _ _ _ _ h => by simp [blk] at h⟩
end Go.Proofs.YtjlfibhbfdckpaaGreatDoor

/- Grids of cells: copying into another size. -/
namespace Go.Proofs.YtjlfibhbfdckpaaGreatDoor
/-- The lines ahead of y, and the columns ahead of x in it, have been copied. -/
def cp (W H : Nat) (G : Nat → Nat → Cel) (x y : Nat) : Nat → Nat → Cel := fun a b => if (b < y ∨ (b = y ∧ a < x)) ∧ a < W ∧ b < H then G a b else blk Pn.plain
theorem cp_start (W H : Nat) (G : Nat → Nat → Cel) : cp W H G 0 0 = fun _ _ => blk Pn.plain := by
  funext a b; unfold cp; exact if_neg (by omega)
theorem cp_put (W H W' H' : Nat) (G : Nat → Nat → Cel) (x y : Nat) (hx : x < W) (hy : y < H) : EqOn W' H' (upd (cp W H G x y) x y (G x y)) (cp W H G (x + 1) y) := by
  intro a b _ _
  unfold cp upd
  by_cases e : a = x ∧ b = y
  · obtain ⟨rfl, rfl⟩ := e
    rw [if_pos ⟨rfl, rfl⟩, if_pos (by omega)]
  · rw [if_neg e]
    show (if (b < y ∨ (b = y ∧ a < x)) ∧ a < W ∧ b < H then G a b else blk Pn.plain) = _
    by_cases c : (b < y ∨ (b = y ∧ a < x)) ∧ a < W ∧ b < H
    · rw [if_pos c, if_pos (by omega)]
    · rw [if_neg c, if_neg (by omega)]
theorem cp_line (W H W' H' : Nat) (G : Nat → Nat → Cel) (x y : Nat) (h : W ≤ x ∨ W' ≤ x) : EqOn W' H' (cp W H G x y) (cp W H G 0 (y + 1)) := by
  intro a b ha _
  unfold cp
  by_cases c : (b < y ∨ (b = y ∧ a < x)) ∧ a < W ∧ b < H
  · rw [if_pos c, if_pos (by omega)]
  · rw [if_neg c, if_neg (by omega)]
theorem cp_all (W H W' H' : Nat) (G : Nat → Nat → Cel) (y : Nat) (h : H ≤ y ∨ H' ≤ y) : EqOn W' H' (cp W H G 0 y) (fun a b => if a < W ∧ b < H then G a b else blk Pn.plain) := by
  intro a b _ hb
  unfold cp
  show _ = if a < W ∧ b < H then G a b else blk Pn.plain
  by_cases c : a < W ∧ b < H
  · rw [if_pos (by omega), if_pos c]
  · rw [if_neg (by omega), if_neg c]
theorem lastG_congr {W H : Nat} {G K : Nat → Nat → Cel} (h : EqOn W H G K) : EqOn W H (lastG W G) (lastG W K) := by
  intro a b ha hb
  unfold lastG
  rw [h a b ha hb]
theorem Aw.congr {W H : Nat} {G K : Nat → Nat → Cel} (h : Aw W H G) (e : EqOn W H G K) : Aw W H K := by
  refine ⟨fun x y hx hy hp => ?_, fun x y hx hy hp => ?_⟩
  · rw [← e x y (by omega) hy] at hp; rw [← e _ _ hx hy]; exact h.head x y hx hy hp
  · rw [← e x y hx hy] at hp
    obtain ⟨a, b⟩ := h.tail x y hx hy hp
    exact ⟨a, by rw [← e _ _ (by omega) hy]; exact b⟩
end Go.Proofs.YtjlfibhbfdckpaaGreatDoor

/- The document's screen: its state. -/
namespace Go.Proofs.YtjlfibhbfdckpaaGreatDoor
open Wd (wd)
structure Rs where
  W : Nat
  H : Nat
  x : Int
  y : Int
  pend : Bool
  pen : Pn
  top : Int
  bot : Int
  B : ByteArray
  odd : Int
  G : Nat → Nat → Cel
/-- What holds of a screen. -/
structure Rs.Ok (s : Rs) : Prop where
  w1 : 1 ≤ s.W
  w2 : s.W ≤ 40
  h1 : 1 ≤ s.H
  h2 : s.H ≤ 20
  x0 : 0 ≤ s.x
  x1 : s.x < s.W
  y0 : 0 ≤ s.y
  y1 : s.y < s.H
  t0 : 0 ≤ s.top
  tb : s.top ≤ s.bot
  b1 : s.bot < s.H
  pd : s.pend = true → s.x = (s.W : Int) - 1
  wf : Wf s.W s.H s.G
def clampI (v : Int) (m : Nat) : Int := if v < 0 then 0 else if (m : Int) - 1 < v then (m : Int) - 1 else v
theorem clampI_in (v : Int) (m : Nat) (h : 1 ≤ m) : 0 ≤ clampI v m ∧ clampI v m < m := by 
  unfold clampI
  by_cases h1 : v < 0
  · rw [if_pos h1]; omega
  · rw [if_neg h1]
    by_cases h2 : (m : Int) - 1 < v
    · rw [if_pos h2]; omega
    · rw [if_neg h2]; omega
def goesR (s : Rs) (x y : Int) : Rs := { s with x := clampI x s.W, y := clampI y s.H, pend := false }
def backR (s : Rs) : Pn := ⟨0, s.pen.b, false, false, false⟩
def linefeedR (s : Rs) : Rs := if s.y = s.bot then { s with G := scrollG s.top s.bot 1 (backR s) s.G, pend := false } else goesR s s.x (s.y + 1)
/-- The struct's cells. -/
abbrev scrArr (bc : Nat) (s : Rs) : Array Value := #[.pointer (some ⟨bc, 0, none⟩), .int .i64 s.W, .int .i64 s.H, .int .i64 s.x, .int .i64 s.y, .bool s.pend, .int .i64 s.pen.f, .int .i64 s.pen.b, .bool s.pen.bo, .bool s.pen.un, .bool s.pen.re, .int .i64 s.top, .int .i64 s.bot, .bool false, .string s.B, .int .i64 s.odd]
/-- The document's screen lies in blocks bs, bc, g. -/
structure RefAt (w : World) (bs bc g cap N : Nat) (s : Rs) : Prop where
  blk : w.heap[bs]? = some (.cells (scrArr bc s) 104)
  cels : Cels w bc g cap s.W s.H N s.G
  ne1 : bs ≠ bc
  ne2 : bs ≠ g
section
variable {w w' : World} {bs bc g cap N : Nat} {s : Rs}
theorem RefAt.lt (h : RefAt w bs bc g cap N s) : bs < w.heap.size := (Array.getElem?_eq_some_iff.1 h.blk).1
theorem RefAt.same (h : RefAt w bs bc g cap N s) (h1 : w'.heap[bs]? = w.heap[bs]?) (h2 : w'.heap[bc]? = w.heap[bc]?) (h3 : w'.heap[g]? = w.heap[g]?) : RefAt w' bs bc g cap N s :=
  ⟨by rw [h1]; exact h.blk, h.cels.same h2 h3, h.ne1, h.ne2⟩
theorem RefAt.below (h : RefAt w bs bc g cap N s) (hb : Go.RowKit.Below w.heap.size w w') : RefAt w' bs bc g cap N s :=
  h.same (hb.block _ h.lt) (hb.block _ h.cels.lt) (hb.block _ h.cels.glt)
theorem RefAt.free (h : RefAt w bs bc g cap N s) : ∀ o, w.frozen? ⟨bs, o, none⟩ = false := frozen_of_block h.blk
theorem RefAt.drew (h : RefAt w bs bc g cap N s) : RefAt w.drew bs bc g cap N s := h.same rfl rfl rfl
theorem RefAt.store (h : RefAt w bs bc g cap N s) (o : Nat) (v : Value) (s' : Rs) (hs : (scrArr bc s).setIfInBounds o v = scrArr bc s') (hW : s'.W = s.W) (hH : s'.H = s.H) (hG : s'.G = s.G) : RefAt (w.setCell ⟨bs, o, none⟩ v) bs bc g cap N s' := by
  refine ⟨?_, ?_, h.ne1, h.ne2⟩
  · rw [heap_set_same h.blk, hs]
  · rw [hW, hH, hG]
    exact h.cels.same (Go.RowKit.Below.heap_setCell _ _ _ _ (fun e => h.ne1 e.symm)) (Go.RowKit.Below.heap_setCell _ _ _ _ (fun e => h.ne2 e.symm))
/-- The cells change, and nothing else. -/
theorem RefAt.cells {g' cap' : Nat} (h : RefAt w bs bc g cap N s) (s' : Rs) (hb : w'.heap[bs]? = w.heap[bs]?) (hc : Cels w' bc g' cap' s'.W s'.H N s'.G) (hs : scrArr bc s' = scrArr bc s) (hg : bs ≠ g') : RefAt w' bs bc g' cap' N s' :=
  ⟨by rw [hb, hs]; exact h.blk, hc, h.ne1, hg⟩
theorem RefAt.f0 (h : RefAt w bs bc g cap N s) : w.cell? ⟨bs, 0, none⟩ = some (.pointer (some ⟨bc, 0, none⟩)) := cell_of_block h.blk 0
theorem RefAt.f1 (h : RefAt w bs bc g cap N s) : w.cell? ⟨bs, 1, none⟩ = some (.int .i64 s.W) := cell_of_block h.blk 1
theorem RefAt.f2 (h : RefAt w bs bc g cap N s) : w.cell? ⟨bs, 2, none⟩ = some (.int .i64 s.H) := cell_of_block h.blk 2
theorem RefAt.f3 (h : RefAt w bs bc g cap N s) : w.cell? ⟨bs, 3, none⟩ = some (.int .i64 s.x) := cell_of_block h.blk 3
theorem RefAt.f4 (h : RefAt w bs bc g cap N s) : w.cell? ⟨bs, 4, none⟩ = some (.int .i64 s.y) := cell_of_block h.blk 4
theorem RefAt.f5 (h : RefAt w bs bc g cap N s) : w.cell? ⟨bs, 5, none⟩ = some (.bool s.pend) := cell_of_block h.blk 5
theorem RefAt.f6 (h : RefAt w bs bc g cap N s) : w.cell? ⟨bs, 6, none⟩ = some (.int .i64 s.pen.f) := cell_of_block h.blk 6
theorem RefAt.f7 (h : RefAt w bs bc g cap N s) : w.cell? ⟨bs, 7, none⟩ = some (.int .i64 s.pen.b) := cell_of_block h.blk 7
theorem RefAt.f8 (h : RefAt w bs bc g cap N s) : w.cell? ⟨bs, 8, none⟩ = some (.bool s.pen.bo) := cell_of_block h.blk 8
theorem RefAt.f9 (h : RefAt w bs bc g cap N s) : w.cell? ⟨bs, 9, none⟩ = some (.bool s.pen.un) := cell_of_block h.blk 9
theorem RefAt.f10 (h : RefAt w bs bc g cap N s) : w.cell? ⟨bs, 10, none⟩ = some (.bool s.pen.re) := cell_of_block h.blk 10
theorem RefAt.f11 (h : RefAt w bs bc g cap N s) : w.cell? ⟨bs, 11, none⟩ = some (.int .i64 s.top) := cell_of_block h.blk 11
theorem RefAt.f12 (h : RefAt w bs bc g cap N s) : w.cell? ⟨bs, 12, none⟩ = some (.int .i64 s.bot) := cell_of_block h.blk 12
theorem RefAt.f13 (h : RefAt w bs bc g cap N s) : w.cell? ⟨bs, 13, none⟩ = some (.bool false) := cell_of_block h.blk 13
theorem RefAt.f14 (h : RefAt w bs bc g cap N s) : w.cell? ⟨bs, 14, none⟩ = some (.string s.B) := cell_of_block h.blk 14
theorem RefAt.f15 (h : RefAt w bs bc g cap N s) : w.cell? ⟨bs, 15, none⟩ = some (.int .i64 s.odd) := cell_of_block h.blk 15
theorem RefAt.setX (h : RefAt w bs bc g cap N s) (v : Int) : RefAt (w.setCell ⟨bs, 3, none⟩ (.int .i64 v)) bs bc g cap N { s with x := v } := h.store 3 _ { s with x := v } rfl rfl rfl rfl
theorem RefAt.setY (h : RefAt w bs bc g cap N s) (v : Int) : RefAt (w.setCell ⟨bs, 4, none⟩ (.int .i64 v)) bs bc g cap N { s with y := v } := h.store 4 _ { s with y := v } rfl rfl rfl rfl
theorem RefAt.setPend (h : RefAt w bs bc g cap N s) (v : Bool) : RefAt (w.setCell ⟨bs, 5, none⟩ (.bool v)) bs bc g cap N { s with pend := v } := h.store 5 _ { s with pend := v } rfl rfl rfl rfl
theorem RefAt.setTop (h : RefAt w bs bc g cap N s) (v : Int) : RefAt (w.setCell ⟨bs, 11, none⟩ (.int .i64 v)) bs bc g cap N { s with top := v } := h.store 11 _ { s with top := v } rfl rfl rfl rfl
theorem RefAt.setBot (h : RefAt w bs bc g cap N s) (v : Int) : RefAt (w.setCell ⟨bs, 12, none⟩ (.int .i64 v)) bs bc g cap N { s with bot := v } := h.store 12 _ { s with bot := v } rfl rfl rfl rfl
theorem RefAt.setB (h : RefAt w bs bc g cap N s) (v : ByteArray) : RefAt (w.setCell ⟨bs, 14, none⟩ (.string v)) bs bc g cap N { s with B := v } := h.store 14 _ { s with B := v } rfl rfl rfl rfl
theorem RefAt.setOdd (h : RefAt w bs bc g cap N s) (v : Int) : RefAt (w.setCell ⟨bs, 15, none⟩ (.int .i64 v)) bs bc g cap N { s with odd := v } := h.store 15 _ { s with odd := v } rfl rfl rfl rfl
theorem RefAt.setXYP (h : RefAt w bs bc g cap N s) (a b : Int) : RefAt (((w.setCell ⟨bs, 3, none⟩ (.int .i64 a)).setCell ⟨bs, 4, none⟩ (.int .i64 b)).setCell ⟨bs, 5, none⟩ (.bool false)) bs bc g cap N { s with x := a, y := b, pend := false } :=
  ((h.setX a).setY b).setPend false
theorem keep_xyp (w : World) (bs : Nat) (a b c : Value) : Keep (fun i => i = bs) w (((w.setCell ⟨bs, 3, none⟩ a).setCell ⟨bs, 4, none⟩ b).setCell ⟨bs, 5, none⟩ c) :=
  (((Keep.refl (fun i => i = bs) w).setCell ⟨bs, 3, none⟩ a (fun _ => rfl)).setCell ⟨bs, 4, none⟩ b (fun _ => rfl)).setCell ⟨bs, 5, none⟩ c (fun _ => rfl)
theorem RefAt.drewN (h : RefAt w bs bc g cap N s) (n : Nat) : RefAt (w.drewN n) bs bc g cap N s := h.same rfl rfl rfl
end
/-- What a call leaves: a result, and the screen. -/
def RPost (bs bc g : Nat) (w : World) (s : Rs) (r : Value) (e : Ending) (w' : World) : Prop :=
  ∃ g' cap' N', e = .returned r ∧ RefAt w' bs bc g' cap' N' s ∧ Keep (fun i => i = bs ∨ i = bc ∨ i = g) w w' ∧ (g' = g ∨ w.heap.size ≤ g')
theorem rpost {bs bc g g' cap' N' : Nat} {w w' : World} {s : Rs} {r : Value} (h : RefAt w' bs bc g' cap' N' s) (k : Keep (fun i => i = bs ∨ i = bc ∨ i = g) w w') (hg : g' = g ∨ w.heap.size ≤ g') : RPost bs bc g w s r (.returned r) w' := ⟨g', cap', N', rfl, h, k, hg⟩
end Go.Proofs.YtjlfibhbfdckpaaGreatDoor

/- The document's screen: put. -/
namespace Go.Proofs.YtjlfibhbfdckpaaGreatDoor
open Wd (wd)
/-- The letter that is put, and its width, on a screen of W columns. -/
def effR (W : Nat) (r : Int) : Int := if wd r = 2 ∧ W = 1 then 32 else r
def effW (W : Nat) (r : Int) : Int := if wd r = 2 ∧ W = 1 then 1 else wd r
/-- Does the letter begin a line? -/
def wraps (s : Rs) (k : Int) : Bool := s.pend || (decide (k = 2) && decide (s.x = (s.W : Int) - 1))
def brokenR (s : Rs) (k : Int) : Rs := if wraps s k = true then linefeedR { s with x := 0 } else s
def writeR (s : Rs) (r : Int) : Rs := { s with G := writeG s.W s.H s.G s.x s.y r s.pen }
def stepR (s : Rs) (k : Int) : Rs := if (s.W : Int) ≤ s.x + k then { s with x := (s.W : Int) - 1, pend := true } else { s with x := s.x + k }
def putR (s : Rs) (r : Int) : Rs :=
  if wd r = 0 then { s with odd := Go.RowKit.wrap64 (s.odd + 1) } else stepR (writeR (brokenR s (effW s.W r)) (effR s.W r)) (effW s.W r)
theorem ok_x0' {s : Rs} (h : s.Ok) : Rs.Ok { ({ s with x := 0 } : Rs) with pend := false } := ⟨h.w1, h.w2, h.h1, h.h2, Int.le_refl 0, by have := h.w1; show (0 : Int) < s.W; omega, h.y0, h.y1, h.t0, h.tb, h.b1, (fun q => by cases q), h.wf⟩
theorem Rs.Ok.goes {s : Rs} (h : s.Ok) (x y : Int) : (goesR s x y).Ok := by
  have a := clampI_in x s.W h.w1
  have b := clampI_in y s.H h.h1
  exact ⟨h.w1, h.w2, h.h1, h.h2, a.1, a.2, b.1, b.2, h.t0, h.tb, h.b1, (fun q => by cases q), h.wf⟩
theorem ok_scroll {s : Rs} (h : s.Ok) (n : Int) (p : Pn) : Rs.Ok { s with G := scrollG s.top s.bot n p s.G } :=
  ⟨h.w1, h.w2, h.h1, h.h2, h.x0, h.x1, h.y0, h.y1, h.t0, h.tb, h.b1, h.pd, h.wf.scroll _ _ _ _ h.t0 h.b1⟩
theorem ok_pend {s : Rs} (h : s.Ok) : Rs.Ok { s with pend := false } :=
  ⟨h.w1, h.w2, h.h1, h.h2, h.x0, h.x1, h.y0, h.y1, h.t0, h.tb, h.b1, (fun q => by cases q), h.wf⟩
/-- The cursor at column 0, whatever is pending. -/
theorem ok_lf {s : Rs} (h : s.Ok) : (linefeedR { s with x := 0 }).Ok := by
  have hx : (0 : Int) < s.W := by have := h.w1; omega
  unfold linefeedR
  split
  · exact ⟨h.w1, h.w2, h.h1, h.h2, Int.le_refl 0, hx, h.y0, h.y1, h.t0, h.tb, h.b1, (fun q => by cases q), h.wf.scroll _ _ _ _ h.t0 h.b1⟩
  · have a := clampI_in 0 s.W h.w1
    have b := clampI_in (s.y + 1) s.H h.h1
    exact ⟨h.w1, h.w2, h.h1, h.h2, a.1, a.2, b.1, b.2, h.t0, h.tb, h.b1, (fun q => by cases q), h.wf⟩
theorem Rs.Ok.lf {s : Rs} (h : s.Ok) : (linefeedR s).Ok := by
  unfold linefeedR
  split
  · exact ok_pend (ok_scroll h 1 (backR s))
  · exact h.goes _ _
theorem Rs.Ok.broken {s : Rs} (h : s.Ok) (k : Int) : (brokenR s k).Ok := by
  unfold brokenR
  split
  · exact ok_lf h
  · exact h
end Go.Proofs.YtjlfibhbfdckpaaGreatDoor

/- The document's screen: pens. -/
namespace Go.Proofs.YtjlfibhbfdckpaaGreatDoor
/-- What a number of m does to a pen. -/
def penN (p : Pn) (n : Int) : Pn :=
  if n = 0 then Pn.plain else if n = 1 then { p with bo := true } else if n = 22 then { p with bo := false }
  else if n = 4 then { p with un := true } else if n = 24 then { p with un := false }
  else if n = 7 then { p with re := true } else if n = 27 then { p with re := false }
  else if n = 39 then { p with f := 0 } else if n = 49 then { p with b := 0 }
  else if 30 ≤ n ∧ n ≤ 37 then { p with f := n - 29 } else if 40 ≤ n ∧ n ≤ 47 then { p with b := n - 39 } else p
def penR (s : Rs) (n : Int) : Rs := { s with pen := penN s.pen n }
theorem Rs.Ok.penR {s : Rs} (h : s.Ok) (n : Int) : (penR s n).Ok := ⟨h.w1, h.w2, h.h1, h.h2, h.x0, h.x1, h.y0, h.y1, h.t0, h.tb, h.b1, h.pd, h.wf⟩
theorem RefAt.setPen {w : World} {bs bc g cap N : Nat} {s : Rs} (h : RefAt w bs bc g cap N s) (n : Pn) : RefAt (((((w.setCell ⟨bs, 6, none⟩ (.int .i64 n.f)).setCell ⟨bs, 7, none⟩ (.int .i64 n.b)).setCell ⟨bs, 8, none⟩ (.bool n.bo)).setCell ⟨bs, 9, none⟩ (.bool n.un)).setCell ⟨bs, 10, none⟩ (.bool n.re)) bs bc g cap N { s with pen := n } :=
  ((((h.store 6 _ { s with pen := { s.pen with f := n.f } } rfl rfl rfl rfl).store 7 _ { s with pen := { s.pen with f := n.f, b := n.b } } rfl rfl rfl rfl).store 8 _ { s with pen := { s.pen with f := n.f, b := n.b, bo := n.bo } } rfl rfl rfl rfl).store 9 _ { s with pen := { s.pen with f := n.f, b := n.b, bo := n.bo, un := n.un } } rfl rfl rfl rfl).store 10 _ { s with pen := n } rfl rfl rfl rfl
theorem keep_pen {F : Nat → Prop} {w w' : World} (h : Keep F w w') (bs : Nat) (hF : F bs) (a b c d e : Value) : Keep F w (((((w'.setCell ⟨bs, 6, none⟩ a).setCell ⟨bs, 7, none⟩ b).setCell ⟨bs, 8, none⟩ c).setCell ⟨bs, 9, none⟩ d).setCell ⟨bs, 10, none⟩ e) :=
  ((((h.setCell ⟨bs, 6, none⟩ a (fun _ => hF)).setCell ⟨bs, 7, none⟩ b (fun _ => hF)).setCell ⟨bs, 8, none⟩ c (fun _ => hF)).setCell ⟨bs, 9, none⟩ d (fun _ => hF)).setCell ⟨bs, 10, none⟩ e (fun _ => hF)
theorem pen_done {w : World} {bs bc g cap N : Nat} {s : Rs} (h : RefAt w bs bc g cap N s) (n : Int) (pp : Pn) (hp : penN s.pen n = pp) (arr : Array Value) (t : TypeId) :
    RPost bs bc g w (penR s n) (.tuple #[]) (.returned (.tuple #[])) ((((((w.setCell ⟨bs, 6, none⟩ (.int .i64 pp.f)).setCell ⟨bs, 7, none⟩ (.int .i64 pp.b)).setCell ⟨bs, 8, none⟩ (.bool pp.bo)).setCell ⟨bs, 9, none⟩ (.bool pp.un)).setCell ⟨bs, 10, none⟩ (.bool pp.re)).alloc (.cells arr t)) := by
  have e : penR s n = { s with pen := pp } := by unfold penR; rw [hp]
  rw [e]
  exact rpost ((h.setPen pp).below ((Go.RowKit.Below.refl _ _).alloc (Nat.le_refl _) _)) ((keep_pen (Keep.refl _ w) bs (.inl rfl) _ _ _ _ _).alloc _) (.inl rfl)
end Go.Proofs.YtjlfibhbfdckpaaGreatDoor

/- The document's screen: erasing. -/
namespace Go.Proofs.YtjlfibhbfdckpaaGreatDoor
open Wd (wd)
/-- Which cells are erased. -/
def eraB (how : Int) (all : Bool) (X Y : Int) : Nat → Nat → Bool := fun a b =>
  (decide (how = 2) || (decide (how = 0) && (decide (Y < b) || (decide ((b : Int) = Y) && decide (X ≤ a)))) || (decide (how = 1) && (decide ((b : Int) < Y) || (decide ((b : Int) = Y) && decide ((a : Int) ≤ X))))) && (all || decide ((b : Int) = Y))
/-- The first m cells have been looked at. -/
def eraTo (s : Rs) (how : Int) (all : Bool) (m : Nat) : Nat → Nat → Cel := wrt s.G (fun a b => eraB how all s.x s.y a b && decide (b * s.W + a < m)) (fun _ _ => blk (backR s))
def eraR (s : Rs) (how : Int) (all : Bool) : Rs := { s with G := wrt s.G (eraB how all s.x s.y) (fun _ _ => blk (backR s)) }
theorem era_no {s : Rs} (hwf : Wf s.W s.H s.G) (how : Int) (all : Bool) {x y : Nat} (hx : x < s.W) (h : eraB how all s.x s.y x y = false) : EqOn s.W s.H (eraTo s how all (y * s.W + x)) (eraTo s how all (y * s.W + x + 1)) := by
  unfold eraTo
  refine wr_dom hwf (fun a b ha hb => ?_) (fun _ _ _ _ _ => rfl)
  by_cases e : b * s.W + a = y * s.W + x
  · obtain ⟨rfl, rfl⟩ := place_inj ha hx e
    rw [h]; rfl
  · rw [Bool.eq_iff_iff]
    simp
    intro _
    omega
theorem era_yes {s : Rs} (hwf : Wf s.W s.H s.G) (how : Int) (all : Bool) {x y : Nat} (hx : x < s.W) (h : eraB how all s.x s.y x y = true) : EqOn s.W s.H (wrt (eraTo s how all (y * s.W + x)) (pt x y) (fun _ _ => blk (backR s))) (eraTo s how all (y * s.W + x + 1)) := by
  unfold eraTo
  rw [wr_wr _ _ _ _ _ (fun _ _ _ _ => rfl)]
  refine wr_dom hwf (fun a b ha hb => ?_) (fun a b _ _ _ => by simp)
  by_cases e : a = x ∧ b = y
  · obtain ⟨rfl, rfl⟩ := e
    simp [h, pt]
  · have e' : b * s.W + a ≠ y * s.W + x := fun q => e (place_inj ha hx q)
    have hp : pt x y a b = false := by
      cases hq : pt x y a b with
      | false => rfl
      | true => exact absurd (pt_iff.1 hq) e
    rw [hp, Bool.or_false, Bool.eq_iff_iff]
    simp
    intro _
    omega
theorem era_all {s : Rs} (hwf : Wf s.W s.H s.G) (how : Int) (all : Bool) : EqOn s.W s.H (eraTo s how all (s.H * s.W)) (eraR s how all).G := by
  unfold eraTo eraR
  refine wr_dom hwf (fun a b ha hb => ?_) (fun _ _ _ _ _ => rfl)
  have := place_lt ha hb
  simp [this]
theorem era_none (s : Rs) (how : Int) (all : Bool) : eraTo s how all 0 = s.G := by
  unfold eraTo; exact wr_none _ _ _ (fun a b => by simp)
theorem era_wf {s : Rs} (hwf : Wf s.W s.H s.G) (how : Int) (all : Bool) (m : Nat) : Wf s.W s.H (eraTo s how all m) := hwf.blk _ _
theorem Rs.Ok.era {s : Rs} (h : s.Ok) (how : Int) (all : Bool) : (eraR s how all).Ok := ⟨h.w1, h.w2, h.h1, h.h2, h.x0, h.x1, h.y0, h.y1, h.t0, h.tb, h.b1, h.pd, h.wf.blk _ _⟩
end Go.Proofs.YtjlfibhbfdckpaaGreatDoor
