/- Texts of the proof, one behind the other: RdA, RfD. -/
import Derived.Test.YtjlfibhbfdckpaaGreatDoorK02
import Derived.Test.YtjlfibhbfdckpaaGreatDoorK13
import Derived.Test.YtjlfibhbfdckpaaGreatDoorK23
import Derived.Deep.RegionLaw
import Derived.Deep.AppendLies
/- Desks in memory: the document's. -/
namespace Go.Proofs.YtjlfibhbfdckpaaGreatDoor
open Go.RowKit
/-- A window of the document's list, as it lies. -/
def rVals (c : Int → Nat) (v : Wn) : List Value := [.int .i64 v.n, .int .i64 v.par, .int .i64 v.x, .int .i64 v.y, .bool v.sh, .pointer (some ⟨c v.n, 0, none⟩)]
def rFlat (c : Int → Nat) (L : List Wn) : List Value := L.flatMap (rVals c)
theorem rFlat_append (c : Int → Nat) (L M : List Wn) : rFlat c (L ++ M) = rFlat c L ++ rFlat c M := by simp [rFlat]
theorem rFlat_one (c : Int → Nat) (v : Wn) : rFlat c [v] = rVals c v := by simp [rFlat]
theorem rFlat_length (c : Int → Nat) (L : List Wn) : (rFlat c L).length = L.length * 6 := by
  induction L with
  | nil => rfl
  | cons v L ih => simp [rFlat, rVals] at ih ⊢; omega
theorem rFlat_at (c : Int → Nat) : ∀ (L : List Wn) (i j : Nat) (v : Wn), L[i]? = some v → j < 6 → (rFlat c L)[i * 6 + j]? = (rVals c v)[j]? := by
  intro L
  induction L with
  | nil => intro i j v h; simp at h
  | cons a L ih =>
    intro i j v h hj
    have e : rFlat c (a :: L) = rVals c a ++ rFlat c L := by simp [rFlat]
    have hl : (rVals c a).length = 6 := rfl
    rw [e]
    cases i with
    | zero =>
      obtain rfl : a = v := by simpa using h
      rw [List.getElem?_append_left (by omega)]
      simp
    | succ i =>
      rw [List.getElem?_append_right (by omega), hl, show (i + 1) * 6 + j - 6 = i * 6 + j by omega]
      exact ih i j v (by simpa using h) hj
/-- A window lies in block b from offset o on. -/
def RwAt (w : World) (b o : Nat) (c : Nat) (v : Wn) : Prop := w.cell? ⟨b, o, none⟩ = some (.int .i64 v.n) ∧ w.cell? ⟨b, o + 1, none⟩ = some (.int .i64 v.par) ∧ w.cell? ⟨b, o + 2, none⟩ = some (.int .i64 v.x) ∧ w.cell? ⟨b, o + 3, none⟩ = some (.int .i64 v.y) ∧ w.cell? ⟨b, o + 4, none⟩ = some (.bool v.sh) ∧ w.cell? ⟨b, o + 5, none⟩ = some (.pointer (some ⟨c, 0, none⟩))
theorem rrow_at {w : World} {base g n cap : Nat} {c : Int → Nat} {L : List Wn} {t : TypeId} (h : w.ownsRow base t 6 (.slice (some ⟨g, 0, none⟩) n cap) n (rFlat c L)) (i : Nat) (v : Wn) (hi : L[i]? = some v) : RwAt w g (i * 6) (c v.n) v := by
  obtain ⟨hl, h | ⟨g', cap', cur, hv, hb, hg, hn, hm, hs, ht⟩⟩ := h
  · simp at h
  · simp at hv
    obtain ⟨rfl, rfl⟩ := hv
    have hil : i < L.length := (List.getElem?_eq_some_iff.1 hi).1
    rw [rFlat_length] at hl
    have key : ∀ j u, (rVals c v)[j]? = some u → w.cell? ⟨g, i * 6 + j, none⟩ = some u := by
      intro j u hju
      have hj : j < 6 := (List.getElem?_eq_some_iff.1 hju).1
      have := rFlat_at c L i j v hi hj
      rw [← ht, List.getElem?_take_of_lt (by omega), Array.getElem?_toList, hju] at this
      rw [cell_of_block hg]
      exact this
    exact ⟨key 0 _ rfl, key 1 _ rfl, key 2 _ rfl, key 3 _ rfl, key 4 _ rfl, key 5 _ rfl⟩
/-- Where the document's desk lies. -/
structure Rm where
  d : Nat
  l : Value
  c : Int → Nat
  g : Int → Nat
  cap : Int → Nat
def Rm.blk (R : Rm) : Pl → Option Nat
  | .top 0 => some R.d
  | .top _ => R.l.ownBlock
  | .win n 0 => some (R.c n)
  | .win n _ => some (R.g n)
def Pl.okR (L : List Wn) : Pl → Prop
  | .top k => k < 2
  | .win n k => k < 2 ∧ ∃ v ∈ L, v.n = n
def Rm.own (R : Rm) (L : List Wn) (i : Nat) : Prop := ∃ p : Pl, p.okR L ∧ R.blk p = some i
def Rm.inj (R : Rm) (L : List Wn) : Prop := ∀ (p q : Pl) (i : Nat), p.okR L → q.okR L → R.blk p = some i → R.blk q = some i → p = q
structure RkAt (w : World) (R : Rm) (L : List Wn) (last : Int) : Prop where
  blk : w.heap[R.d]? = some (.cells #[R.l, .int .i64 last] 110)
  row : w.ownsRow 2 107 6 R.l L.length (rFlat R.c L)
  win : ∀ v ∈ L, Cels w (R.c v.n) (R.g v.n) (R.cap v.n) v.W v.H (v.H * v.W) v.G
  wf : ∀ v ∈ L, Wf v.W v.H v.G
  inj : R.inj L
  two : ∀ i, R.own L i → 2 ≤ i
section
variable {w w' : World} {R : Rm} {L : List Wn} {last : Int}
theorem RkAt.lt (h : RkAt w R L last) {i : Nat} (hi : R.own L i) : i < w.heap.size := by
  obtain ⟨p, hp, hb⟩ := hi
  cases p with
  | top k =>
    have hk : k < 2 := hp
    match k, hk with
    | 0, _ => obtain rfl : R.d = i := by simpa [Rm.blk] using hb
              exact (Array.getElem?_eq_some_iff.1 h.blk).1
    | 1, _ => exact (h.row.lt i hb).2
  | win n k =>
    obtain ⟨hk, v, hv, rfl⟩ := hp
    match k, hk with
    | 0, _ => obtain rfl : R.c v.n = i := by simpa [Rm.blk] using hb
              exact (Array.getElem?_eq_some_iff.1 (h.win v hv).blk).1
    | 1, _ => obtain rfl : R.g v.n = i := by simpa [Rm.blk] using hb
              exact (h.win v hv).glt
theorem rown_d (R : Rm) (L : List Wn) : R.own L R.d := ⟨.top 0, (by show 0 < 2; omega), rfl⟩
theorem rown_l (R : Rm) (L : List Wn) {i : Nat} (hi : R.l.ownBlock = some i) : R.own L i := ⟨.top 1, (by show 1 < 2; omega), hi⟩
theorem rown_c (R : Rm) {L : List Wn} {v : Wn} (hv : v ∈ L) : R.own L (R.c v.n) := ⟨.win v.n 0, ⟨by omega, v, hv, rfl⟩, rfl⟩
theorem rown_g (R : Rm) {L : List Wn} {v : Wn} (hv : v ∈ L) : R.own L (R.g v.n) := ⟨.win v.n 1, ⟨by omega, v, hv, rfl⟩, rfl⟩
theorem RkAt.same (h : RkAt w R L last) (hs : ∀ i, R.own L i → w'.heap[i]? = w.heap[i]?) : RkAt w' R L last :=
  ⟨by rw [hs _ (rown_d R L)]; exact h.blk, ownsRow_same h.row (fun i hi => hs i (rown_l R L hi)), fun v hv => (h.win v hv).same (hs _ (rown_c R hv)) (hs _ (rown_g R hv)), h.wf, h.inj, h.two⟩
theorem RkAt.below (h : RkAt w R L last) (hb : Below w.heap.size w w') : RkAt w' R L last := h.same (fun i hi => hb.block i (h.lt hi))
theorem RkAt.keep {F : Nat → Prop} (h : RkAt w R L last) (k : Keep F w w') (hF : ∀ i, R.own L i → ¬ F i) : RkAt w' R L last := h.same (fun i hi => k.block i (h.lt hi) (hF i hi))
theorem RkAt.drewN (h : RkAt w R L last) (n : Nat) : RkAt (w.drewN n) R L last := h.same (fun _ _ => rfl)
theorem RkAt.d0 (h : RkAt w R L last) : w.cell? ⟨R.d, 0, none⟩ = some R.l := cell_of_block h.blk 0
theorem RkAt.d1 (h : RkAt w R L last) : w.cell? ⟨R.d, 1, none⟩ = some (.int .i64 last) := cell_of_block h.blk 1
theorem RkAt.ne (h : RkAt w R L last) {p q : Pl} {i j : Nat} (hp : p.okR L) (hq : q.okR L) (hi : R.blk p = some i) (hj : R.blk q = some j) (hpq : p ≠ q) : i ≠ j := fun e => hpq (h.inj p q i hp hq hi (e ▸ hj))
end
/-- What a call leaves of the document's desk. -/
def RkPost (R : Rm) (L L' : List Wn) (last' : Int) (w : World) (r : Value) (e : Ending) (w' : World) : Prop :=
  ∃ R', e = .returned r ∧ RkAt w' R' L' last' ∧ R'.d = R.d ∧ Keep (R.own L) w w' ∧ ∀ i, R'.own L' i → R.own L i ∨ w.heap.size ≤ i
end Go.Proofs.YtjlfibhbfdckpaaGreatDoor

/- The document's cells: made. -/
namespace Go.Proofs.YtjlfibhbfdckpaaGreatDoor
open Go.RowKit
attribute [local go_sem ↓] Go.wp_at_zero Go.wp_at_succ
set_option maxHeartbeats 2000000 in
theorem refMade (W H : Nat) (w : World) (w1 : 1 ≤ W) (w2 : W ≤ 40) (h1 : 1 ≤ H) (h2 : H ≤ 20) :
    Calls Tryz.prog 74 #[.int .i64 W, .int .i64 H] w fun e w' => ∃ bc g cap, e = .returned (.pointer (some ⟨bc, 0, none⟩)) ∧ w.heap.size ≤ bc ∧ w.heap.size ≤ g ∧ Cels w' bc g cap W H (H * W) (fun _ _ => blk Pn.plain) ∧ Below w.heap.size w w' := by
  obtain ⟨ti, i1, i2, i3, i4⟩ := info_cell
  obtain ⟨N, hN⟩ : ∃ N, H * W = N := ⟨_, rfl⟩
  have hNle : N ≤ 800 := by rw [← hN]; exact Nat.mul_le_mul h2 w2
  have hv1 : IntKind.i64.wrap ((W : Int) * (H : Int)) = (N : Int) := by rw [← Int.natCast_mul, Nat.mul_comm, hN]; exact wrap_id _ (by omega) (by omega)
  have hv2 : (W : Int) * (H : Int) = (N : Int) := by rw [← Int.natCast_mul, Nat.mul_comm, hN]
  have HN : Hid (H * W = N) := hN
  clear hN
  go_enter Tryz.func74, Tryz.ntmps74
  go_wp2_with fail
  go_loopw [6] (fun i w' => ∃ (k : Nat) (v : Value), k ≤ N ∧ i = .int .i64 k ∧ w'.heap[w.heap.size]? = some (.cells #[.int .i64 W, .int .i64 H, v] 122) ∧ w'.ownsRow (w.heap.size + 1) 38 7 v k (flat (List.replicate k (blk Pn.plain))) ∧ Below w.heap.size w w') (fun i _ => N - (intOf i).toNat)
  case atStart => exact ⟨0, _, by omega, rfl, heap_new _ _, World.ownsRow_nil _ _ _ _, (Below.refl _ _).alloc (Nat.le_refl _) _⟩
  case round =>
    obtain ⟨k, v, hk, rfl, hb, hrow, hB⟩ := hrel
    by_cases hlt : k < N
    · have c2 : wr.cell? ⟨w.heap.size, 2, none⟩ = some v := by rw [cell_of_block hb]; rfl
      have fr : ∀ o, wr.frozen? ⟨w.heap.size, o, none⟩ = false := frozen_of_block hb
      have hlt' : (k : Int) < (N : Int) := by omega
      have hbl : w.heap.size < wr.heap.size := World.block_lt_of_cell? _ _ c2
      have Hrow : Hid (wr.ownsRow (w.heap.size + 1) 38 7 v k (flat (List.replicate k (blk Pn.plain)))) := hrow
      have Hb : Hid (wr.heap[w.heap.size]? = some (.cells #[.int .i64 W, .int .i64 H, v] 122)) := hb
      clear hrow hb
      go_wp2_with fail
      go_region_law (first | (go_simp; go_at_call 95; refine (refBlank Pn.plain _).mono ?_; rintro e w5 ⟨rfl, hb5⟩; have hb6 := below_drew' hb5; have e1 := hb6.cells hbl; have e2 := hb6.marks hbl; have Hr6 : Hid (w5.ownsRow (w.heap.size + 1) 38 7 v k (flat (List.replicate k (blk Pn.plain)))) := row_same Hrow.out (fun g hg => hb6.block _ (Hrow.out.lt g hg).2); have s6 := hb6.size; have l6 : w.heap.size < w5.heap.size := Nat.lt_of_lt_of_le hbl s6; clear hb5) | (refine step_append_cel _ (by rfl) (.tmp 22) (.tmp 25) (by rfl) (w.heap.size + 1) v (List.replicate k (blk Pn.plain)) (blk Pn.plain) k (by simp) (by simp [Act.eval]) (row_same Hr6.out (fun g hg => Below.heap_alloc _ _ _ (Hr6.out.lt g hg).2)) w5.heap.size (by simp [Act.eval]) (heap_new w5 _) (by omega) (by simp; omega) ?_; intro g7 cap7 w7 hr7 hg7 ho7 hl7; have hbk : w7.heap[w.heap.size]? = some (.cells #[.int .i64 W, .int .i64 H, v] 122) := (hg7.block _ (by simp; omega) (fun e => by have := (Hr6.out.lt _ e.symm).1; omega)).trans ((Below.heap_alloc _ _ _ (by omega)).trans ((hb6.block _ hbl).trans Hb.out)); have c7 : w7.cell? ⟨w.heap.size, 2, none⟩ = some v := (cell_of_block hbk 2); have f7 : w7.frozen? ⟨w.heap.size, 2, none⟩ = false := frozen_of_block hbk 2))
      all_goals
        have hB7 : Below w.heap.size w (w7.setCell ⟨w.heap.size, 2, none⟩ (.slice (some ⟨g7, 0, none⟩) (k + 1) cap7)) :=
          (((hB.trans (hb6.mono (Nat.le_of_lt hbl))).alloc (Nat.le_of_lt l6) _).grown hg7 (by simp; omega) (fun i hi => by have := (Hr6.out.lt i hi).1; omega)).setCell (Nat.le_refl _) _
        have hr8 : (w7.setCell ⟨w.heap.size, 2, none⟩ (.slice (some ⟨g7, 0, none⟩) (k + 1) cap7)).ownsRow (w.heap.size + 1) 38 7 (.slice (some ⟨g7, 0, none⟩) (k + 1) cap7) (k + 1) (flat (List.replicate (k + 1) (blk Pn.plain))) := by
          rw [List.replicate_succ']
          refine row_same hr7 (fun i hi => Below.heap_setCell _ _ _ _ ?_)
          have := (hr7.lt i hi).1
          show i ≠ w.heap.size
          omega
        have hb8 := heap_set_same hbk 2 (.slice (some ⟨g7, 0, none⟩) (k + 1) cap7)
        generalize hW8 : w7.setCell ⟨w.heap.size, 2, none⟩ (.slice (some ⟨g7, 0, none⟩) (k + 1) cap7) = w8 at *
        clear hr7 hg7 ho7 hl7 c7 f7 hbk hW8 Hr6 e1 e2 hb6
        go_wp2_with fail
        go_roundw
        case rel => exact ⟨k + 1, _, by omega, by go_num, hb8, hr8, hB7⟩
        case measure => simp [intOf]; omega
    · obtain rfl : k = N := by omega
      obtain ⟨g, cap, rfl⟩ := row_slice hrow (by rw [← HN.out]; exact Nat.mul_pos h1 w1)
      have hg := row_ge hrow
      have hC : Cels wr w.heap.size g cap W H k (fun _ _ => blk Pn.plain) :=
        ⟨hb, ⟨fun x y hx hy => row_cel hrow _ _ (List.getElem?_replicate_of_lt (by rw [← HN.out]; exact place_lt hx hy)), row_free hrow⟩, HN.out.symm, by omega, w1, w2, h1, h2⟩
      have HC : Hid (Cels wr w.heap.size g cap W H k (fun _ _ => blk Pn.plain)) := hC
      clear hC hb hrow
      go_wp2_with fail
      go_ret
      exact ⟨w.heap.size, g, cap, rfl, Nat.le_refl _, by omega, by rw [HN.out]; exact HC.out, hB⟩
end Go.Proofs.YtjlfibhbfdckpaaGreatDoor
