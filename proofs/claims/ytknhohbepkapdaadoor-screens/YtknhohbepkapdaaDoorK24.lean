/- Texts of the proof, one behind the other: RfA, RfD. -/
import Derived.Test.YtknhohbepkapdaaDoorK23
import Derived.Test.YtknhohbepkapdaaDoorChecked
import Derived.WalkSpells
import Derived.WalkLawsBesides
import Derived.Deep.RegionHeld3
import Derived.Deep.DrawnRows
import Derived.BigRegion
import Derived.Deep.QuietTactic
import Derived.BigQuiet
import Derived.Deep.RegionLaw
import Derived.Deep.AppendLies
/- The document's cells: blank, in, at. -/
namespace Go.Proofs.YtknhohbepkapdaaDoor
open Go.RowKit
attribute [local go_sem ↓] Go.wp_at_zero Go.wp_at_succ
theorem refBlank (n : Pn) (w : World) :
    Calls Tryd.prog 51 #[n.agg] w fun e w' => e = .returned (blk n).agg ∧ Below w.heap.size w w' := by
  go_enter Tryd.func51, Tryd.ntmps51
  go_wp2
  exact bodyPost_ret (v := (blk n).agg) (by simp [results, Tryd.results51, go_sem, blk]) rfl ⟨rfl, ((Below.refl _ _).alloc (Nat.le_refl _) _).alloc (by simp) _⟩
set_option maxHeartbeats 1000000 in
theorem refIn (bc W H : Nat) (x y : Int) (w : World)
    (h0 : w.cell? ⟨bc, 0, none⟩ = some (.int .i64 W)) (h1 : w.cell? ⟨bc, 1, none⟩ = some (.int .i64 H)) :
    Calls Tryd.prog 39 #[.pointer (some ⟨bc, 0, none⟩), .int .i64 x, .int .i64 y] w fun e w' => e = .returned (.bool (inG W H x y)) ∧ w' = w := by
  rcases (by omega : x < 0 ∨ (0 ≤ x ∧ x < W) ∨ (0 ≤ x ∧ (W : Int) ≤ x)) with a1 | ⟨a1, a2⟩ | ⟨a1, a2⟩
  all_goals rcases (by omega : y < 0 ∨ (0 ≤ y ∧ y < H) ∨ (0 ≤ y ∧ (H : Int) ≤ y)) with b1 | ⟨b1, b2⟩ | ⟨b1, b2⟩
  all_goals
    go_enter Tryd.func39, Tryd.ntmps39
    go_wp2
    go_ret
    exact ⟨by simp [inG]; omega, rfl⟩
set_option maxHeartbeats 1000000 in
theorem refAt (bc g cap W H N : Nat) (G : Nat → Nat → Cel) (x y : Int) (w : World) (h : Cels w bc g cap W H N G) (x0 : 0 ≤ x) (x1 : x < W) (y0 : 0 ≤ y) (y1 : y < H) :
    Calls Tryd.prog 40 #[.pointer (some ⟨bc, 0, none⟩), .int .i64 x, .int .i64 y] w fun e w' => e = .returned (G x.toNat y.toNat).agg ∧ Below w.heap.size w w' := by
  obtain ⟨x, rfl⟩ := Int.eq_ofNat_of_zero_le x0
  obtain ⟨y, rfl⟩ := Int.eq_ofNat_of_zero_le y0
  simp only [Int.toNat_natCast]
  have hl : y * W + x < N := by rw [h.hN]; exact place_lt (by omega) (by omega)
  have hlen := h.nle
  have h0 := h.c0
  have h2 := h.c2
  have hc := h.grid.cel x y (by omega) (by omega)
  obtain ⟨i, hi⟩ : ∃ i, y * W + x = i := ⟨_, rfl⟩
  obtain ⟨m, hm⟩ : ∃ m, y * W = m := ⟨_, rfl⟩
  rw [hi] at hl hc
  rw [hm] at hi
  generalize G x y = c at *
  clear h
  have hw1 : IntKind.i64.wrap ((y : Int) * (W : Int)) = (m : Int) := by rw [← Int.natCast_mul, hm]; exact wrap_id _ (by omega) (by omega)
  have hw2 : IntKind.i64.wrap ((m : Int) + (x : Int)) = (i : Int) := by rw [wrap_id _ (by omega) (by omega)]; omega
  have hi1 : (0 : Int) ≤ (i : Int) := by omega
  have hi2 : (i : Int) < (N : Int) := by omega
  clear hm hi
  obtain ⟨c0, c1, c2, c3, c4, c5, c6⟩ := hc
  have n1 := World.new_ne w _ h0
  have n2 := World.new_ne w _ c0
  go_enter Tryd.func40, Tryd.ntmps40
  go_wp2
  go_region_held3 (fun w' => w'.cell? ⟨bc, 0, none⟩ = some (.int .i64 W) ∧ w'.cell? ⟨bc, 2, none⟩ = some (.slice (some ⟨g, 0, none⟩) N cap) ∧ w'.cell? ⟨g, i * 7, none⟩ = some (.int .i32 c.r) ∧ w'.cell? ⟨g, i * 7 + 1, none⟩ = some (.int .i64 c.p) ∧ w'.cell? ⟨g, i * 7 + 2, none⟩ = some (.int .i64 c.n.f) ∧ w'.cell? ⟨g, i * 7 + 3, none⟩ = some (.int .i64 c.n.b) ∧ w'.cell? ⟨g, i * 7 + 4, none⟩ = some (.bool c.n.bo) ∧ w'.cell? ⟨g, i * 7 + 5, none⟩ = some (.bool c.n.un) ∧ w'.cell? ⟨g, i * 7 + 6, none⟩ = some (.bool c.n.re)) (go_keep) (fail)
  go_wp2
  exact bodyPost_ret (v := c.agg) (by simp [results, Tryd.results40, go_sem]) rfl ⟨rfl, ((Below.refl _ _).alloc (Nat.le_refl _) _).drew⟩
end Go.Proofs.YtknhohbepkapdaaDoor

/- The document's cells: made. -/
namespace Go.Proofs.YtknhohbepkapdaaDoor
open Go.RowKit
attribute [local go_sem ↓] Go.wp_at_zero Go.wp_at_succ
theorem info_zero : (Tryd.prog.info? 56).bind (·.zero) = some (Cel.agg ⟨0, 0, Pn.plain⟩) := by kernel_rfl
theorem info_size : (Tryd.prog.info? 56).map (·.size) = some 7 := by kernel_rfl
theorem info_bytes : (Tryd.prog.info? 56).map (·.bytes) = some 40 := by kernel_rfl
theorem info_cell : ∃ i : TypeInfo, Tryd.prog.info? 56 = some i ∧ i.zero = some (Cel.agg ⟨0, 0, Pn.plain⟩) ∧ i.size = 7 ∧ i.bytes = 40 := by
  have h1 := info_zero
  have h2 := info_size
  have h3 := info_bytes
  cases h : Tryd.prog.info? 56 with
  | none => rw [h] at h2; simp at h2
  | some i => rw [h] at h1 h2 h3; exact ⟨i, rfl, by simpa using h1, by simpa using h2, by simpa using h3⟩
abbrev celArr (c : Cel) : Array Value := #[.int .i32 c.r, .int .i64 c.p, .int .i64 c.n.f, .int .i64 c.n.b, .bool c.n.bo, .bool c.n.un, .bool c.n.re]
theorem step_append_cel {ops : Array Oper} {o : Oper} {a : Act} {K : Act → World → Prop} {Q : Exit → Act → World → Prop} {E : Prop} (w : World) (hgd : o.guard = none) (s x : Operand)
    (ho : o.op = .call { callee := .builtin .append, args := #[s, x], argTypes := #[85, 85] }) (base : Nat) (v : Value) (L : List Cel) (c : Cel) (k : Nat) (hk : L.length = k) (hs : a.eval s = v)
    (hown : w.ownsRow base 56 7 v k (flat L)) (b : Nat) (hx : a.eval x = .slice (some ⟨b, 0, none⟩) 1 1) (hb : w.heap[b]? = some (.cells (celArr c) 56)) (hL : k ≤ 1000) (hbase : base ≤ w.heap.size)
    (h : ∀ g cap w', w'.ownsRow base 56 7 (.slice (some ⟨g, 0, none⟩) (k + 1) cap) (k + 1) (flat (L ++ [c])) → w.grownBy w' v.ownBlock → (v.ownBlock = some g ∨ g = w.heap.size) → g < w'.heap.size → K (a.put o.dst (.slice (some ⟨g, 0, none⟩) (k + 1) cap)) w') :
    if Region.wanted o (yielded ops a.tmps) = true then Oper.wp Tryd.prog o a w K Q else E := by
  obtain ⟨ti, i1, i2, i3, i4⟩ := info_cell
  refine step_append_lies w hgd s x 85 ho base 56 ti _ 7 40 Tryd.underlying85 i1 i2 i3 i4 rfl (by decide) v k (flat L) hs hown ⟨b, 0, none⟩ 1 1 c.vals hx rfl (World.news_of_block hb) (one_vals c) (by decide) (by unfold maxLen; omega) (by omega) hbase w.heap.size rfl ?_
  intro g cap w' h1 h2 h3 h4
  rw [← flat_one c, ← flat_append] at h1
  exact h g cap w' h1 h2 h3 h4
theorem list_append_cel {ops : Array Oper} {rest : List Oper} {o : Oper} {a : Act} {Q : Exit → Act → World → Prop} (w : World) (hgd : o.guard = none) (s x : Operand)
    (ho : o.op = .call { callee := .builtin .append, args := #[s, x], argTypes := #[85, 85] }) (base : Nat) (v : Value) (L : List Cel) (c : Cel) (k : Nat) (hk : L.length = k) (hs : a.eval s = v)
    (hown : w.ownsRow base 56 7 v k (flat L)) (b : Nat) (hx : a.eval x = .slice (some ⟨b, 0, none⟩) 1 1) (hb : w.heap[b]? = some (.cells (celArr c) 56)) (hL : k ≤ 1000) (hbase : base ≤ w.heap.size)
    (h : ∀ g cap w', w'.ownsRow base 56 7 (.slice (some ⟨g, 0, none⟩) (k + 1) cap) (k + 1) (flat (L ++ [c])) → w.grownBy w' v.ownBlock → (v.ownBlock = some g ∨ g = w.heap.size) → g < w'.heap.size → wpList Tryd.prog ops Q rest (a.put o.dst (.slice (some ⟨g, 0, none⟩) (k + 1) cap)) w') :
    wpList Tryd.prog ops Q (o :: rest) a w := by
  obtain ⟨ti, i1, i2, i3, i4⟩ := info_cell
  refine wpList_append_lies w hgd s x 85 ho base 56 ti _ 7 40 Tryd.underlying85 i1 i2 i3 i4 rfl (by decide) v k (flat L) hs hown ⟨b, 0, none⟩ 1 1 c.vals hx rfl (World.news_of_block hb) (one_vals c) (by decide) (by unfold maxLen; omega) (by omega) hbase w.heap.size rfl ?_
  intro g cap w' h1 h2 h3 h4
  rw [← flat_one c, ← flat_append] at h1
  exact h g cap w' h1 h2 h3 h4
set_option maxHeartbeats 2000000 in
theorem refMade (W H : Nat) (w : World) (w1 : 1 ≤ W) (w2 : W ≤ 40) (h1 : 1 ≤ H) (h2 : H ≤ 20) :
    Calls Tryd.prog 33 #[.int .i64 W, .int .i64 H] w fun e w' => ∃ bc g cap, e = .returned (.pointer (some ⟨bc, 0, none⟩)) ∧ w.heap.size ≤ bc ∧ w.heap.size ≤ g ∧ Cels w' bc g cap W H (H * W) (fun _ _ => blk Pn.plain) ∧ Below w.heap.size w w' := by
  obtain ⟨ti, i1, i2, i3, i4⟩ := info_cell
  obtain ⟨N, hN⟩ : ∃ N, H * W = N := ⟨_, rfl⟩
  have hNle : N ≤ 800 := by rw [← hN]; exact Nat.mul_le_mul h2 w2
  have hv1 : IntKind.i64.wrap ((W : Int) * (H : Int)) = (N : Int) := by rw [← Int.natCast_mul, Nat.mul_comm, hN]; exact wrap_id _ (by omega) (by omega)
  have hv2 : (W : Int) * (H : Int) = (N : Int) := by rw [← Int.natCast_mul, Nat.mul_comm, hN]
  have HN : Hid (H * W = N) := hN
  clear hN
  go_enter Tryd.func33, Tryd.ntmps33
  go_wp2_with fail
  go_loopw [6] (fun i w' => ∃ (k : Nat) (v : Value), k ≤ N ∧ i = .int .i64 k ∧ w'.heap[w.heap.size]? = some (.cells #[.int .i64 W, .int .i64 H, v] 87) ∧ w'.ownsRow (w.heap.size + 1) 56 7 v k (flat (List.replicate k (blk Pn.plain))) ∧ Below w.heap.size w w') (fun i _ => N - (intOf i).toNat)
  case atStart => exact ⟨0, _, by omega, rfl, heap_new _ _, World.ownsRow_nil _ _ _ _, (Below.refl _ _).alloc (Nat.le_refl _) _⟩
  case round =>
    obtain ⟨k, v, hk, rfl, hb, hrow, hB⟩ := hrel
    by_cases hlt : k < N
    · have c2 : wr.cell? ⟨w.heap.size, 2, none⟩ = some v := by rw [cell_of_block hb]; rfl
      have fr : ∀ o, wr.frozen? ⟨w.heap.size, o, none⟩ = false := frozen_of_block hb
      have hlt' : (k : Int) < (N : Int) := by omega
      have hbl : w.heap.size < wr.heap.size := World.block_lt_of_cell? _ _ c2
      have Hrow : Hid (wr.ownsRow (w.heap.size + 1) 56 7 v k (flat (List.replicate k (blk Pn.plain)))) := hrow
      have Hb : Hid (wr.heap[w.heap.size]? = some (.cells #[.int .i64 W, .int .i64 H, v] 87)) := hb
      clear hrow hb
      go_wp2_with fail
      go_region_law (first | (go_simp; go_at_call 51; refine (refBlank Pn.plain _).mono ?_; rintro e w5 ⟨rfl, hb5⟩; have hb6 := below_drew' hb5; have e1 := hb6.cells hbl; have e2 := hb6.marks hbl; have Hr6 : Hid (w5.ownsRow (w.heap.size + 1) 56 7 v k (flat (List.replicate k (blk Pn.plain)))) := row_same Hrow.out (fun g hg => hb6.block _ (Hrow.out.lt g hg).2); have s6 := hb6.size; have l6 : w.heap.size < w5.heap.size := Nat.lt_of_lt_of_le hbl s6; clear hb5) | (refine step_append_cel _ (by rfl) (.tmp 22) (.tmp 25) (by rfl) (w.heap.size + 1) v (List.replicate k (blk Pn.plain)) (blk Pn.plain) k (by simp) (by simp [Act.eval]) (row_same Hr6.out (fun g hg => Below.heap_alloc _ _ _ (Hr6.out.lt g hg).2)) w5.heap.size (by simp [Act.eval]) (heap_new w5 _) (by omega) (by simp; omega) ?_; intro g7 cap7 w7 hr7 hg7 ho7 hl7; have hbk : w7.heap[w.heap.size]? = some (.cells #[.int .i64 W, .int .i64 H, v] 87) := (hg7.block _ (by simp; omega) (fun e => by have := (Hr6.out.lt _ e.symm).1; omega)).trans ((Below.heap_alloc _ _ _ (by omega)).trans ((hb6.block _ hbl).trans Hb.out)); have c7 : w7.cell? ⟨w.heap.size, 2, none⟩ = some v := (cell_of_block hbk 2); have f7 : w7.frozen? ⟨w.heap.size, 2, none⟩ = false := frozen_of_block hbk 2))
      all_goals
        have hB7 : Below w.heap.size w (w7.setCell ⟨w.heap.size, 2, none⟩ (.slice (some ⟨g7, 0, none⟩) (k + 1) cap7)) :=
          (((hB.trans (hb6.mono (Nat.le_of_lt hbl))).alloc (Nat.le_of_lt l6) _).grown hg7 (by simp; omega) (fun i hi => by have := (Hr6.out.lt i hi).1; omega)).setCell (Nat.le_refl _) _
        have hr8 : (w7.setCell ⟨w.heap.size, 2, none⟩ (.slice (some ⟨g7, 0, none⟩) (k + 1) cap7)).ownsRow (w.heap.size + 1) 56 7 (.slice (some ⟨g7, 0, none⟩) (k + 1) cap7) (k + 1) (flat (List.replicate (k + 1) (blk Pn.plain))) := by
          rw [List.replicate_succ']
          refine row_same hr7 (fun i hi => Below.heap_setCell _ _ _ _ ?_)
          have := (hr7.lt i hi).1
          show i ≠ w.heap.size
          omega
        have hb8 := heap_set_same hbk 2 (.slice (some ⟨g7, 0, none⟩) (k + 1) cap7)
        generalize hW8 : w7.setCell ⟨w.heap.size, 2, none⟩ (.slice (some ⟨g7, 0, none⟩) (k + 1) cap7) = w8 at *
        clear hr7 hg7 ho7 hl7 c7 f7 hbk hW8 Hr6 e1 e2 hb6
        go_wp2_with fail
        go_roundw
        case rel => exact ⟨k + 1, _, by omega, by go_num, hb8, hr8, hB7⟩
        case measure => simp [intOf]; omega
    · obtain rfl : k = N := by omega
      obtain ⟨g, cap, rfl⟩ := row_slice hrow (by rw [← HN.out]; exact Nat.mul_pos h1 w1)
      have hg := row_ge hrow
      have hC : Cels wr w.heap.size g cap W H k (fun _ _ => blk Pn.plain) :=
        ⟨hb, ⟨fun x y hx hy => row_cel hrow _ _ (List.getElem?_replicate_of_lt (by rw [← HN.out]; exact place_lt hx hy)), row_free hrow⟩, HN.out.symm, by omega, w1, w2, h1, h2⟩
      have HC : Hid (Cels wr w.heap.size g cap W H k (fun _ _ => blk Pn.plain)) := hC
      clear hC hb hrow
      go_wp2_with fail
      go_ret
      exact ⟨w.heap.size, g, cap, rfl, Nat.le_refl _, by omega, by rw [HN.out]; exact HC.out, hB⟩
end Go.Proofs.YtknhohbepkapdaaDoor
