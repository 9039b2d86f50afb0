/- Texts of the proof, one behind the other: RfE. -/
import Derived.Test.YtjlfibhbfdckpaaDoorK04
import Derived.Test.YtjlfibhbfdckpaaDoorK15
/- The document's cells: scroll. -/
namespace Go.Proofs.YtjlfibhbfdckpaaDoor
open Go.RowKit
attribute [local go_sem ↓] Go.wp_at_zero Go.wp_at_succ
set_option maxHeartbeats 4000000 in
theorem refScroll (bc g cap W H N : Nat) (G : Nat → Nat → Cel) (top bot : Nat) (n : Int) (p : Pn) (w : World) (h : Cels w bc g cap W H N G) (hb : bot < H) :
    Calls Tryd.prog 78 #[.pointer (some ⟨bc, 0, none⟩), .int .i64 top, .int .i64 bot, .int .i64 n, p.agg] w fun e w' => ∃ g' cap', e = .returned (.tuple #[]) ∧ Cels w' bc g' cap' W H N (scrollG top bot n p G) ∧ Keep (fun i => i = bc) w w' ∧ w.heap.size ≤ g' := by
  have bl := h.lt
  have gl := h.glt
  have hw2 := h.w2
  have hh2 := h.h2
  have nle := h.nle
  have HN : Hid (N = H * W) := h.hN
  have hl0 : Hid (Cels w bc g cap W H N G) := h
  clear h
  go_enter Tryd.func78, Tryd.ntmps78
  go_wp2_with fail
  have hb0 : Below w.heap.size w (w.alloc (.cells #[.int .i64 p.f, .int .i64 p.b, .bool p.bo, .bool p.un, .bool p.re] 44)) := (Below.refl _ _).alloc (Nat.le_refl _) _
  go_loopw [10, 11] (fun l i w' => ∃ (y m : Nat), y ≤ H ∧ y * W = m ∧ i = .int .i64 y ∧ w'.ownsRow (w.heap.size + 1) 56 7 l m (flat (cellsTo W (scrollG top bot n p G) m)) ∧ Cels w' bc g cap W H N G ∧ PenAt w' w.heap.size 0 p ∧ Below w.heap.size w w') (fun _ i _ => H - (intOf i).toNat)
  case atStart => exact ⟨0, 0, by omega, by simp, rfl, World.ownsRow_nil _ _ _ _, hl0.out.below hb0, pen_new _ _ _, hb0⟩
  case round =>
    obtain ⟨y, m0, hy, hm0, rfl, hr, hC, hP, hB⟩ := hrel
    have HR0 : Hid (wr.ownsRow (w.heap.size + 1) 56 7 u10 m0 (flat (cellsTo W (scrollG top bot n p G) m0))) := hr
    have HC0 : Hid (Cels wr bc g cap W H N G) := hC
    have c1 := hC.c1
    have Hm0 : Hid (y * W = m0) := hm0
    clear hr hC hm0
    by_cases hlt : y < H
    · go_wp2_with fail
      go_loopw [10, 12] (fun l i w' => ∃ (x m : Nat), x ≤ W ∧ y * W + x = m ∧ i = .int .i64 x ∧ w'.ownsRow (w.heap.size + 1) 56 7 l m (flat (cellsTo W (scrollG top bot n p G) m)) ∧ Cels w' bc g cap W H N G ∧ PenAt w' w.heap.size 0 p ∧ Below w.heap.size w w') (fun _ i _ => W - (intOf i).toNat)
      case atStart => exact ⟨0, m0, by omega, by have := Hm0.out; omega, rfl, HR0.out, HC0.out, hP, hB⟩
      case round =>
        clear HR0 HC0 c1 hP hB
        obtain ⟨x, m, hx, hm, rfl, hr, hC, hP, hB⟩ := hrel
        have Hm : Hid (y * W + x = m) := hm
        have hm800 : m ≤ 800 := by
          have a := HN.out
          have b : y * W + W ≤ H * W := by have := Nat.mul_le_mul_right W hlt; rw [Nat.succ_mul] at this; exact this
          omega
        clear hm
        by_cases hlx : x < W
        · have c0 := hC.c0
          have HR : Hid (wr.ownsRow (w.heap.size + 1) 56 7 u10 m (flat (cellsTo W (scrollG top bot n p G) m))) := hr
          clear hr
          go_wp2_with fail
          go_at_call 40
          refine (refAt bc g cap W H N G x y _ hC (by omega) (by omega) (by omega) (by omega)).mono ?_
          rintro e w2 ⟨rfl, hb2⟩
          simp only [Int.toNat_natCast]
          have HC2 : Hid (Cels w2 bc g cap W H N G) := hC.below hb2
          have P2 : PenAt w2 w.heap.size 0 p := hP.same (hb2.block _ hP.lt)
          have HR2 : Hid (w2.ownsRow (w.heap.size + 1) 56 7 u10 m (flat (cellsTo W (scrollG top bot n p G) m))) := row_same HR.out (fun i hi => hb2.block _ (HR.out.lt i hi).2)
          have B2 : Below w.heap.size w w2 := hB.trans (hb2.mono hB.size)
          have s2 := P2.lt
          clear hb2 hC hP hB HR c0
          rcases (by omega : (y : Int) < top ∨ ((top : Int) ≤ y ∧ (bot : Int) < y) ∨ ((top : Int) ≤ y ∧ (y : Int) ≤ bot)) with a1 | ⟨a1, a2⟩ | ⟨a1, a2⟩
          · have HCC : Hid (scrollG top bot n p G x y = G x y) := by unfold scrollG; exact if_neg (by omega)
            go_wp2_with ((at_builtin; refine list_append_cel _ (by rfl) (.tmp 70) (.tmp 72) (by rfl) (w.heap.size + 1) u10 (cellsTo W (scrollG top bot n p G) m) (G x y) m (cellsTo_length _ _ _) (by rfl) (row_same HR2.out (fun i hi => by have := (HR2.out.lt i hi).2; rw [Below.heap_alloc _ _ _ (by simp; omega), Below.heap_alloc _ _ _ (by omega)])) (w2.heap.size + 1) (by rfl) (heap_new' _ _ _ (by simp)) (by omega) (by simp; omega) ?_; intro g7 cap7 w7 hr7 hg7 ho7 hl7))
            have bA : Below w2.heap.size w2 ((w2.alloc (.cells (celArr (G x y)) 56)).alloc (.cells (celArr (G x y)) 56)) := ((Below.refl _ _).alloc (Nat.le_refl _) _).alloc (by simp) _
            have bG : ∀ k, k < w2.heap.size → some k ≠ u10.ownBlock → w7.heap[k]? = w2.heap[k]? := fun k hk hne => (hg7.block k (by simp; omega) hne).trans (bA.block k hk)
            have r2 : ∀ k, u10.ownBlock = some k → w.heap.size + 1 ≤ k := fun k hk => (HR2.out.lt k hk).1
            have C7 : Cels w7 bc g cap W H N G := HC2.out.same (bG _ HC2.out.lt (fun e => by have := r2 _ e.symm; omega)) (bG _ HC2.out.glt (fun e => by have := r2 _ e.symm; omega))
            have P7 : PenAt w7 w.heap.size 0 p := P2.same (bG _ P2.lt (fun e => by have := r2 _ e.symm; omega))
            have B7 : Below w.heap.size w w7 := (B2.trans (bA.mono (Nat.le_of_lt P2.lt))).grown hg7 (by simp; have := P2.lt; omega) (fun k hk => by have := r2 k hk; omega)
            clear bA bG r2 hg7
            have e7 : flat (cellsTo W (scrollG top bot n p G) m ++ [G x y]) = flat (cellsTo W (scrollG top bot n p G) (m + 1)) := by
              have := cellsTo_succ W (scrollG top bot n p G) x y hlx
              rw [← Nat.add_assoc, Hm.out] at this
              rw [this, HCC.out]
            rw [e7] at hr7
            clear ho7 e7
            go_wp2_with fail
            go_roundw
            case rel => exact ⟨x + 1, m + 1, by omega, by have := Hm.out; omega, by go_num, hr7, C7, P7, B7⟩
            case measure => simp [intOf]; omega
          · have HCC : Hid (scrollG top bot n p G x y = G x y) := by unfold scrollG; exact if_neg (by omega)
            go_wp2_with ((at_builtin; refine list_append_cel _ (by rfl) (.tmp 70) (.tmp 72) (by rfl) (w.heap.size + 1) u10 (cellsTo W (scrollG top bot n p G) m) (G x y) m (cellsTo_length _ _ _) (by rfl) (row_same HR2.out (fun i hi => by have := (HR2.out.lt i hi).2; rw [Below.heap_alloc _ _ _ (by simp; omega), Below.heap_alloc _ _ _ (by omega)])) (w2.heap.size + 1) (by rfl) (heap_new' _ _ _ (by simp)) (by omega) (by simp; omega) ?_; intro g7 cap7 w7 hr7 hg7 ho7 hl7))
            have bA : Below w2.heap.size w2 ((w2.alloc (.cells (celArr (G x y)) 56)).alloc (.cells (celArr (G x y)) 56)) := ((Below.refl _ _).alloc (Nat.le_refl _) _).alloc (by simp) _
            have bG : ∀ k, k < w2.heap.size → some k ≠ u10.ownBlock → w7.heap[k]? = w2.heap[k]? := fun k hk hne => (hg7.block k (by simp; omega) hne).trans (bA.block k hk)
            have r2 : ∀ k, u10.ownBlock = some k → w.heap.size + 1 ≤ k := fun k hk => (HR2.out.lt k hk).1
            have C7 : Cels w7 bc g cap W H N G := HC2.out.same (bG _ HC2.out.lt (fun e => by have := r2 _ e.symm; omega)) (bG _ HC2.out.glt (fun e => by have := r2 _ e.symm; omega))
            have P7 : PenAt w7 w.heap.size 0 p := P2.same (bG _ P2.lt (fun e => by have := r2 _ e.symm; omega))
            have B7 : Below w.heap.size w w7 := (B2.trans (bA.mono (Nat.le_of_lt P2.lt))).grown hg7 (by simp; have := P2.lt; omega) (fun k hk => by have := r2 k hk; omega)
            clear bA bG r2 hg7
            have e7 : flat (cellsTo W (scrollG top bot n p G) m ++ [G x y]) = flat (cellsTo W (scrollG top bot n p G) (m + 1)) := by
              have := cellsTo_succ W (scrollG top bot n p G) x y hlx
              rw [← Nat.add_assoc, Hm.out] at this
              rw [this, HCC.out]
            rw [e7] at hr7
            clear ho7 e7
            go_wp2_with fail
            go_roundw
            case rel => exact ⟨x + 1, m + 1, by omega, by have := Hm.out; omega, by go_num, hr7, C7, P7, B7⟩
            case measure => simp [intOf]; omega
          · obtain ⟨p0, p1, p2, p3, p4⟩ := P2
            go_wp2_with fail
            go_at_call 51
            refine (refBlank p _).mono ?_
            rintro e w3 ⟨rfl, hb3⟩
            have P2 : PenAt w2 w.heap.size 0 p := ⟨p0, p1, p2, p3, p4⟩
            have b23 : Below w2.heap.size w2 w3 := ((Below.refl _ _).alloc (Nat.le_refl _) _).trans (hb3.mono (by simp))
            have s3 : w2.heap.size < w3.heap.size := by have := hb3.size; simp at this; omega
            have C3 : Cels w3 bc g cap W H N G := HC2.out.below b23
            have P3 : PenAt w3 w.heap.size 0 p := P2.same (b23.block _ s2)
            have HR3 : Hid (w3.ownsRow (w.heap.size + 1) 56 7 u10 m (flat (cellsTo W (scrollG top bot n p G) m))) := row_same HR2.out (fun i hi => b23.block _ (HR2.out.lt i hi).2)
            have R2lt : ∀ i, u10.ownBlock = some i → w.heap.size + 1 ≤ i ∧ i < w2.heap.size := HR2.out.lt
            have k3 : CelAt w3 w2.heap.size 0 (G x y) := CelAt.same ⟨cell_of_block (heap_new w2 _) 0, cell_of_block (heap_new w2 _) 1, cell_of_block (heap_new w2 _) 2, cell_of_block (heap_new w2 _) 3, cell_of_block (heap_new w2 _) 4, cell_of_block (heap_new w2 _) 5, cell_of_block (heap_new w2 _) 6⟩ (hb3.block _ (by simp))
            have f3 : ∀ o, w3.frozen? ⟨w2.heap.size, o, none⟩ = false := fun o => (hb3.marks (by simp) o).trans (frozen_of_block (heap_new w2 _) o)
            have B3 : Below w.heap.size w w3 := B2.trans (b23.mono (Nat.le_of_lt s2))
            have bcl : bc < w2.heap.size := HC2.out.lt
            have gll : g < w2.heap.size := HC2.out.glt
            have HRl : Hid (∀ i, u10.ownBlock = some i → w.heap.size + 1 ≤ i ∧ i < w2.heap.size) := R2lt
            have HC3 : Hid (Cels w3 bc g cap W H N G) := C3
            generalize hk : w2.heap.size = Bk at *
            clear hb3 b23 P2 p0 p1 p2 p3 p4 HC2 HR2 B2 R2lt C3 hk
            obtain ⟨d0, d1, d2, d3, d4, d5, d6⟩ := k3
            have hH : (H : Int) ≤ 20 := by omega
            have hbi : (bot : Int) < H := by omega
            rcases (by omega : n ≤ -100 ∨ 100 ≤ n ∨ (-100 < n ∧ n < 100 ∧ (y : Int) + n < top) ∨ (-100 < n ∧ n < 100 ∧ (top : Int) ≤ (y : Int) + n ∧ (bot : Int) < (y : Int) + n) ∨ (-100 < n ∧ n < 100 ∧ (top : Int) ≤ (y : Int) + n ∧ (y : Int) + n ≤ bot)) with b1 | b1 | ⟨b1, b2, b3⟩ | ⟨b1, b2, b3, b4⟩ | ⟨b1, b2, b3, b4⟩
            · have HCC : Hid (scrollG top bot n p G x y = blk p) := by unfold scrollG; rw [if_pos ⟨a1, a2⟩]; exact if_neg (by omega)
              go_wp2_with ((at_builtin; refine list_append_cel _ (by rfl) (.tmp 70) (.tmp 72) (by rfl) (w.heap.size + 1) u10 (cellsTo W (scrollG top bot n p G) m) (blk p) m (cellsTo_length _ _ _) (by rfl) (row_same HR3.out (fun i hi => by have := HRl.out i hi; exact (Below.heap_alloc _ _ _ (by simp; omega)).trans (put7_other w3 Bk 0 i (blk p) (by omega)))) w3.heap.size (by rfl) (heap_new' _ _ _ (by simp)) (by omega) (by simp; omega) ?_; intro g7 cap7 w7 hr7 hg7 ho7 hl7))
              have bG : ∀ k, k < Bk → some k ≠ u10.ownBlock → w7.heap[k]? = w3.heap[k]? := fun k hk hne => (hg7.block k (by simp; omega) hne).trans ((Below.heap_alloc _ _ _ (by simp; omega)).trans (put7_other w3 Bk 0 k (blk p) (by omega)))
              have C7 : Cels w7 bc g cap W H N G := HC3.out.same (bG _ bcl (fun e => by have := HRl.out _ e.symm; omega)) (bG _ gll (fun e => by have := HRl.out _ e.symm; omega))
              have P7 : PenAt w7 w.heap.size 0 p := P3.same (bG _ s2 (fun e => by have := HRl.out _ e.symm; omega))
              have B4 : Below w.heap.size w ((put7 w3 Bk 0 (blk p)).alloc (.cells (celArr (blk p)) 56)) := (((Keep.below (fun i => Bk ≤ i) B3).put7 Bk 0 (blk p) (fun _ => Nat.le_refl _)).toBelow (Nat.le_refl _) (fun i hi => by omega)).alloc (by rw [put7_size]; omega) _
              have B7 : Below w.heap.size w w7 := B4.grown hg7 (by rw [size_alloc, put7_size]; omega) (fun k hk => by have := (HRl.out k hk).1; omega)
              clear B4 bG hg7
              have e7 : flat (cellsTo W (scrollG top bot n p G) m ++ [blk p]) = flat (cellsTo W (scrollG top bot n p G) (m + 1)) := by
                have := cellsTo_succ W (scrollG top bot n p G) x y hlx
                rw [← Nat.add_assoc, Hm.out] at this
                rw [this, HCC.out]
              rw [e7] at hr7
              clear ho7 e7
              go_wp2_with fail
              go_roundw
              case rel => exact ⟨x + 1, m + 1, by omega, by have := Hm.out; omega, by go_num, hr7, C7, P7, B7⟩
              case measure => simp [intOf]; omega
            · have HCC : Hid (scrollG top bot n p G x y = blk p) := by unfold scrollG; rw [if_pos ⟨a1, a2⟩]; exact if_neg (by omega)
              go_wp2_with ((at_builtin; refine list_append_cel _ (by rfl) (.tmp 70) (.tmp 72) (by rfl) (w.heap.size + 1) u10 (cellsTo W (scrollG top bot n p G) m) (blk p) m (cellsTo_length _ _ _) (by rfl) (row_same HR3.out (fun i hi => by have := HRl.out i hi; exact (Below.heap_alloc _ _ _ (by simp; omega)).trans (put7_other w3 Bk 0 i (blk p) (by omega)))) w3.heap.size (by rfl) (heap_new' _ _ _ (by simp)) (by omega) (by simp; omega) ?_; intro g7 cap7 w7 hr7 hg7 ho7 hl7))
              have bG : ∀ k, k < Bk → some k ≠ u10.ownBlock → w7.heap[k]? = w3.heap[k]? := fun k hk hne => (hg7.block k (by simp; omega) hne).trans ((Below.heap_alloc _ _ _ (by simp; omega)).trans (put7_other w3 Bk 0 k (blk p) (by omega)))
              have C7 : Cels w7 bc g cap W H N G := HC3.out.same (bG _ bcl (fun e => by have := HRl.out _ e.symm; omega)) (bG _ gll (fun e => by have := HRl.out _ e.symm; omega))
              have P7 : PenAt w7 w.heap.size 0 p := P3.same (bG _ s2 (fun e => by have := HRl.out _ e.symm; omega))
              have B4 : Below w.heap.size w ((put7 w3 Bk 0 (blk p)).alloc (.cells (celArr (blk p)) 56)) := (((Keep.below (fun i => Bk ≤ i) B3).put7 Bk 0 (blk p) (fun _ => Nat.le_refl _)).toBelow (Nat.le_refl _) (fun i hi => by omega)).alloc (by rw [put7_size]; omega) _
              have B7 : Below w.heap.size w w7 := B4.grown hg7 (by rw [size_alloc, put7_size]; omega) (fun k hk => by have := (HRl.out k hk).1; omega)
              clear B4 bG hg7
              have e7 : flat (cellsTo W (scrollG top bot n p G) m ++ [blk p]) = flat (cellsTo W (scrollG top bot n p G) (m + 1)) := by
                have := cellsTo_succ W (scrollG top bot n p G) x y hlx
                rw [← Nat.add_assoc, Hm.out] at this
                rw [this, HCC.out]
              rw [e7] at hr7
              clear ho7 e7
              go_wp2_with fail
              go_roundw
              case rel => exact ⟨x + 1, m + 1, by omega, by have := Hm.out; omega, by go_num, hr7, C7, P7, B7⟩
              case measure => simp [intOf]; omega
            · have HCC : Hid (scrollG top bot n p G x y = blk p) := by unfold scrollG; rw [if_pos ⟨a1, a2⟩]; exact if_neg (by omega)
              go_wp2_with ((at_builtin; refine list_append_cel _ (by rfl) (.tmp 70) (.tmp 72) (by rfl) (w.heap.size + 1) u10 (cellsTo W (scrollG top bot n p G) m) (blk p) m (cellsTo_length _ _ _) (by rfl) (row_same HR3.out (fun i hi => by have := HRl.out i hi; exact (Below.heap_alloc _ _ _ (by simp; omega)).trans (put7_other w3 Bk 0 i (blk p) (by omega)))) w3.heap.size (by rfl) (heap_new' _ _ _ (by simp)) (by omega) (by simp; omega) ?_; intro g7 cap7 w7 hr7 hg7 ho7 hl7))
              have bG : ∀ k, k < Bk → some k ≠ u10.ownBlock → w7.heap[k]? = w3.heap[k]? := fun k hk hne => (hg7.block k (by simp; omega) hne).trans ((Below.heap_alloc _ _ _ (by simp; omega)).trans (put7_other w3 Bk 0 k (blk p) (by omega)))
              have C7 : Cels w7 bc g cap W H N G := HC3.out.same (bG _ bcl (fun e => by have := HRl.out _ e.symm; omega)) (bG _ gll (fun e => by have := HRl.out _ e.symm; omega))
              have P7 : PenAt w7 w.heap.size 0 p := P3.same (bG _ s2 (fun e => by have := HRl.out _ e.symm; omega))
              have B4 : Below w.heap.size w ((put7 w3 Bk 0 (blk p)).alloc (.cells (celArr (blk p)) 56)) := (((Keep.below (fun i => Bk ≤ i) B3).put7 Bk 0 (blk p) (fun _ => Nat.le_refl _)).toBelow (Nat.le_refl _) (fun i hi => by omega)).alloc (by rw [put7_size]; omega) _
              have B7 : Below w.heap.size w w7 := B4.grown hg7 (by rw [size_alloc, put7_size]; omega) (fun k hk => by have := (HRl.out k hk).1; omega)
              clear B4 bG hg7
              have e7 : flat (cellsTo W (scrollG top bot n p G) m ++ [blk p]) = flat (cellsTo W (scrollG top bot n p G) (m + 1)) := by
                have := cellsTo_succ W (scrollG top bot n p G) x y hlx
                rw [← Nat.add_assoc, Hm.out] at this
                rw [this, HCC.out]
              rw [e7] at hr7
              clear ho7 e7
              go_wp2_with fail
              go_roundw
              case rel => exact ⟨x + 1, m + 1, by omega, by have := Hm.out; omega, by go_num, hr7, C7, P7, B7⟩
              case measure => simp [intOf]; omega
            · have HCC : Hid (scrollG top bot n p G x y = blk p) := by unfold scrollG; rw [if_pos ⟨a1, a2⟩]; exact if_neg (by omega)
              go_wp2_with ((at_builtin; refine list_append_cel _ (by rfl) (.tmp 70) (.tmp 72) (by rfl) (w.heap.size + 1) u10 (cellsTo W (scrollG top bot n p G) m) (blk p) m (cellsTo_length _ _ _) (by rfl) (row_same HR3.out (fun i hi => by have := HRl.out i hi; exact (Below.heap_alloc _ _ _ (by simp; omega)).trans (put7_other w3 Bk 0 i (blk p) (by omega)))) w3.heap.size (by rfl) (heap_new' _ _ _ (by simp)) (by omega) (by simp; omega) ?_; intro g7 cap7 w7 hr7 hg7 ho7 hl7))
              have bG : ∀ k, k < Bk → some k ≠ u10.ownBlock → w7.heap[k]? = w3.heap[k]? := fun k hk hne => (hg7.block k (by simp; omega) hne).trans ((Below.heap_alloc _ _ _ (by simp; omega)).trans (put7_other w3 Bk 0 k (blk p) (by omega)))
              have C7 : Cels w7 bc g cap W H N G := HC3.out.same (bG _ bcl (fun e => by have := HRl.out _ e.symm; omega)) (bG _ gll (fun e => by have := HRl.out _ e.symm; omega))
              have P7 : PenAt w7 w.heap.size 0 p := P3.same (bG _ s2 (fun e => by have := HRl.out _ e.symm; omega))
              have B4 : Below w.heap.size w ((put7 w3 Bk 0 (blk p)).alloc (.cells (celArr (blk p)) 56)) := (((Keep.below (fun i => Bk ≤ i) B3).put7 Bk 0 (blk p) (fun _ => Nat.le_refl _)).toBelow (Nat.le_refl _) (fun i hi => by omega)).alloc (by rw [put7_size]; omega) _
              have B7 : Below w.heap.size w w7 := B4.grown hg7 (by rw [size_alloc, put7_size]; omega) (fun k hk => by have := (HRl.out k hk).1; omega)
              clear B4 bG hg7
              have e7 : flat (cellsTo W (scrollG top bot n p G) m ++ [blk p]) = flat (cellsTo W (scrollG top bot n p G) (m + 1)) := by
                have := cellsTo_succ W (scrollG top bot n p G) x y hlx
                rw [← Nat.add_assoc, Hm.out] at this
                rw [this, HCC.out]
              rw [e7] at hr7
              clear ho7 e7
              go_wp2_with fail
              go_roundw
              case rel => exact ⟨x + 1, m + 1, by omega, by have := Hm.out; omega, by go_num, hr7, C7, P7, B7⟩
              case measure => simp [intOf]; omega
            · have HCC : Hid (scrollG top bot n p G x y = G x ((y : Int) + n).toNat) := by unfold scrollG; rw [if_pos ⟨a1, a2⟩]; exact if_pos ⟨b3, b4⟩
              have C4 : Cels (put7 w3 Bk 0 (blk p)) bc g cap W H N G := HC3.out.same (put7_other _ _ _ _ _ (by omega)) (put7_other _ _ _ _ _ (by omega))
              go_wp2_with fail
              go_at_call 40
              refine (refAt bc g cap W H N G x ((y : Int) + n) _ C4 (by omega) (by omega) (by omega) (by omega)).mono ?_
              rintro e w5 ⟨rfl, hb5⟩
              simp only [Int.toNat_natCast]
              have b5 : Below (put7 w3 Bk 0 (blk p)).heap.size (put7 w3 Bk 0 (blk p)) w5 := hb5
              rw [put7_size] at b5
              have C5 : Cels w5 bc g cap W H N G := C4.same (b5.block _ (by omega)) (b5.block _ (by omega))
              have P5 : PenAt w5 w.heap.size 0 p := (P3.same (put7_other w3 Bk 0 _ (blk p) (by omega))).same (b5.block _ (by omega))
              have HR5 : Hid (w5.ownsRow (w.heap.size + 1) 56 7 u10 m (flat (cellsTo W (scrollG top bot n p G) m))) := row_same HR3.out (fun i hi => by have := HRl.out i hi; exact (b5.block i (by omega)).trans (put7_other w3 Bk 0 i (blk p) (by omega)))
              have k5 : CelAt w5 Bk 0 (blk p) := (put7_at (c := blk p) ⟨d0, d1, d2, d3, d4, d5, d6⟩).same (b5.block _ s3)
              have f5 : ∀ o, w5.frozen? ⟨Bk, o, none⟩ = false := fun o => (b5.marks s3 o).trans (by unfold put7; simp only [set_frozen]; exact f3 o)
              have B4 : Below w.heap.size w (put7 w3 Bk 0 (blk p)) := ((Keep.below (fun i => Bk ≤ i) B3).put7 Bk 0 (blk p) (fun _ => Nat.le_refl _)).toBelow (Nat.le_refl _) (fun i hi => by omega)
              have B5 : Below w.heap.size w w5 := B4.trans (b5.mono (by omega))
              have s5 : Bk < w5.heap.size := k5.lt
              have HC5 : Hid (Cels w5 bc g cap W H N G) := C5
              obtain ⟨d0, d1, d2, d3, d4, d5, d6⟩ := k5
              clear hb5 b5 B4 C4 C5 HC3 HR3 P3 B3 f3
              generalize hcc : G x ((y : Int) + n).toNat = c5 at *
              have Hcc : Hid (G x ((y : Int) + n).toNat = c5) := hcc
              clear hcc
              go_wp2_with ((at_builtin; refine list_append_cel _ (by rfl) (.tmp 70) (.tmp 72) (by rfl) (w.heap.size + 1) u10 (cellsTo W (scrollG top bot n p G) m) c5 m (cellsTo_length _ _ _) (by rfl) (row_same HR5.out (fun i hi => by have := HRl.out i hi; exact (Below.heap_alloc _ _ _ (by simp; omega)).trans (put7_other w5 Bk 0 i c5 (by omega)))) w5.heap.size (by rfl) (heap_new' _ _ _ (by simp)) (by omega) (by simp; omega) ?_; intro g7 cap7 w7 hr7 hg7 ho7 hl7))
              have bG : ∀ k, k < Bk → some k ≠ u10.ownBlock → w7.heap[k]? = w5.heap[k]? := fun k hk hne => (hg7.block k (by simp; omega) hne).trans ((Below.heap_alloc _ _ _ (by simp; omega)).trans (put7_other w5 Bk 0 k c5 (by omega)))
              have C7 : Cels w7 bc g cap W H N G := HC5.out.same (bG _ bcl (fun e => by have := HRl.out _ e.symm; omega)) (bG _ gll (fun e => by have := HRl.out _ e.symm; omega))
              have P7 : PenAt w7 w.heap.size 0 p := P5.same (bG _ s2 (fun e => by have := HRl.out _ e.symm; omega))
              have B6 : Below w.heap.size w ((put7 w5 Bk 0 c5).alloc (.cells (celArr c5) 56)) := (((Keep.below (fun i => Bk ≤ i) B5).put7 Bk 0 c5 (fun _ => Nat.le_refl _)).toBelow (Nat.le_refl _) (fun i hi => by omega)).alloc (by rw [put7_size]; omega) _
              have B7 : Below w.heap.size w w7 := B6.grown hg7 (by rw [size_alloc, put7_size]; omega) (fun k hk => by have := (HRl.out k hk).1; omega)
              clear B6 bG hg7
              have e7 : flat (cellsTo W (scrollG top bot n p G) m ++ [c5]) = flat (cellsTo W (scrollG top bot n p G) (m + 1)) := by
                have := cellsTo_succ W (scrollG top bot n p G) x y hlx
                rw [← Nat.add_assoc, Hm.out] at this
                rw [this, HCC.out]
              rw [e7] at hr7
              clear ho7 e7
              go_wp2_with fail
              go_roundw
              case rel => exact ⟨x + 1, m + 1, by omega, by have := Hm.out; omega, by go_num, hr7, C7, P7, B7⟩
              case measure => simp [intOf]; omega
        · obtain rfl : x = W := by omega
          have c0 := hC.c0
          have HR : Hid (wr.ownsRow (w.heap.size + 1) 56 7 u10 m (flat (cellsTo x (scrollG top bot n p G) m))) := hr
          have HC : Hid (Cels wr bc g cap x H N G) := hC
          clear hr hC
          go_wp2_with fail
          go_roundw
          case rel => exact ⟨y + 1, m, by omega, by rw [Nat.succ_mul]; exact Hm.out, by go_num, HR.out, HC.out, hP, hB⟩
          case measure => simp [intOf]; omega
    · obtain rfl : y = H := by omega
      have hmN : m0 = N := by rw [← Hm0.out]; exact HN.out.symm
      subst hmN
      have wf1 := HC0.out.w1
      have hf1 := HC0.out.h1
      obtain ⟨g8, cap8, rfl⟩ := row_slice HR0.out (by rw [HN.out]; exact Nat.mul_pos hf1 wf1)
      have hg8 := row_ge HR0.out
      have hbb : wr.heap[bc]? = some (.cells #[.int .i64 W, .int .i64 y, .slice (some ⟨g, 0, none⟩) m0 cap] 87) := HC0.out.blk
      have c2 := HC0.out.c2
      have fb := frozen_of_block hbb
      have Hbb : Hid (wr.heap[bc]? = some (.cells #[.int .i64 W, .int .i64 y, .slice (some ⟨g, 0, none⟩) m0 cap] 87)) := hbb
      clear hbb
      go_wp2_with fail
      go_end0
      refine ⟨g8, cap8, rfl, ?_, (Keep.below (fun i => i = bc) hB).setCell _ _ (fun _ => rfl), by omega⟩
      have hb9 := heap_set_same Hbb.out 2 (.slice (some ⟨g8, 0, none⟩) m0 cap8)
      exact cels_of_row hb9 (row_same HR0.out (fun i hi => by cases hi; exact Below.heap_setCell _ _ _ _ (by show g8 ≠ bc; omega))) HN.out (by omega) wf1 hw2 hf1 hh2
end Go.Proofs.YtjlfibhbfdckpaaDoor
