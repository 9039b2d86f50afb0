/- Texts of the proof, one behind the other: RdJ, RdT. -/
import Derived.Test.YtjlfibhbfdckpaaGreatDoorK33
import Derived.Deep.DeepCutAuto
/- The document's desk: Raise. -/
namespace Go.Proofs.YtjlfibhbfdckpaaGreatDoor
open Go.RowKit
attribute [local go_sem ↓] Go.wp_at_zero Go.wp_at_succ
theorem heap_at (w : World) (q : Obj) (n : Nat) (h : n = w.heap.size) : (w.alloc q).heap[n]? = some q := by subst h; exact heap_new w q
/-- A window's copy in a block. -/
def VAt (w : World) (b : Nat) (v : Wn) (c : Nat) : Prop := w.heap[b]? = some (.cells (rArr v c) 107)
theorem VAt.lt {w : World} {b : Nat} {v : Wn} {c : Nat} (h : VAt w b v c) : b < w.heap.size := (Array.getElem?_eq_some_iff.1 h).1
theorem VAt.cells {w : World} {b : Nat} {v : Wn} {c : Nat} (h : VAt w b v c) : w.cell? ⟨b, 0, none⟩ = some (.int .i64 v.n) ∧ w.cell? ⟨b, 1, none⟩ = some (.int .i64 v.par) ∧ w.cell? ⟨b, 2, none⟩ = some (.int .i64 v.x) ∧ w.cell? ⟨b, 3, none⟩ = some (.int .i64 v.y) ∧ w.cell? ⟨b, 4, none⟩ = some (.bool v.sh) ∧ w.cell? ⟨b, 5, none⟩ = some (.pointer (some ⟨c, 0, none⟩)) :=
  ⟨cell_of_block h 0, cell_of_block h 1, cell_of_block h 2, cell_of_block h 3, cell_of_block h 4, cell_of_block h 5⟩
/-- A list that is made: it lies behind all else. -/
structure NwL (w : World) (c : Int → Nat) (u : Value) (M : List Wn) (v : Wn) (w' : World) : Prop where
  row : w'.ownsRow (w.heap.size + 1) 107 6 u M.length (rFlat c M)
  cp : VAt w' w.heap.size v (c v.n)
  bel : Below w.heap.size w w'
theorem NwL.more {w w1 w2 : World} {c : Int → Nat} {u : Value} {M : List Wn} {v a : Wn} {g cap : Nat} (h : NwL w c u M v w1) (q : Obj) (hr : w2.ownsRow (w.heap.size + 1) 107 6 (.slice (some ⟨g, 0, none⟩) (M.length + 1) cap) (M.length + 1) (rFlat c (M ++ [a]))) (hg : (w1.alloc q).grownBy w2 u.ownBlock) : NwL w c (.slice (some ⟨g, 0, none⟩) (M.length + 1) cap) (M ++ [a]) v w2 := by
  have hl := h.cp.lt
  refine ⟨by rw [List.length_append]; exact hr, ?_, ?_⟩
  · show _ = _
    rw [hg.block _ (by rw [size_alloc]; omega) (fun e => by have := (h.row.lt _ e.symm).1; omega), Below.heap_alloc _ _ _ hl]
    exact h.cp
  · exact (h.bel.alloc h.bel.size _).grown hg (by rw [size_alloc]; have := h.bel.size; omega) (fun i hi => by have := (h.row.lt i hi).1; omega)
section
variable {R : Rm} {L : List Wn} {last : Int}
set_option maxRecDepth 20000 in
set_option maxHeartbeats 4000000 in
theorem rdRaiseUpW (h1 : 1 ≤ L.length) (h16 : L.length ≤ 16) (w : World) (h : RkAt w R L last) (v : Wn) (j : Nat) (hj : L[j]? = some v) (hne2 : ∀ i u, i ≠ j → L[i]? = some u → u.n ≠ v.n) (hj0 : j ≠ 0) :
    Calls Tryz.prog 100 #[.pointer (some ⟨R.d, 0, none⟩), .int .i64 v.n, .bool true] w (RkPost R L (filtN L v.n ++ [v]) last w (.int .i64 0)) := by
  have HR : Hid (RkAt w R L last) := h
  have H : Hid (Calls Tryz.prog 143 #[.pointer (some ⟨R.d, 0, none⟩), .int .i64 v.n] w fun e w' => e = .returned (.tuple #[.int .i64 j, .int .i64 0]) ∧ w' = w) := rdChildW h1 h16 w h v j hj (fun i u hi => hne2 i u (by omega)) hj0
  have d0 := h.d0
  obtain ⟨g, cap, hl, hw, hfz, _⟩ := h.sl h1
  rw [hl] at d0
  have Hl : Hid (R.l = .slice (some ⟨g, 0, none⟩) L.length cap) := hl
  obtain ⟨c0, c1, c2, c3, c4, c5⟩ := hw j v hj
  obtain ⟨r, hr⟩ : ∃ r, L[0]? = some r := ⟨_, List.getElem?_eq_getElem (by omega)⟩
  obtain ⟨r0, r1, r2, r3, r4, r5⟩ := hw 0 r hr
  rw [Nat.zero_mul] at r0 r1 r2 r3 r4 r5
  have hjl : j < L.length := (List.getElem?_eq_some_iff.1 hj).1
  have hjl' : (j : Int) < (L.length : Int) := by omega
  have hjl0 : (0 : Int) < (L.length : Int) := by omega
  have hrn := hne2 0 r (fun e => hj0 e.symm) hr
  have h2B := h.two _ (rown_d R L)
  have hdl := h.lt (rown_d R L)
  have d0a := alloc_cell d0 (.cells (rArr v (R.c v.n)) 107)
  replace r0 := alloc_cell r0 (.cells (rArr v (R.c v.n)) 107)
  replace r1 := alloc_cell r1 (.cells (rArr v (R.c v.n)) 107)
  replace r2 := alloc_cell r2 (.cells (rArr v (R.c v.n)) 107)
  replace r3 := alloc_cell r3 (.cells (rArr v (R.c v.n)) 107)
  replace r4 := alloc_cell r4 (.cells (rArr v (R.c v.n)) 107)
  replace r5 := alloc_cell r5 (.cells (rArr v (R.c v.n)) 107)
  have HN0 : Hid (NwL w R.c (.slice none 0 0) [] v (w.alloc (.cells (rArr v (R.c v.n)) 107))) := ⟨World.ownsRow_nil _ _ _ _, heap_new w _, (Below.refl _ _).alloc (Nat.le_refl _) _⟩
  have Hne2 : Hid (∀ i u, i ≠ j → L[i]? = some u → u.n ≠ v.n) := hne2
  have Hj : Hid (L[j]? = some v) := hj
  have Hf1 : Hid (firstN L v.n 1 = [r]) := by
    show _ = _
    rw [firstN_more hr hrn]; rfl
  clear h hw hl hj hne2 hr hrn
  go_enter Tryz.func100, Tryz.ntmps100
  go_wp2_with (first | (go_at_call 143; refine (H.out).mono ?_; rintro e w' ⟨rfl, hw'⟩; replace hw' := hw'.symm; subst hw') | (at_builtin; go_must (refine list_append_win _ (by rfl) (.tmp 28) (.tmp 35) (by rfl) (w.heap.size + 1) (.slice none 0 0) R.c ([]) r 0 rfl (by rfl) (World.ownsRow_nil _ _ _ _) (w.heap.size + 1) (by rfl) (heap_at _ _ _ (by simp)) (by omega) (by simp only [size_alloc]; omega) ?_); intro g7 cap7 w7 hr7 hg7 ho7 hl7; have HN1 : Hid (NwL w R.c (.slice (some ⟨g7, 0, none⟩) 1 cap7) [r] v w7) := HN0.out.more _ hr7 hg7; obtain ⟨y0, y1, y2, y3, y4, y5⟩ := HN1.out.cp.cells; have z1 := HN1.out.bel.size; clear hr7 hg7 ho7 c0 c1 c2 c3 c4 c5 r0 r1 r2 r3 r4 r5 d0a d0))
  clear y0 y1 y2 y3 y4 y5 z1
  go_wp2_with fail
  go_loopw [10, 11] (fun u i w' => ∃ k : Nat, 1 ≤ k ∧ k ≤ L.length ∧ i = .int .i64 k ∧ NwL w R.c u (firstN L v.n k) v w') (fun _ i _ => 20 - (intOf i).toNat)
  case atStart => exact ⟨1, by omega, h1, rfl, by rw [Hf1.out]; exact HN1.out⟩
  case round =>
    obtain ⟨k, hk1, hkl, rfl, hN⟩ := hrel
    generalize u10 = u at *
    have HN : Hid (NwL w R.c u (firstN L v.n k) v wr) := hN
    have hRr : RkAt wr R L last := HR.out.below hN.bel
    obtain ⟨g', cap', hl', hw', _, _⟩ := hRr.sl h1
    obtain ⟨rfl, rfl⟩ : g = g' ∧ cap = cap' := by have := Hl.out.symm.trans hl'; simpa using this
    have d0 := hRr.d0
    rw [hl'] at d0
    have zr := hN.bel.size
    have zc := hN.cp.lt
    by_cases hlt : k < L.length
    · have hlt' : (k : Int) < (L.length : Int) := by omega
      obtain ⟨a, ha⟩ : ∃ a, L[k]? = some a := ⟨_, List.getElem?_eq_getElem hlt⟩
      by_cases hkj : k = j
      · subst hkj
        obtain rfl : a = v := by have := ha.symm.trans Hj.out; injection this
        have HN2 : Hid (NwL w R.c u (firstN L a.n (k + 1)) a wr) := by
          show NwL _ _ _ _ _ _
          rw [firstN_skip ha rfl]; exact hN
        clear hN hRr hw' hl' ha
        go_wp2_with fail
        go_roundw
        case rel => exact ⟨k + 1, by omega, by omega, by simp, HN2.out⟩
        case measure => simp [intOf]; omega
      · have hkj' : ((k : Int) == (j : Int)) = false := by simp; omega
        have hkj2 : ¬ (k : Int) = (j : Int) := by omega
        have Hfk : Hid (firstN L v.n (k + 1) = firstN L v.n k ++ [a]) := firstN_more ha (Hne2.out k a hkj ha)
        have hfl := firstN_len L v.n k
        obtain ⟨c0, c1, c2, c3, c4, c5⟩ := hw' k a ha
        have Hfn : Hid (1 ≤ (firstN L v.n k).length) := by
          show 1 ≤ _
          have e : (firstN L v.n 1).length ≤ (firstN L v.n k).length := by
            unfold firstN filtN
            exact ((List.take_sublist_take_left hk1).filter _).length_le
          rw [Hf1.out] at e
          exact e
        skip
        clear hN hRr hw' hl'
        go_wp2_with (first | (at_builtin; go_must (refine list_append_win _ (by rfl) (.tmp 55) (.tmp 63) (by rfl) (w.heap.size + 1) (u) R.c (firstN L v.n k) a _ rfl (by rfl) (ownsRow_same HN.out.row (fun i hi => Below.heap_alloc _ _ _ (ownsRow_lt HN.out.row hi).1)) wr.heap.size (by rfl) (heap_at _ _ _ (by simp)) (by omega) (by simp only [size_alloc]; omega) ?_); intro g7 cap7 w7 hr7 hg7 ho7 hl7))
        have HN2 : Hid (NwL w R.c (.slice (some ⟨g7, 0, none⟩) ((firstN L v.n k).length + 1) cap7) (firstN L v.n (k + 1)) v w7) := by
          show NwL _ _ _ _ _ _
          rw [Hfk.out]
          exact HN.out.more _ hr7 hg7
        clear hr7 hg7 ho7
        go_wp2_with fail
        go_roundw
        case rel => exact ⟨k + 1, by omega, by omega, by simp, HN2.out⟩
        case measure => simp [intOf]; omega
    · have hlt' : ¬ (k : Int) < (L.length : Int) := by omega
      obtain rfl : k = L.length := by omega
      have Hall : Hid (firstN L v.n L.length = filtN L v.n) := firstN_all L v.n
      have hfl := firstN_len L v.n L.length
      clear hRr hw' hl'
      obtain ⟨y0, y1, y2, y3, y4, y5⟩ := hN.cp.cells
      clear hN
      go_wp2_with (first | (at_builtin; go_must (refine list_append_win _ (by rfl) (.tmp 66) (.tmp 68) (by rfl) (w.heap.size + 1) (u) R.c (firstN L v.n L.length) v _ rfl (by rfl) (ownsRow_same HN.out.row (fun i hi => Below.heap_alloc _ _ _ (ownsRow_lt HN.out.row hi).1)) wr.heap.size (by rfl) (heap_at _ _ _ (by simp)) (by omega) (by simp only [size_alloc]; omega) ?_); intro g7 cap7 w7 hr7 hg7 ho7 hl7; have HN2 : Hid (NwL w R.c (.slice (some ⟨g7, 0, none⟩) ((firstN L v.n L.length).length + 1) cap7) (firstN L v.n L.length ++ [v]) v w7) := HN.out.more _ hr7 hg7; have d0w : w7.cell? ⟨R.d, 0, none⟩ = some R.l := (cell_same (HN2.out.bel.block _ hdl) 0).trans HR.out.d0; have fzw : ∀ o, w7.frozen? ⟨R.d, o, none⟩ = false := frozen_of_block ((HN2.out.bel.block _ hdl).trans HR.out.blk); clear hr7 hg7 ho7 y0 y1 y2 y3 y4 y5 d0))
      replace HN2 : Hid (NwL w R.c (.slice (some ⟨g7, 0, none⟩) ((firstN L v.n L.length).length + 1) cap7) (filtN L v.n ++ [v]) v w7) := by
        show NwL _ _ _ _ _ _
        have := HN2.out
        rw [Hall.out] at this ⊢
        exact this
      have HP : Hid (RkPost R L (filtN L v.n ++ [v]) last w (.int .i64 0) (.returned (.int .i64 0)) (w7.setCell ⟨R.d, 0, none⟩ (.slice (some ⟨g7, 0, none⟩) ((firstN L v.n L.length).length + 1) cap7))) := by
        have hkk : Keep (fun i => i = R.d) w (w7.setCell ⟨R.d, 0, none⟩ (.slice (some ⟨g7, 0, none⟩) ((firstN L v.n L.length).length + 1) cap7)) := (Keep.below (fun i => i = R.d) HN2.out.bel).setCell ⟨R.d, 0, none⟩ _ (fun _ => rfl)
        have hbd : w7.heap[R.d]? = some (.cells #[R.l, .int .i64 last] 110) := (HN2.out.bel.block _ hdl).trans HR.out.blk
        refine HR.out.relist (filtN L v.n ++ [v]) (.slice (some ⟨g7, 0, none⟩) ((firstN L v.n L.length).length + 1) cap7) (fun i hi => by have := (HN2.out.row.lt i hi).1; omega) (fun u hu => ?_) (heap_set_same hbd 0 _) (ownsRow_mono (ownsRow_same HN2.out.row (fun i hi => Below.heap_setCell _ _ _ _ (by have := (HN2.out.row.lt i hi).1; show i ≠ R.d; omega))) (by omega)) hkk _
        rcases List.mem_append.1 hu with hu | hu
        · exact ⟨u, (mem_filtN.1 hu).1, rfl, rfl, rfl, rfl⟩
        · obtain rfl : u = v := by simpa using hu
          exact ⟨u, List.mem_of_getElem? Hj.out, rfl, rfl, rfl, rfl⟩
      go_ret
      exact HP.out
set_option maxRecDepth 20000 in
set_option maxHeartbeats 4000000 in
theorem rdRaiseLowW (h1 : 1 ≤ L.length) (h16 : L.length ≤ 16) (w : World) (h : RkAt w R L last) (v : Wn) (j : Nat) (hj : L[j]? = some v) (hne2 : ∀ i u, i ≠ j → L[i]? = some u → u.n ≠ v.n) (hj0 : j ≠ 0) :
    Calls Tryz.prog 100 #[.pointer (some ⟨R.d, 0, none⟩), .int .i64 v.n, .bool false] w (RkPost R L (botM v (filtN L v.n)) last w (.int .i64 0)) := by
  have HR : Hid (RkAt w R L last) := h
  have H : Hid (Calls Tryz.prog 143 #[.pointer (some ⟨R.d, 0, none⟩), .int .i64 v.n] w fun e w' => e = .returned (.tuple #[.int .i64 j, .int .i64 0]) ∧ w' = w) := rdChildW h1 h16 w h v j hj (fun i u hi => hne2 i u (by omega)) hj0
  have d0 := h.d0
  obtain ⟨g, cap, hl, hw, hfz, _⟩ := h.sl h1
  rw [hl] at d0
  have Hl : Hid (R.l = .slice (some ⟨g, 0, none⟩) L.length cap) := hl
  obtain ⟨c0, c1, c2, c3, c4, c5⟩ := hw j v hj
  obtain ⟨r, hr⟩ : ∃ r, L[0]? = some r := ⟨_, List.getElem?_eq_getElem (by omega)⟩
  obtain ⟨r0, r1, r2, r3, r4, r5⟩ := hw 0 r hr
  rw [Nat.zero_mul] at r0 r1 r2 r3 r4 r5
  have hjl : j < L.length := (List.getElem?_eq_some_iff.1 hj).1
  have hjl' : (j : Int) < (L.length : Int) := by omega
  have hjl0 : (0 : Int) < (L.length : Int) := by omega
  have hrn := hne2 0 r (fun e => hj0 e.symm) hr
  have h2B := h.two _ (rown_d R L)
  have hdl := h.lt (rown_d R L)
  have d0a := alloc_cell d0 (.cells (rArr v (R.c v.n)) 107)
  replace r0 := alloc_cell r0 (.cells (rArr v (R.c v.n)) 107)
  replace r1 := alloc_cell r1 (.cells (rArr v (R.c v.n)) 107)
  replace r2 := alloc_cell r2 (.cells (rArr v (R.c v.n)) 107)
  replace r3 := alloc_cell r3 (.cells (rArr v (R.c v.n)) 107)
  replace r4 := alloc_cell r4 (.cells (rArr v (R.c v.n)) 107)
  replace r5 := alloc_cell r5 (.cells (rArr v (R.c v.n)) 107)
  have HN0 : Hid (NwL w R.c (.slice none 0 0) [] v (w.alloc (.cells (rArr v (R.c v.n)) 107))) := ⟨World.ownsRow_nil _ _ _ _, heap_new w _, (Below.refl _ _).alloc (Nat.le_refl _) _⟩
  have Hne2 : Hid (∀ i u, i ≠ j → L[i]? = some u → u.n ≠ v.n) := hne2
  have Hj : Hid (L[j]? = some v) := hj
  have Hf1 : Hid (firstN L v.n 1 = [r]) := by
    show _ = _
    rw [firstN_more hr hrn]; rfl
  clear h hw hl hj hne2 hr hrn
  go_enter Tryz.func100, Tryz.ntmps100
  go_wp2_with (first | (go_at_call 143; refine (H.out).mono ?_; rintro e w' ⟨rfl, hw'⟩; replace hw' := hw'.symm; subst hw') | (at_builtin; (refine list_append_win _ (by rfl) (.tmp 39) (.tmp 41) (by rfl) (w.heap.size + 1) (.slice (some ⟨g7, 0, none⟩) 1 cap7) R.c ([r]) v 1 rfl (by rfl) (ownsRow_same HN1.out.row (fun i hi => Below.heap_alloc _ _ _ (ownsRow_lt HN1.out.row hi).1)) w7.heap.size (by rfl) (heap_at _ _ _ (by simp)) (by omega) (by simp only [size_alloc]; omega) ?_); intro g8 cap8 w8 hr8 hg8 ho8 hl8) | (at_builtin; go_must (refine list_append_win _ (by rfl) (.tmp 28) (.tmp 35) (by rfl) (w.heap.size + 1) (.slice none 0 0) R.c ([]) r 0 rfl (by rfl) (World.ownsRow_nil _ _ _ _) (w.heap.size + 1) (by rfl) (heap_at _ _ _ (by simp)) (by omega) (by simp only [size_alloc]; omega) ?_); intro g7 cap7 w7 hr7 hg7 ho7 hl7; have HN1 : Hid (NwL w R.c (.slice (some ⟨g7, 0, none⟩) 1 cap7) [r] v w7) := HN0.out.more _ hr7 hg7; obtain ⟨y0, y1, y2, y3, y4, y5⟩ := HN1.out.cp.cells; have z1 := HN1.out.bel.size; clear hr7 hg7 ho7 c0 c1 c2 c3 c4 c5 r0 r1 r2 r3 r4 r5 d0a d0))
  have HN2 : Hid (NwL w R.c (.slice (some ⟨g8, 0, none⟩) 2 cap8) [r, v] v w8) := HN1.out.more _ hr8 hg8
  clear HN1 hr8 hg8 ho8 y0 y1 y2 y3 y4 y5 z1
  go_wp2_with fail
  go_loopw [10, 11] (fun u i w' => ∃ k : Nat, 1 ≤ k ∧ k ≤ L.length ∧ i = .int .i64 k ∧ NwL w R.c u (botM v (firstN L v.n k)) v w') (fun _ i _ => 20 - (intOf i).toNat)
  case atStart => exact ⟨1, by omega, h1, rfl, by rw [Hf1.out]; exact HN2.out⟩
  case round =>
    obtain ⟨k, hk1, hkl, rfl, hN⟩ := hrel
    generalize u10 = u at *
    have HN : Hid (NwL w R.c u (botM v (firstN L v.n k)) v wr) := hN
    have hRr : RkAt wr R L last := HR.out.below hN.bel
    obtain ⟨g', cap', hl', hw', _, _⟩ := hRr.sl h1
    obtain ⟨rfl, rfl⟩ : g = g' ∧ cap = cap' := by have := Hl.out.symm.trans hl'; simpa using this
    have d0 := hRr.d0
    rw [hl'] at d0
    have zr := hN.bel.size
    have zc := hN.cp.lt
    by_cases hlt : k < L.length
    · have hlt' : (k : Int) < (L.length : Int) := by omega
      obtain ⟨a, ha⟩ : ∃ a, L[k]? = some a := ⟨_, List.getElem?_eq_getElem hlt⟩
      by_cases hkj : k = j
      · subst hkj
        obtain rfl : a = v := by have := ha.symm.trans Hj.out; injection this
        have HN2 : Hid (NwL w R.c u (botM a (firstN L a.n (k + 1))) a wr) := by
          show NwL _ _ _ _ _ _
          rw [firstN_skip ha rfl]; exact hN
        clear hN hRr hw' hl' ha
        go_wp2_with fail
        go_roundw
        case rel => exact ⟨k + 1, by omega, by omega, by simp, HN2.out⟩
        case measure => simp [intOf]; omega
      · have hkj' : ((k : Int) == (j : Int)) = false := by simp; omega
        have hkj2 : ¬ (k : Int) = (j : Int) := by omega
        have Hfk : Hid (firstN L v.n (k + 1) = firstN L v.n k ++ [a]) := firstN_more ha (Hne2.out k a hkj ha)
        have hfl := firstN_len L v.n k
        obtain ⟨c0, c1, c2, c3, c4, c5⟩ := hw' k a ha
        have Hfn : Hid (1 ≤ (firstN L v.n k).length) := by
          show 1 ≤ _
          have e : (firstN L v.n 1).length ≤ (firstN L v.n k).length := by
            unfold firstN filtN
            exact ((List.take_sublist_take_left hk1).filter _).length_le
          rw [Hf1.out] at e
          exact e
        have hfl2 : (botM v (firstN L v.n k)).length ≤ 17 := by rw [botM_len]; omega
        clear hN hRr hw' hl'
        go_wp2_with (first | (at_builtin; go_must (refine list_append_win _ (by rfl) (.tmp 55) (.tmp 63) (by rfl) (w.heap.size + 1) (u) R.c (botM v (firstN L v.n k)) a _ rfl (by rfl) (ownsRow_same HN.out.row (fun i hi => Below.heap_alloc _ _ _ (ownsRow_lt HN.out.row hi).1)) wr.heap.size (by rfl) (heap_at _ _ _ (by simp)) (by omega) (by simp only [size_alloc]; omega) ?_); intro g7 cap7 w7 hr7 hg7 ho7 hl7))
        have HN2 : Hid (NwL w R.c (.slice (some ⟨g7, 0, none⟩) ((botM v (firstN L v.n k)).length + 1) cap7) (botM v (firstN L v.n (k + 1))) v w7) := by
          show NwL _ _ _ _ _ _
          rw [Hfk.out, botM_snoc v a (fun e => by have := Hfn.out; rw [e] at this; simp at this)]
          exact HN.out.more _ hr7 hg7
        clear hr7 hg7 ho7
        go_wp2_with fail
        go_roundw
        case rel => exact ⟨k + 1, by omega, by omega, by simp, HN2.out⟩
        case measure => simp [intOf]; omega
    · have hlt' : ¬ (k : Int) < (L.length : Int) := by omega
      obtain rfl : k = L.length := by omega
      have Hall : Hid (firstN L v.n L.length = filtN L v.n) := firstN_all L v.n
      have hfl := firstN_len L v.n L.length
      clear hRr hw' hl'
      have HN2 : Hid (NwL w R.c u (botM v (filtN L v.n)) v wr) := by
        show NwL _ _ _ _ _ _
        rw [← Hall.out]; exact hN
      have fzw := frozen_of_block ((hN.bel.block _ hdl).trans HR.out.blk)
      clear hN HN
      obtain ⟨gu, cu, rfl⟩ := row_slice HN2.out.row (by rw [botM_len]; omega)
      have HP : Hid (RkPost R L (botM v (filtN L v.n)) last w (.int .i64 0) (.returned (.int .i64 0)) (wr.setCell ⟨R.d, 0, none⟩ (.slice (some ⟨gu, 0, none⟩) (botM v (filtN L v.n)).length cu))) := by
        have hkk : Keep (fun i => i = R.d) w (wr.setCell ⟨R.d, 0, none⟩ (.slice (some ⟨gu, 0, none⟩) (botM v (filtN L v.n)).length cu)) := (Keep.below (fun i => i = R.d) HN2.out.bel).setCell ⟨R.d, 0, none⟩ _ (fun _ => rfl)
        have hbd : wr.heap[R.d]? = some (.cells #[R.l, .int .i64 last] 110) := (HN2.out.bel.block _ hdl).trans HR.out.blk
        refine HR.out.relist (botM v (filtN L v.n)) (.slice (some ⟨gu, 0, none⟩) (botM v (filtN L v.n)).length cu) (fun i hi => by have := (HN2.out.row.lt i hi).1; omega) (fun u hu => ?_) (heap_set_same hbd 0 _) (ownsRow_mono (ownsRow_same HN2.out.row (fun i hi => Below.heap_setCell _ _ _ _ (by have := (HN2.out.row.lt i hi).1; show i ≠ R.d; omega))) (by omega)) hkk _
        rcases mem_botM.1 hu with hu | hu
        · exact ⟨v, List.mem_of_getElem? Hj.out, by rw [hu], by rw [hu], by rw [hu], by rw [hu]⟩
        · exact ⟨u, (mem_filtN.1 hu).1, rfl, rfl, rfl, rfl⟩
      go_wp2_with fail
      go_ret
      exact HP.out
end
end Go.Proofs.YtjlfibhbfdckpaaGreatDoor

/- The document's desk: Delete. -/
namespace Go.Proofs.YtjlfibhbfdckpaaGreatDoor
open Go.RowKit
attribute [local go_sem ↓] Go.wp_at_zero Go.wp_at_succ
/-- A list that is made, behind all else. -/
structure NwD (w : World) (c : Int → Nat) (u : Value) (M : List Wn) (w' : World) : Prop where
  row : w'.ownsRow w.heap.size 107 6 u M.length (rFlat c M)
  bel : Below w.heap.size w w'
theorem NwD.more {w w1 w2 : World} {c : Int → Nat} {u : Value} {M : List Wn} {a : Wn} {g cap : Nat} (h : NwD w c u M w1) (q : Obj) (hr : w2.ownsRow w.heap.size 107 6 (.slice (some ⟨g, 0, none⟩) (M.length + 1) cap) (M.length + 1) (rFlat c (M ++ [a]))) (hg : (w1.alloc q).grownBy w2 u.ownBlock) : NwD w c (.slice (some ⟨g, 0, none⟩) (M.length + 1) cap) (M ++ [a]) w2 :=
  ⟨by rw [List.length_append]; exact hr, (h.bel.alloc h.bel.size _).grown hg (by rw [size_alloc]; have := h.bel.size; omega) (fun i hi => (h.row.lt i hi).1)⟩
theorem NwD.below {w w1 w2 : World} {c : Int → Nat} {u : Value} {M : List Wn} (h : NwD w c u M w1) (b : Below w1.heap.size w1 w2) : NwD w c u M w2 :=
  ⟨ownsRow_same h.row (fun i hi => b.block _ (h.row.lt i hi).2), h.bel.trans (b.mono h.bel.size)⟩
theorem root_ns' {L : List Wn} {rk : Int → Nat} {K : Nat} (T : Tree L rk K) {v : Wn} (hv : v ∈ L) (hv0 : v.n ≠ 0) : ¬ Sub L v.n 0 := by
  intro hs
  obtain ⟨r, hr, h0, hp⟩ := T.rootIn
  rw [← h0] at hs
  have := (sub_up T.nd hr (by rw [h0]; exact fun e => hv0 e.symm)).1 hs
  rw [hp] at this
  have := (Sub.rank T (T.pos hv) this).2
  omega
section
variable {R : Rm} {L : List Wn} {last : Int}
set_option maxRecDepth 20000 in
set_option maxHeartbeats 4000000 in
theorem rdDelete (ok : DOk L last) (w : World) (h : RkAt w R L last) (v : Wn) (j : Nat) (hj : L[j]? = some v) (hne : ∀ i u, i < j → L[i]? = some u → u.n ≠ v.n) (hj0 : j ≠ 0) :
    Calls Tryz.prog 97 #[.pointer (some ⟨R.d, 0, none⟩), .int .i64 v.n] w (RkPost R L (delL L v.n) last w (.int .i64 0)) := by
  have HR : Hid (RkAt w R L last) := h
  have H : Hid (Calls Tryz.prog 143 #[.pointer (some ⟨R.d, 0, none⟩), .int .i64 v.n] w fun e w' => e = .returned (.tuple #[.int .i64 j, .int .i64 0]) ∧ w' = w) := rdChild ok w h v j hj hne hj0
  obtain ⟨g, cap, hl, _, _, _⟩ := h.sl ok.one
  have Hl : Hid (R.l = .slice (some ⟨g, 0, none⟩) L.length cap) := hl
  have h1 := ok.one
  have h16 := ok.len
  have h2B := h.two _ (rown_d R L)
  have hdl := h.lt (rown_d R L)
  obtain ⟨rk, K, T⟩ := ok.tree
  have hv : v ∈ L := List.mem_of_getElem? hj
  have hv0 := T.pos hv
  have hvn0 : v.n ≠ 0 := fun e0 => by
    obtain ⟨r, t, e, e1, _⟩ := T.head
    exact hne 0 r (by omega) (by rw [e]; rfl) (by omega)
  have Hd1 : Hid (1 ≤ (delL L v.n).length) := by
    show 1 ≤ _
    obtain ⟨r, hr, hr0, _⟩ := T.rootIn
    exact List.length_pos_of_mem (mem_delL.2 ⟨hr, by rw [hr0]; exact root_ns' T hv hvn0⟩)
  clear h hl hj hne T
  go_enter Tryz.func97, Tryz.ntmps97
  go_wp2_with (first | (go_at_call 143; refine (H.out).mono ?_; rintro e w' ⟨rfl, hw'⟩; replace hw' := hw'.symm; subst hw'))
  go_loopw [7, 8] (fun u i w' => ∃ k : Nat, k ≤ L.length ∧ i = .int .i64 k ∧ NwD w R.c u (firstD L v.n k) w') (fun _ i _ => 20 - (intOf i).toNat)
  case atStart => exact ⟨0, by omega, rfl, ⟨World.ownsRow_nil _ _ _ _, Below.refl _ _⟩⟩
  case round =>
    obtain ⟨k, hkl, rfl, hN⟩ := hrel
    generalize u7 = u at *
    have HN : Hid (NwD w R.c u (firstD L v.n k) wr) := hN
    have hRr : RkAt wr R L last := HR.out.below hN.bel
    have HRr : Hid (RkAt wr R L last) := hRr
    obtain ⟨g', cap', hl', hw', _, _⟩ := hRr.sl h1
    obtain ⟨rfl, rfl⟩ : g = g' ∧ cap = cap' := by have := Hl.out.symm.trans hl'; simpa using this
    have d0 := hRr.d0
    rw [hl'] at d0
    by_cases hlt : k < L.length
    · have hlt' : (k : Int) < (L.length : Int) := by omega
      obtain ⟨a, ha⟩ : ∃ a, L[k]? = some a := ⟨_, List.getElem?_eq_getElem hlt⟩
      have haL : a ∈ L := List.mem_of_getElem? ha
      have Ha : Hid (L[k]? = some a) := ha
      obtain ⟨c0, c1, c2, c3, c4, c5⟩ := hw' k a ha
      have hfl := firstD_len L v.n k
      clear hN hRr hw' hl' ha
      go_wp2_with fail
      go_at_call 144
      refine (rdWithin ok _ HRr.out a haL v.n hv0).mono ?_
      rintro e w2 ⟨b, rfl, hb, b2⟩
      have Hb : Hid (b = true ↔ Sub L v.n a.n) := hb
      have hN2 : NwD w R.c u (firstD L v.n k) w2 := HN.out.below b2
      have HN2 : Hid (NwD w R.c u (firstD L v.n k) w2) := hN2
      have hR2 : RkAt w2 R L last := HR.out.below hN2.bel
      have z2 := hN2.bel.size
      clear HN HRr b2 hb d0 c0 c1 c2 c3 c4 c5
      obtain ⟨g', cap', hl', hw', _, _⟩ := hR2.sl h1
      obtain ⟨rfl, rfl⟩ : g = g' ∧ cap = cap' := by have := Hl.out.symm.trans hl'; simpa using this
      have d0 := hR2.d0
      rw [hl'] at d0
      obtain ⟨c0, c1, c2, c3, c4, c5⟩ := hw' k a Ha.out
      clear hN2 hR2 hw' hl'
      cases b with
      | true =>
        have HN3 : Hid (NwD w R.c u (firstD L v.n (k + 1)) w2) := by
          show NwD _ _ _ _ _
          rw [firstD_skip Ha.out (Hb.out.1 rfl)]; exact HN2.out
        go_wp2_with fail
        go_roundw
        case rel => exact ⟨k + 1, by omega, by simp, HN3.out⟩
        case measure => simp [intOf]; omega
      | false =>
        have Hfk : Hid (firstD L v.n (k + 1) = firstD L v.n k ++ [a]) := firstD_more Ha.out (fun q => by have := Hb.out.2 q; simp at this)
        go_wp2_with (first | (at_builtin; go_must (refine list_append_win _ (by rfl) (.tmp 41) (.tmp 49) (by rfl) w.heap.size u R.c (firstD L v.n k) a _ rfl (by rfl) (ownsRow_same HN2.out.row (fun i hi => Below.heap_alloc _ _ _ (ownsRow_lt HN2.out.row hi).1)) w2.heap.size (by rfl) (heap_at _ _ _ (by simp)) (by omega) (by simp only [size_alloc]; omega) ?_); intro g7 cap7 w7 hr7 hg7 ho7 hl7))
        have HN3 : Hid (NwD w R.c (.slice (some ⟨g7, 0, none⟩) ((firstD L v.n k).length + 1) cap7) (firstD L v.n (k + 1)) w7) := by
          show NwD _ _ _ _ _
          rw [Hfk.out]
          exact HN2.out.more _ hr7 hg7
        clear hr7 hg7 ho7
        go_wp2_with fail
        go_roundw
        case rel => exact ⟨k + 1, by omega, by simp, HN3.out⟩
        case measure => simp [intOf]; omega
    · have hlt' : ¬ (k : Int) < (L.length : Int) := by omega
      obtain rfl : k = L.length := by omega
      have HN2 : Hid (NwD w R.c u (delL L v.n) wr) := by
        show NwD _ _ _ _ _
        rw [← firstD_all]; exact hN
      have fzw := frozen_of_block ((hN.bel.block _ hdl).trans HR.out.blk)
      clear hN HN hRr HRr hw' hl'
      obtain ⟨gu, cu, rfl⟩ := row_slice HN2.out.row Hd1.out
      have HP : Hid (RkPost R L (delL L v.n) last w (.int .i64 0) (.returned (.int .i64 0)) (wr.setCell ⟨R.d, 0, none⟩ (.slice (some ⟨gu, 0, none⟩) (delL L v.n).length cu))) := by
        have hkk : Keep (fun i => i = R.d) w (wr.setCell ⟨R.d, 0, none⟩ (.slice (some ⟨gu, 0, none⟩) (delL L v.n).length cu)) := (Keep.below (fun i => i = R.d) HN2.out.bel).setCell ⟨R.d, 0, none⟩ _ (fun _ => rfl)
        have hbd : wr.heap[R.d]? = some (.cells #[R.l, .int .i64 last] 110) := (HN2.out.bel.block _ hdl).trans HR.out.blk
        exact HR.out.relist (delL L v.n) (.slice (some ⟨gu, 0, none⟩) (delL L v.n).length cu) (fun i hi => (HN2.out.row.lt i hi).1) (fun u hu => ⟨u, (mem_delL.1 hu).1, rfl, rfl, rfl, rfl⟩) (heap_set_same hbd 0 _) (ownsRow_mono (ownsRow_same HN2.out.row (fun i hi => Below.heap_setCell _ _ _ _ (by have := (HN2.out.row.lt i hi).1; show i ≠ R.d; omega))) (by omega)) hkk _
      go_wp2_with fail
      go_ret
      exact HP.out
end
end Go.Proofs.YtjlfibhbfdckpaaGreatDoor
