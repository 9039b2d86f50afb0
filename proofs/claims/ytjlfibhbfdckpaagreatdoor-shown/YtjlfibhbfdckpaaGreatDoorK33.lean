/- Texts of the proof, one behind the other: FwW, FwX, FxC, FwY. -/
import Derived.Test.YtjlfibhbfdckpaaGreatDoorK05
import Derived.Test.YtjlfibhbfdckpaaGreatDoorK32
/- Flush: isAll: have lines no other cell than this one. -/
namespace Go.Proofs.YtjlfibhbfdckpaaGreatDoor
open Go.RowKit
attribute [local go_sem ↓] Go.wp_at_zero Go.wp_at_succ
/-- Is a line all of one cell? -/
def oneB (P : Nat → Nat → Cel) (W : Nat) (c : Cel) (y : Nat) : Bool := (P 0 y).eqB c && decide (W ≤ alikeN P W 0 y)
theorem all_upto {f : Nat → Bool} {n k : Nat} (hk : k < n) (hf : f k = false) : (List.range n).all f = false := by
  cases h : (List.range n).all f with
  | false => rfl
  | true =>
    have := List.all_eq_true.1 h k (List.mem_range.2 hk)
    rw [hf] at this; cases this
theorem all_true {f : Nat → Bool} {n : Nat} (h : ∀ i, i < n → f i = true) : (List.range n).all f = true := List.all_eq_true.2 (fun i hi => h i (List.mem_range.1 hi))
theorem CelAt.drewN {w : World} {g o : Nat} {c : Cel} (h : CelAt w g o c) (n : Nat) : CelAt (w.drewN n) g o c := h.same rfl
set_option maxHeartbeats 4000000 in
theorem qIsAll (po off y0 n pc : Nat) (lb lc : Nat → Nat) (W H : Nat) (P : Nat → Nat → Cel) (c : Cel) (w : World) (h : PcM w po lb lc W H P) (hn : y0 + n = H) (hW : 1 ≤ W) (hW2 : W ≤ 1000) (hH : H ≤ 1000) (hoff : n = 0 ∨ off = y0) :
    Calls Tryz.prog 220 #[.slice (some ⟨po, off, none⟩) n pc, c.agg] w fun e w' => e = .returned (.bool (isAllB P W H y0 c)) ∧ Below w.heap.size w w' := by
  have HH : Hid (PcM w po lb lc W H P) := h
  have Hall : Hid (isAllB P W H y0 c = (List.range n).all (fun i => oneB P W c (y0 + i))) := by
    show isAllB P W H y0 c = _
    unfold isAllB
    rw [show H - y0 = n by omega]
    rfl
  clear h
  have Hoff : Hid (n = 0 ∨ off = y0) := hoff
  clear hoff
  obtain ⟨M, hM⟩ : ∃ M, w.heap.size = M := ⟨_, rfl⟩
  have HM : Hid (w.heap.size = M) := hM
  go_enter Tryz.func220, Tryz.ntmps220
  go_wp2_with fail
  have hA : ∃ wA, w.alloc (.cells #[.int .i32 c.r, .int .i64 c.p, .int .i64 c.n.f, .int .i64 c.n.b, .bool c.n.bo, .bool c.n.un, .bool c.n.re] 38) = wA ∧ Below w.heap.size w wA ∧ CelAt wA M 0 c ∧ wA.heap.size = M + 1 := by
    subst hM
    exact ⟨_, rfl, (Below.refl _ _).alloc (Nat.le_refl _) _, cel_new' w c c.p rfl _, by simp⟩
  obtain ⟨wA, hwA, belA, cA, zA⟩ := hA
  rw [hwA]
  have HA : Hid (Below w.heap.size w wA ∧ PcM wA po lb lc W H P) := ⟨belA, HH.out.below belA⟩
  have HcA : Hid (CelAt wA M 0 c) := cA
  clear hwA belA cA HH
  go_loopw [9] (fun vi wr => ∃ k : Nat, vi = .int .i64 k ∧ k ≤ n ∧ (∀ i, i < k → oneB P W c (y0 + i) = true) ∧ Below wA.heap.size wA wr) (fun vi _ => n - (intOf vi).toNat)
  case atStart => exact ⟨0, rfl, Nat.zero_le _, fun i hi => absurd hi (Nat.not_lt_zero _), Below.refl _ _⟩
  case round =>
    obtain ⟨k, rfl, hk, hr, hbw⟩ := hrel
    have HB : Hid (Below wA.heap.size wA wr) := hbw
    have HW : Hid (Below w.heap.size w wr ∧ PcM wr po lb lc W H P) := ⟨HA.out.1.trans (hbw.mono HA.out.1.size), HA.out.2.below hbw⟩
    have HcW : Hid (CelAt wr M 0 c) := HcA.out.below hbw (by omega)
    clear hbw HA HcA
    have Hr : Hid (∀ i, i < k → oneB P W c (y0 + i) = true) := hr
    clear hr
    by_cases hc : k < n
    · have hoff2 : y0 = off := by have := Hoff.out; omega
      subst hoff2
      have hc' : (k : Int) < (n : Int) := by omega
      have hW0 : (0 : Int) < (W : Int) := by omega
      have r0 := HW.out.2.row (y0 + k) (by omega)
      obtain ⟨a0, a1, a2, a3, a4, a5, a6⟩ := HW.out.2.cel (y0 + k) 0 (by omega) hW
      obtain ⟨b0, b1, b2, b3, b4, b5, b6⟩ := HcW.out
      have hne := fun w => cel_neq (P 0 (y0 + k)) c w
      simp only [Nat.zero_mul, Nat.zero_add] at a0 a1 a2 a3 a4 a5 a6 b0 b1 b2 b3 b4 b5 b6
      have HL : Hid (∀ q, Calls Tryz.prog 219 #[.slice (some ⟨lb (y0 + k), 0, none⟩) W (lc (y0 + k))] (wr.drewN q) fun e w' => e = .returned (.int .i64 (alikeN P W 0 (y0 + k) : Nat)) ∧ ∃ m, w' = (wr.drewN q).drewN m) := fun q => qAlike (lb (y0 + k)) 0 W (lc (y0 + k)) (fun i => P i (y0 + k)) (wr.drewN q) (fun i hi => by rw [Nat.zero_add]; exact (HW.out.2.cel (y0 + k) i (by omega) hi).drewN q) (by omega)
      have hal : alikeN P W 0 (y0 + k) ≤ W := by have := run_le (fun i => (P i (y0 + k)).eqB (P 0 (y0 + k))) (W - 0) 0; exact this
      obtain ⟨al, hal2⟩ : ∃ al, alikeN P W 0 (y0 + k) = al := ⟨_, rfl⟩
      have Hone : Hid (oneB P W c (y0 + k) = ((P 0 (y0 + k)).eqB c && decide (W ≤ al))) := by rw [← hal2]; rfl
      rw [hal2] at hal HL
      clear hal2
      cases he : (P 0 (y0 + k)).eqB c with
      | false =>
        have He : Hid (oneB P W c (y0 + k) = false) := by
          show _ = _
          rw [Hone.out, he]; rfl
        simp only [he, Bool.not_false] at hne
        clear he
        go_wp2_with fail
        go_quiet ((go_at_call 219; exact Calls.quiet_of (HL.out _)))
        go_wp2_with fail
        go_ret
        exact ⟨by rw [Hall.out, all_upto hc He.out]; rfl, by first | exact below_n HW.out.1 _ | (rw [← HM.out]; exact below_n HW.out.1 _)⟩
      | true =>
        simp only [he, Bool.not_true] at hne
        by_cases hl : al < W
        · have hl' : (al : Int) < (W : Int) := by omega
          have He : Hid (oneB P W c (y0 + k) = false) := by
            show _ = _
            rw [Hone.out, he, decide_eq_false (by omega)]; rfl
          clear he hl hal
          have hWn : 0 < W := hW
          go_wp2_with fail
          go_quiet ((go_at_call 219; exact Calls.quiet_of (HL.out _)))
          go_wp2_with fail
          go_ret
          exact ⟨by rw [Hall.out, all_upto hc He.out]; rfl, by first | exact below_n HW.out.1 _ | (rw [← HM.out]; exact below_n HW.out.1 _)⟩
        · have hl' : ¬ ((al : Int) < (W : Int)) := by omega
          have He : Hid (oneB P W c (y0 + k) = true) := by
            show _ = _
            rw [Hone.out, he, decide_eq_true (by omega)]; rfl
          clear he hl hal
          have hWn : 0 < W := hW
          go_wp2_with fail
          go_quiet ((go_at_call 219; exact Calls.quiet_of (HL.out _)))
          go_wp2_with fail
          go_roundw
          case rel => exact ⟨k + 1, by go_num, by omega, fun i hi => by
            by_cases e : i < k
            · exact Hr.out i e
            · rw [show i = k by omega]; exact He.out, below_n HB.out _⟩
          case measure => simp [intOf]; omega
    · have ek : k = n := by omega
      have Hek : Hid (k = n) := ek
      have hc' : ¬ ((k : Int) < (n : Int)) := by omega
      clear ek
      go_wp2_with fail
      go_ret
      exact ⟨by rw [Hall.out, all_true (fun i hi => Hr.out i (by rw [Hek.out]; exact hi))]; rfl, by first | exact HW.out.1 | (rw [← HM.out]; exact HW.out.1)⟩
end Go.Proofs.YtjlfibhbfdckpaaGreatDoor

/- Flush: eraser. -/
namespace Go.Proofs.YtjlfibhbfdckpaaGreatDoor
open Go.RowKit
attribute [local go_sem ↓] Go.wp_at_zero Go.wp_at_succ
theorem state_pen (s : Rs) (gb : Bool) (w : World) : (Instr.field 59 (stAgg s.W s.H s.x s.y s.pend s.pen s.top s.bot gb) 5).run Tryz.prog w = .ok s.pen.agg w := by kernel_rfl
set_option maxHeartbeats 4000000 in
set_option maxRecDepth 100000 in
theorem qEraser (bp po pc : Nat) (lb lc : Nat → Nat) (H : Nat) (P : Nat → Nat → Cel) (bs bg g N : Nat) (s : Rs) (t : Pt) (b : Int) (w : World) (h : PtM w bp po pc lb lc H P bs bg g N s t) :
    Calls Tryz.prog 200 #[.pointer (some ⟨bp, 0, none⟩), .int .i64 b] w fun e w' => e = .returned (eraserP s b).agg ∧ Below w.heap.size w w' := by
  have HH : Hid (PtM w bp po pc lb lc H P bs bg g N s t) := h
  have c1 := h.c1
  have zb := World.block_lt_of_cell? _ _ h.c0
  obtain ⟨M, hM⟩ : ∃ M, w.heap.size = M := ⟨_, rfl⟩
  have HM : Hid (w.heap.size = M) := hM
  clear h
  go_enter Tryz.func200, Tryz.ntmps200
  go_upto_region 1 with fail
  have hA : ∃ wA, w.alloc (.cells #[.int .i64 0, .int .i64 0, .bool false, .bool false, .bool false] 33) = wA ∧ Below w.heap.size w wA ∧ wA.heap[M]? = some (.cells #[.int .i64 0, .int .i64 0, .bool false, .bool false, .bool false] 33) ∧ wA.heap.size = M + 1 := by
    subst hM
    exact ⟨_, rfl, (Below.refl _ _).alloc (Nat.le_refl _) _, heap_new _ _, by simp⟩
  obtain ⟨wA, hwA, belA, bA, zA⟩ := hA
  rw [hwA]
  have c1' : wA.cell? ⟨bp, 1, none⟩ = some (.pointer (some ⟨bs, 0, none⟩)) := (belA.cells (b := bp) zb 1).trans c1
  have HPA : Hid (PrAt wA bs bg g N s t) := HH.out.scr.below belA
  have HA : Hid (Below w.heap.size w wA) := belA
  have HbA : Hid (wA.heap[M]? = some (.cells #[.int .i64 0, .int .i64 0, .bool false, .bool false, .bool false] 33)) := bA
  clear hwA belA bA c1
  go_wp2_with fail
  go_at_call 63
  refine (sState bs bg g N s t wA HPA.out).mono ?_
  rintro e w1 ⟨rfl, hb1⟩
  have HB1 : Hid (Below w.heap.size w w1) := HA.out.trans (hb1.mono HA.out.size)
  have b1 : w1.heap[M]? = some (.cells #[.int .i64 0, .int .i64 0, .bool false, .bool false, .bool false] 33) := (hb1.block M (by omega)).trans HbA.out
  have z1 : M < w1.heap.size := by have := hb1.size; omega
  clear hb1 HPA HA HbA c1'
  generalize (decide (t.mode = 0) && decide (t.bn = 0)) = gb at *
  have Hb1 : Hid (w1.heap[M]? = some (.cells #[.int .i64 0, .int .i64 0, .bool false, .bool false, .bool false] 33)) := b1
  clear b1
  have hsp := state_pen s gb
  go_upto_region 2 with fail
  have hB : ∃ wB D, w1.alloc (.cells #[.int .i64 s.pen.f, .int .i64 s.pen.b, .bool s.pen.bo, .bool s.pen.un, .bool s.pen.re] 33) = wB ∧ w1.heap.size = D ∧ Below w.heap.size w wB ∧ wB.heap[M]? = some (.cells #[.int .i64 0, .int .i64 0, .bool false, .bool false, .bool false] 33) ∧ wB.heap[D]? = some (.cells #[.int .i64 s.pen.f, .int .i64 s.pen.b, .bool s.pen.bo, .bool s.pen.un, .bool s.pen.re] 33) := ⟨_, _, rfl, rfl, HB1.out.alloc HB1.out.size _, (heap_next _ _ z1).trans Hb1.out, heap_new _ _⟩
  obtain ⟨wB, D, hwB, hD, belB, bM, bD⟩ := hB
  rw [hwB, hD]
  have hMD : M < D := by omega
  have fr : ∀ o, wB.frozen? ⟨D, o, none⟩ = false := frozen_of_block bD
  have k1 : wB.cell? ⟨D, 1, none⟩ = some (.int .i64 s.pen.b) := cell_of_block bD 1
  have HB : Hid (Below w.heap.size w wB ∧ wB.heap[M]? = some (.cells #[.int .i64 0, .int .i64 0, .bool false, .bool false, .bool false] 33) ∧ wB.heap[D]? = some (.cells #[.int .i64 s.pen.f, .int .i64 s.pen.b, .bool s.pen.bo, .bool s.pen.un, .bool s.pen.re] 33)) := ⟨belB, bM, bD⟩
  clear hwB hD belB bM bD HB1 Hb1 z1
  go_upto_region 3 with fail
  have hC : ∃ wC, wB.setCell ⟨D, 1, none⟩ (.int .i64 b) = wC ∧ Below w.heap.size w wC ∧ wC.heap[M]? = some (.cells #[.int .i64 0, .int .i64 0, .bool false, .bool false, .bool false] 33) ∧ wC.heap[D]? = some (.cells #[.int .i64 s.pen.f, .int .i64 b, .bool s.pen.bo, .bool s.pen.un, .bool s.pen.re] 33) := by
    have k := (Keep.refl (fun i => i = D) wB).setCell ⟨D, 1, none⟩ (.int .i64 b) (fun _ => rfl)
    have zM := (Array.getElem?_eq_some_iff.1 HB.out.2.1).1
    refine ⟨_, rfl, HB.out.1.trans (k.toBelow HB.out.1.size (fun i hi e => by have := HM.out; omega)), (k.block M zM (by omega)).trans HB.out.2.1, ?_⟩
    have := heap_set_same HB.out.2.2 1 (.int .i64 b)
    exact this
  obtain ⟨wC, hwC, belC, bM, bD⟩ := hC
  rw [hwC]
  have HC : Hid (Below w.heap.size w wC ∧ wC.heap[M]? = some (.cells #[.int .i64 0, .int .i64 0, .bool false, .bool false, .bool false] 33)) := ⟨belC, bM⟩
  clear fr k1
  have fr : ∀ o, wC.frozen? ⟨M, o, none⟩ = false := frozen_of_block bM
  have d0 : wC.cell? ⟨D, 0, none⟩ = some (.int .i64 s.pen.f) := cell_of_block bD 0
  have d1 : wC.cell? ⟨D, 1, none⟩ = some (.int .i64 b) := cell_of_block bD 1
  have d2 : wC.cell? ⟨D, 2, none⟩ = some (.bool s.pen.bo) := cell_of_block bD 2
  have d3 : wC.cell? ⟨D, 3, none⟩ = some (.bool s.pen.un) := cell_of_block bD 3
  have d4 : wC.cell? ⟨D, 4, none⟩ = some (.bool s.pen.re) := cell_of_block bD 4
  have k0 : wC.cell? ⟨M, 0, none⟩ = some (.int .i64 0) := cell_of_block bM 0
  have k1 : wC.cell? ⟨M, 1, none⟩ = some (.int .i64 0) := cell_of_block bM 1
  have k2 : wC.cell? ⟨M, 2, none⟩ = some (.bool false) := cell_of_block bM 2
  have k3 : wC.cell? ⟨M, 3, none⟩ = some (.bool false) := cell_of_block bM 3
  have k4 : wC.cell? ⟨M, 4, none⟩ = some (.bool false) := cell_of_block bM 4
  clear hwC belC bM bD HB
  go_wp2_with fail
  have hE : ∃ wE, ((((wC.setCell ⟨M, 0, none⟩ (.int .i64 s.pen.f)).setCell ⟨M, 1, none⟩ (.int .i64 b)).setCell ⟨M, 2, none⟩ (.bool s.pen.bo)).setCell ⟨M, 3, none⟩ (.bool s.pen.un)).setCell ⟨M, 4, none⟩ (.bool s.pen.re) = wE ∧ Below w.heap.size w wE ∧ wE.heap[M]? = some (.cells #[.int .i64 s.pen.f, .int .i64 b, .bool s.pen.bo, .bool s.pen.un, .bool s.pen.re] 33) := by
    have k := (((((Keep.refl (fun i => i = M) wC).setCell ⟨M, 0, none⟩ (.int .i64 s.pen.f) (fun _ => rfl)).setCell ⟨M, 1, none⟩ (.int .i64 b) (fun _ => rfl)).setCell ⟨M, 2, none⟩ (.bool s.pen.bo) (fun _ => rfl)).setCell ⟨M, 3, none⟩ (.bool s.pen.un) (fun _ => rfl)).setCell ⟨M, 4, none⟩ (.bool s.pen.re) (fun _ => rfl)
    refine ⟨_, rfl, HC.out.1.trans (k.toBelow HC.out.1.size (fun i hi e => by have := HM.out; omega)), ?_⟩
    have := heap_set_same (heap_set_same (heap_set_same (heap_set_same (heap_set_same HC.out.2 0 (.int .i64 s.pen.f)) 1 (.int .i64 b)) 2 (.bool s.pen.bo)) 3 (.bool s.pen.un)) 4 (.bool s.pen.re)
    exact this
  obtain ⟨wE, hwE, belE, bE⟩ := hE
  rw [hwE]
  clear hwE k0 k1 k2 k3 k4 d0 d1 d2 d3 d4 fr
  have k0 : wE.cell? ⟨M, 0, none⟩ = some (.int .i64 s.pen.f) := cell_of_block bE 0
  have k1 : wE.cell? ⟨M, 1, none⟩ = some (.int .i64 b) := cell_of_block bE 1
  have k2 : wE.cell? ⟨M, 2, none⟩ = some (.bool s.pen.bo) := cell_of_block bE 2
  have k3 : wE.cell? ⟨M, 3, none⟩ = some (.bool s.pen.un) := cell_of_block bE 3
  have k4 : wE.cell? ⟨M, 4, none⟩ = some (.bool s.pen.re) := cell_of_block bE 4
  clear bE
  exact bodyPost_ret (v := (.agg #[.int .i64 s.pen.f, .int .i64 b, .bool s.pen.bo, .bool s.pen.un, .bool s.pen.re])) (by simp [results, Tryz.results200, go_sem, k0, k1, k2, k3, k4]) rfl ⟨rfl, belE⟩
end Go.Proofs.YtjlfibhbfdckpaaGreatDoor

/- Flush: scroll. -/
namespace Go.Proofs.YtjlfibhbfdckpaaGreatDoor
open Go.RowKit
attribute [local go_sem ↓] Go.wp_at_zero Go.wp_at_succ
theorem eraser_ok {s : Rs} (h : s.Fl) {b : Int} (h0 : 0 ≤ b) (h1 : b ≤ 8) : (eraserP s b).Ok := ⟨h.pen.1, h.pen.2.1, h0, h1⟩
set_option maxHeartbeats 4000000 in
set_option maxRecDepth 100000 in
theorem qScroll (m0 n1 bp po pc : Nat) (lb lc : Nat → Nat) (H : Nat) (P : Nat → Nat → Cel) (bs bg g N : Nat) (s : Rs) (l : List UInt8) (n : Int) (w : World) (h : PaM w m0 n1 bp po pc lb lc H P bs bg g N s l) (fl : s.Fl) (n0 : n ≠ 0) (na : -100 < n) (nb : n < 100) (hlen : l.length ≤ 900000) :
    Calls Tryz.prog 176 #[.pointer (some ⟨bp, 0, none⟩), .int .i64 n] w fun e w' => e = .returned (.tuple #[]) ∧ PaM w' m0 n1 bp po pc lb lc H P bs bg g N (feedR s (scrollL s n)) (l ++ scrollL s n) ∧ Below m0 w w' := by
  have HH : Hid (PaM w m0 n1 bp po pc lb lc H P bs bg g N s l) := h
  have hsl := scroll_len fl na nb
  have hdef : scrollL s n = penL s.pen (eraserP s 0) ++ alongL n 83 84 := rfl
  have hok := eraser_ok fl (b := 0) (by omega) (by omega)
  have hf1 := feed_pen fl.B hok
  have hf2 := scrolled fl n0 na nb
  obtain ⟨t, pt, tie⟩ := h.ex
  have Hm : Hid (m0 ≤ w.heap.size) := by
    have := h.bd.le; have := h.bd.lt; have := h.p0
    show _ ≤ _
    omega
  have c1 := pt.c1
  have HP : Hid (PtM w bp po pc lb lc H P bs bg g N s t) := pt
  obtain ⟨pl, hpl⟩ : ∃ pl, penL s.pen (eraserP s 0) = pl := ⟨_, rfl⟩
  obtain ⟨al, hal⟩ : ∃ al, alongL n 83 84 = al := ⟨_, rfl⟩
  rw [hdef, hpl, hal] at hsl hf2
  rw [hpl] at hf1
  rw [hdef, hpl, hal]
  have Hpl : Hid (penL s.pen (eraserP s 0) = pl) := hpl
  have Hal : Hid (alongL n 83 84 = al) := hal
  have Hl : Hid (pl.length + al.length ≤ 10 ∧ l.length ≤ 900000) := ⟨by rw [List.length_append] at hsl; exact hsl, hlen⟩
  have Hf1 : Hid (feedR s pl = { s with pen := eraserP s 0 }) := hf1
  have Hf2 : Hid (feedR s (pl ++ al) = { s with pen := eraserP s 0, G := scrollG s.top s.bot n Pn.plain s.G }) := hf2
  have Hok : Hid (s.Fl ∧ (eraserP s 0).Ok) := ⟨fl, hok⟩
  clear h hsl hdef hok hf1 hf2 pt tie hpl hal hlen fl
  go_enter Tryz.func176, Tryz.ntmps176
  go_wp2_with fail
  go_at_call 63
  refine (sState bs bg g N s t w HP.out.scr).mono ?_
  rintro e w1 ⟨rfl, hb1⟩
  generalize (decide (t.mode = 0) && decide (t.bn = 0)) = gb at *
  have hsp := state_pen s gb
  have HB1 : Hid (Below w.heap.size w w1) := hb1
  clear hb1 c1
  go_wp2_with fail
  go_at_call 200
  refine (qEraser bp po pc lb lc H P bs bg g N s t 0 w1 (HP.out.below HB1.out)).mono ?_
  rintro e w2 ⟨rfl, hb2⟩
  have HB2 : Hid (Below w.heap.size w w2) := HB1.out.trans (hb2.mono HB1.out.size)
  clear hb2 HB1 hsp
  go_wp2_with fail
  go_at_call 199
  refine (qPenChange s.pen (eraserP s 0) w2 Hok.out.2).mono ?_
  rw [Hpl.out]
  rintro e w3 ⟨rfl, hb3⟩
  have HB3 : Hid (Below w.heap.size w w3) := HB2.out.trans (hb3.mono HB2.out.size)
  clear hb3 HB2
  go_wp2_with fail
  go_at_call 198
  refine (qTell m0 n1 bp po pc lb lc H P bs bg g N s l pl w3 (HH.out.below HB3.out) Hok.out.1.ok (by have := Hl.out; omega) (by rw [Hf1.out]) (by rw [Hf1.out])).mono ?_
  rintro e w4 ⟨rfl, P4, hb4, _⟩
  have HP4 : Hid (PaM w4 m0 n1 bp po pc lb lc H P bs bg g N (feedR s pl) (l ++ pl) ∧ Below m0 w w4) := ⟨P4, (HB3.out.mono Hm.out).trans hb4⟩
  clear P4 hb4 HB3
  go_wp2_with fail
  go_at_call 201
  refine (qAlong n 83 84 w4 na nb).mono ?_
  rw [Hal.out]
  rintro e w5 ⟨rfl, hb5⟩
  have HP5 : Hid (PaM w5 m0 n1 bp po pc lb lc H P bs bg g N (feedR s pl) (l ++ pl) ∧ Below m0 w w5) := ⟨HP4.out.1.below hb5, HP4.out.2.trans (hb5.mono (by
    have := HP4.out.1.bd.le; have := HP4.out.1.bd.lt; have := HP4.out.1.p0; omega))⟩
  clear hb5 HP4
  go_wp2_with fail
  go_at_call 198
  refine (qTell m0 n1 bp po pc lb lc H P bs bg g N (feedR s pl) (l ++ pl) al w5 HP5.out.1 (feedOk pl Hok.out.1.ok) (by have := Hl.out; rw [List.length_append]; omega) (by rw [← feed_app, Hf2.out, Hf1.out]) (by rw [← feed_app, Hf2.out, Hf1.out])).mono ?_
  rintro e w6 ⟨rfl, P6, hb6, _⟩
  rw [← feed_app, List.append_assoc] at P6
  have HP6 : Hid (PaM w6 m0 n1 bp po pc lb lc H P bs bg g N (feedR s (pl ++ al)) (l ++ (pl ++ al)) ∧ Below m0 w w6) := ⟨P6, HP5.out.2.trans hb6⟩
  clear P6 hb6
  go_wp2_with fail
  go_end0
  exact ⟨rfl, HP6.out⟩
end Go.Proofs.YtjlfibhbfdckpaaGreatDoor

/- Flush: span. -/
namespace Go.Proofs.YtjlfibhbfdckpaaGreatDoor
open Go.RowKit
attribute [local go_sem ↓] Go.wp_at_zero Go.wp_at_succ
set_option maxHeartbeats 4000000 in
theorem qSpan (bp po pc : Nat) (lb lc : Nat → Nat) (H : Nat) (P : Nat → Nat → Cel) (bs bg g N : Nat) (s : Rs) (t : Pt) (x y n : Nat) (w : World) (h : PtM w bp po pc lb lc H P bs bg g N s t) (ok : s.Ok) (hx : x < s.W) (hy : y < s.H) (h1 : 1 ≤ n) (hn : y * s.W + x + n ≤ s.H * s.W) :
    Calls Tryz.prog 221 #[.pointer (some ⟨bp, 0, none⟩), .int .i64 x, .int .i64 y, .int .i64 n] w fun e w' => e = .returned (.int .i64 (spanN s P x y n : Nat)) ∧ Below w.heap.size w w' := by
  have HH : Hid (PtM w bp po pc lb lc H P bs bg g N s t) := h
  have hyH : y < H := by rw [h.hs]; exact hy
  have c0 := h.c0
  have r0 := h.pic.row y hyH
  have hy' : (y : Int) < (H : Int) := by omega
  have w2 := ok.w2
  have w1 := ok.w1
  have hh2 := ok.h2
  have hmul : s.H * s.W ≤ 20 * 40 := Nat.mul_le_mul hh2 w2
  have hn2 : n ≤ 800 := by omega
  have Hn : Hid (y * s.W + x + n ≤ s.H * s.W) := hn
  have HS : Hid (s.W ≤ 40 ∧ 1 ≤ s.W ∧ s.H ≤ 20 ∧ x < s.W ∧ y < s.H) := ⟨w2, w1, hh2, hx, hy⟩
  clear h hn hmul
  go_enter Tryz.func221, Tryz.ntmps221
  go_wp2_with fail
  go_loopw [3] (fun vi wr => ∃ m : Nat, vi = .int .i64 m ∧ 1 ≤ m ∧ m ≤ n ∧ spanN s P x y m = spanN s P x y n ∧ Below w.heap.size w wr) (fun vi _ => (intOf vi).toNat)
  case atStart => exact ⟨n, rfl, h1, Nat.le_refl _, rfl, Below.refl _ _⟩
  case round =>
    obtain ⟨m, rfl, hm1, hm2, hsp, hbw⟩ := hrel
    have HB : Hid (Below w.heap.size w wr) := hbw
    have HP : Hid (PtM wr bp po pc lb lc H P bs bg g N s t) := HH.out.below hbw
    have Hsp : Hid (spanN s P x y m = spanN s P x y n) := hsp
    clear hbw hsp c0 r0
    by_cases hc : m = 1
    · subst hc
      go_wp2_with fail
      go_quiet (fail)
      go_wp2_with fail
      go_ret
      exact ⟨by rw [← Hsp.out]; rfl, below_n HB.out _⟩
    · have hm3 : 2 ≤ m := by omega
      obtain ⟨z, hz⟩ : ∃ z, x + (m - 1) = z := ⟨_, rfl⟩
      obtain ⟨r, hr⟩ : ∃ r, z % s.W = r := ⟨_, rfl⟩
      obtain ⟨d, hd⟩ : ∃ d, z / s.W = d := ⟨_, rfl⟩
      obtain ⟨yy, hyy⟩ : ∃ yy, y + d = yy := ⟨_, rfl⟩
      have hrl : r < s.W := by rw [← hr]; exact Nat.mod_lt _ w1
      have hyl : yy < s.H := by
        have a : y * s.W + z < s.H * s.W := by have := Hn.out; omega
        have b : (y * s.W + z) / s.W < s.H := Nat.div_lt_of_lt_mul (by rw [Nat.mul_comm s.W s.H]; exact a)
        rw [Nat.mul_comm y s.W, Nat.mul_add_div w1] at b
        omega
      have hdl : d ≤ 1000 := by omega
      have e1 : IntKind.i64.wrap ((x : Int) + (m : Int)) = (x : Int) + (m : Int) := wrap_id _ (by omega) (by omega)
      have e2 : IntKind.i64.wrap ((x : Int) + (m : Int) - 1) = (z : Int) := by rw [wrap_id _ (by omega) (by omega)]; omega
      have e3 : Int.tmod (z : Int) (s.W : Int) = (r : Int) := by rw [← hr]; rfl
      have e4 : Int.tdiv (z : Int) (s.W : Int) = (d : Int) := by rw [← hd]; rfl
      have e5 : IntKind.i64.wrap (d : Int) = (d : Int) := wrap_id _ (by omega) (by omega)
      have e6 : IntKind.i64.wrap ((y : Int) + (d : Int)) = (yy : Int) := by rw [wrap_id _ (by omega) (by omega)]; omega
      have e7 : IntKind.i64.wrap (r : Int) = (r : Int) := wrap_id _ (by omega) (by omega)
      have e8 : IntKind.i64.wrap ((m : Int) - 1) = (m : Int) - 1 := wrap_id _ (by omega) (by omega)
      have hW0 : ¬ ((s.W : Int) = 0) := by omega
      have hW1 : ¬ (s.W = 0) := by omega
      have hgt : (1 : Int) < (m : Int) := by omega
      have Hstep : Hid (spanN s P x y m = if differsB s P r yy = true then m else spanN s P x y (m - 1)) := by
        show _ = _
        obtain ⟨j, rfl⟩ : ∃ j, m = j + 2 := ⟨m - 2, by omega⟩
        have e : x + (j + 1) = z := hz
        rw [spanN, e, hr, hd, hyy]
        rfl
      have Hlt : Hid (r < s.W ∧ yy < s.H) := ⟨hrl, hyl⟩
      clear hz hr hd hyy hrl hyl w1 w2 hh2 hx hy hc
      cases hdf : differsB s P r yy with
      | true =>
        have Hdf : Hid (differsB s P r yy = true) := hdf
        clear hdf
        go_wp2_with fail
        go_region_held3 (fun _ => True) (trivial) (first | (go_at_call 177; refine (qDiffers bp po pc lb lc H P bs bg g N s t r yy _ (HP.out.below (by first | exact Below.refl _ _ | exact (Below.refl _ _).drew)) Hlt.out.1 Hlt.out.2).mono ?_; rintro e w7 ⟨rfl, hb7⟩; rw [Hdf.out]; have hb8 := below_drew' hb7; have HB8 : Hid (Below wr.heap.size wr w7) := hb8; clear hb7 hb8))
        all_goals
          go_wp2_with fail
          go_ret
          exact ⟨by rw [← Hsp.out, Hstep.out, if_pos Hdf.out]; rfl, HB.out.trans (HB8.out.mono HB.out.size)⟩
      | false =>
        have Hdf : Hid (differsB s P r yy = false) := hdf
        clear hdf
        go_wp2_with fail
        go_region_held3 (fun _ => True) (trivial) (first | (go_at_call 177; refine (qDiffers bp po pc lb lc H P bs bg g N s t r yy _ (HP.out.below (by first | exact Below.refl _ _ | exact (Below.refl _ _).drew)) Hlt.out.1 Hlt.out.2).mono ?_; rintro e w7 ⟨rfl, hb7⟩; rw [Hdf.out]; have hb8 := below_drew' hb7; have HB8 : Hid (Below wr.heap.size wr w7) := hb8; clear hb7 hb8))
        all_goals
          go_wp2_with fail
          go_roundw
          case rel => exact ⟨m - 1, by first | (go_num; done) | (congr 1; omega), by omega, by omega, by rw [← Hsp.out, Hstep.out, if_neg (by rw [Hdf.out]; decide)], HB.out.trans (HB8.out.mono HB.out.size)⟩
          case measure => simp [intOf]; omega
end Go.Proofs.YtjlfibhbfdckpaaGreatDoor
