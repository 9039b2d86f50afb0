/- Texts of the proof, one behind the other: FwT, FwU. -/
import Derived.Test.YtjlfibhbfdckpaaGreatDoorK04
import Derived.Test.YtjlfibhbfdckpaaGreatDoorK30
import Derived.Deep.LoopGhost
import Derived.Deep.DeepCutAuto
import Derived.Carry
/- Flush: route. -/
namespace Go.Proofs.YtjlfibhbfdckpaaGreatDoor
open Go.RowKit Go.Maps
open Wd (wd)
attribute [local go_sem ↓] Go.wp_at_zero Go.wp_at_succ
set_option maxHeartbeats 8000000 in
set_option maxRecDepth 100000 in
theorem qRoute (bs bg g N : Nat) (s : Rs) (t : Pt) (gl : Gl) (w : World) (h : PrAt w bs bg g N s t) (fl : s.Fl) (hg : gl.In s) :
    Calls Tryz.prog 203 #[.pointer (some ⟨bs, 0, none⟩), gl.agg] w fun e w' => e = .returned (bstr (routeL s gl)) ∧ Below w.heap.size w w' := by
  have ok := fl.ok
  have x0 := hg.x0
  have y0 := hg.y0
  have x1 : gl.x < 40 := by have := hg.x1; have := ok.w2; omega
  have y1 : gl.y < 20 := by have := hg.y1; have := ok.h2; omega
  obtain ⟨M, hM⟩ : ∃ M, w.heap.size = M := ⟨_, rfl⟩
  have HM : Hid (w.heap.size = M) := hM
  have HP : Hid (PrAt w bs bg g N s t) := h
  have Hok : Hid (s.Fl ∧ gl.In s) := ⟨fl, hg⟩
  clear h ok fl hg
  go_enter Tryz.func203, Tryz.ntmps203
  go_wp2_with fail
  have hA : ∃ wA, w.alloc (.cells (glArr gl) 211) = wA ∧ wA.heap.size = M + 1 ∧ wA.heap[M]? = some (.cells (glArr gl) 211) ∧ Below w.heap.size w wA := by
    subst hM
    exact ⟨_, rfl, by simp, heap_new _ _, (Below.refl _ _).alloc (Nat.le_refl _) _⟩
  obtain ⟨wA, hwA, zA, bA, belA⟩ := hA
  rw [hwA]
  have HbA : Hid (wA.heap[M]? = some (.cells (glArr gl) 211)) := bA
  have HbelA : Hid (Below w.heap.size w wA) := belA
  have HPA : Hid (PrAt wA bs bg g N s t) := HP.out.below belA
  clear hwA bA belA
  go_at_call 63
  refine (sState bs bg g N s t wA HPA.out).mono ?_
  rintro e w1 ⟨rfl, hb1⟩
  have HB1 : Hid (Below w.heap.size w w1) := HbelA.out.trans (hb1.mono (by have := HM.out; omega))
  have Hb1 : Hid (w1.heap[M]? = some (.cells (glArr gl) 211)) := (hb1.block M (by omega)).trans HbA.out
  have z1 : M < w1.heap.size := by have := hb1.size; omega
  clear hb1 HbA HbelA HPA
  generalize (decide (t.mode = 0) && decide (t.bn = 0)) = gb at *
  go_upto_region 3 with fail
  have hP2 : ∃ wP P, (w1.alloc (.cells #[.int .i64 s.W, .int .i64 s.H, .int .i64 s.x, .int .i64 s.y, .bool s.pend, .int .i64 s.pen.f, .int .i64 s.pen.b, .bool s.pen.bo, .bool s.pen.un, .bool s.pen.re, .int .i64 s.top, .int .i64 s.bot, .bool gb] 59)).alloc (.cells #[.int .i64 s.x, .int .i64 s.y, .bool s.pend, .int .i64 s.pen.f, .int .i64 s.pen.b, .bool s.pen.bo, .bool s.pen.un, .bool s.pen.re] 235) = wP ∧ w1.heap.size + 1 = P ∧ wP.heap.size = P + 1 ∧ wP.heap[M]? = some (.cells (glArr gl) 211) ∧ wP.heap[P]? = some (.cells (spArr s.sp) 235) ∧ Below w.heap.size w wP ∧ M < P := by
    refine ⟨_, w1.heap.size + 1, rfl, rfl, by simp, ?_, heap_top _ _ (by simp), (HB1.out.alloc HB1.out.size _).alloc (by have := HB1.out.size; simp; omega) _, by omega⟩
    rw [heap_next _ _ (by simp; omega), heap_next _ _ z1]
    exact Hb1.out
  obtain ⟨wP, P, hwP, hPe, zP, bM, bP, belP, hMP⟩ := hP2
  rw [hwP, hPe]
  have HbM : Hid (wP.heap[M]? = some (.cells (glArr gl) 211)) := bM
  have HbP : Hid (wP.heap[P]? = some (.cells (spArr s.sp) 235)) := bP
  have HBP : Hid (Below w.heap.size w wP) := belP
  have g0 : wP.cell? ⟨M, 0, none⟩ = some (.int .i64 gl.x) := cell_of_block bM 0
  have g1 : wP.cell? ⟨M, 1, none⟩ = some (.int .i64 gl.y) := cell_of_block bM 1
  have g2 : wP.cell? ⟨M, 2, none⟩ = some (.int .i64 gl.pen.f) := cell_of_block bM 2
  have g3 : wP.cell? ⟨M, 3, none⟩ = some (.int .i64 gl.pen.b) := cell_of_block bM 3
  have g4 : wP.cell? ⟨M, 4, none⟩ = some (.bool gl.pen.bo) := cell_of_block bM 4
  have g5 : wP.cell? ⟨M, 5, none⟩ = some (.bool gl.pen.un) := cell_of_block bM 5
  have g6 : wP.cell? ⟨M, 6, none⟩ = some (.bool gl.pen.re) := cell_of_block bM 6
  clear hwP bM bP belP HB1 Hb1 z1 hPe
  have zM : M < P + 1 := by omega
  have nM1 : ¬ M = P + 1 := by omega
  have nM2 : ¬ P + 1 = M := by omega
  go_cut [7] (fun v wc => ∃ D, v = .pointer (some ⟨D, 0, none⟩) ∧ wc.heap[D]? = some (.cells (wyArr (straightW gl)) 237) ∧ wc.heap[M]? = some (.cells (glArr gl) 211) ∧ wc.heap[P]? = some (.cells (spArr s.sp) 235) ∧ Below w.heap.size w wc)
  case first =>
    go_region_held3 (fun w' => w'.cell? ⟨M, 0, none⟩ = some (.int .i64 gl.x) ∧ w'.cell? ⟨M, 1, none⟩ = some (.int .i64 gl.y) ∧ w'.cell? ⟨M, 2, none⟩ = some (.int .i64 gl.pen.f) ∧ w'.cell? ⟨M, 3, none⟩ = some (.int .i64 gl.pen.b) ∧ w'.cell? ⟨M, 4, none⟩ = some (.bool gl.pen.bo) ∧ w'.cell? ⟨M, 5, none⟩ = some (.bool gl.pen.un) ∧ w'.cell? ⟨M, 6, none⟩ = some (.bool gl.pen.re)) (simp [*, cell_old, World.cell?_setCell_far]) (first | (go_at_call 222; refine (qPlace gl.x gl.y _ x0 x1 y0 y1).mono ?_; rintro e w5 ⟨rfl, hb5⟩; have hb6 := below_drew' hb5; have e1 := hb6.cells (b := M) (by first | omega | (simp; omega)); have HB6 : Hid (Below wP.heap.size wP w5) := (by first | exact hb6 | exact ((Below.refl _ _).alloc (Nat.le_refl _) _).trans (hb6.mono (by simp))); have z6 : P < w5.heap.size := (by have := HB6.out.size; omega); have z7 : M < w5.heap.size := (by omega); (first | (have e3 := hb6.cells (b := P + 1) (by simp; omega); have e4 := hb6.marks (b := P + 1) (by simp; omega); have HD : Hid (w5.heap[P + 1]? = some (.cells #[.string ⟨#[]⟩, .int .i64 0, .int .i64 0, .int .i64 0, .bool false, .int .i64 0, .int .i64 0, .bool false, .bool false, .bool false] 237)) := (hb6.block (P + 1) (by simp; omega)).trans (heap_top _ _ (by omega))) | skip); clear hb5))
    all_goals
      first
        | (have hd := HD.out
           obtain ⟨wE, hwE⟩ : ∃ wE, putW w5 (P + 1) (straightW gl) = wE := ⟨_, rfl⟩
           have E1 : Hid (wE.heap[P + 1]? = some (.cells (wyArr (straightW gl)) 237)) := hwE ▸ putW_heap _ hd
           have E2 : Hid (wE.heap[M]? = some (.cells (glArr gl) 211)) := hwE ▸ ((putW_keep (Keep.refl (fun i => i = P + 1) w5) (P + 1) (straightW gl) (fun _ => rfl)).block M z7 (by omega)).trans ((HB6.out.block M (by omega)).trans HbM.out)
           have E5 : Hid (wE.heap[P]? = some (.cells (spArr s.sp) 235)) := hwE ▸ ((putW_keep (Keep.refl (fun i => i = P + 1) w5) (P + 1) (straightW gl) (fun _ => rfl)).block P z6 (by omega)).trans ((HB6.out.block P (by omega)).trans HbP.out)
           have E3 : Hid (Below w.heap.size w wE) := hwE ▸ below_on ((putW_keep (Keep.refl (fun i => i = P + 1) w5) (P + 1) (straightW gl) (fun _ => rfl)).toBelow (B := w.heap.size) (by omega) (fun i hi e => by have := HM.out; omega)) HBP.out HB6.out
           simp only [putW, straightW, Int.natCast_zero] at hwE
           rw [hwE]
           clear hwE hd HD e3 e4
           go_wp2_with fail
           go_meet
           case rel => exact ⟨_, rfl, E1.out, E2.out, E5.out, E3.out⟩)
        | (obtain ⟨wE, hwE⟩ : ∃ wE, w5.alloc (.cells (wyArr (straightW gl)) 237) = wE := ⟨_, rfl⟩
           have E1 : Hid (wE.heap[w5.heap.size]? = some (.cells (wyArr (straightW gl)) 237)) := hwE ▸ heap_new _ _
           have E2 : Hid (wE.heap[M]? = some (.cells (glArr gl) 211)) := hwE ▸ (heap_next _ _ z7).trans ((HB6.out.block M (by omega)).trans HbM.out)
           have E5 : Hid (wE.heap[P]? = some (.cells (spArr s.sp) 235)) := hwE ▸ (heap_next _ _ z6).trans ((HB6.out.block P (by omega)).trans HbP.out)
           have E3 : Hid (Below w.heap.size w wE) := hwE ▸ (HBP.out.trans (HB6.out.mono HBP.out.size)).alloc (Nat.le_trans HBP.out.size HB6.out.size) _
           simp only [straightW, wyArr, Int.natCast_zero] at hwE
           rw [hwE]
           clear hwE
           go_wp2_with fail
           go_meet
           case rel => exact ⟨_, rfl, E1.out, E2.out, E5.out, E3.out⟩)
  case rest =>
    obtain ⟨D, rfl, hD, hM3, hP3, hB3⟩ := hcut
    have HD : Hid (wc.heap[D]? = some (.cells (wyArr (straightW gl)) 237)) := hD
    have HM3 : Hid (wc.heap[M]? = some (.cells (glArr gl) 211)) := hM3
    have HP3 : Hid (wc.heap[P]? = some (.cells (spArr s.sp) 235)) := hP3
    have HB3 : Hid (Below w.heap.size w wc) := hB3
    have s0 : wc.cell? ⟨P, 0, none⟩ = some (.int .i64 s.sp.x) := cell_of_block hP3 0
    have s1 : wc.cell? ⟨P, 1, none⟩ = some (.int .i64 s.sp.y) := cell_of_block hP3 1
    have s2 : wc.cell? ⟨P, 2, none⟩ = some (.bool s.sp.pend) := cell_of_block hP3 2
    have s3 : wc.cell? ⟨P, 3, none⟩ = some (.int .i64 s.sp.pen.f) := cell_of_block hP3 3
    have s4 : wc.cell? ⟨P, 4, none⟩ = some (.int .i64 s.sp.pen.b) := cell_of_block hP3 4
    have s5 : wc.cell? ⟨P, 5, none⟩ = some (.bool s.sp.pen.bo) := cell_of_block hP3 5
    have s6 : wc.cell? ⟨P, 6, none⟩ = some (.bool s.sp.pen.un) := cell_of_block hP3 6
    have s7 : wc.cell? ⟨P, 7, none⟩ = some (.bool s.sp.pen.re) := cell_of_block hP3 7
    obtain ⟨v, hv⟩ : ∃ v, straightW gl = v := ⟨_, rfl⟩
    have Hv : Hid (straightW gl = v) := hv
    rw [hv] at hD
    have d0 : wc.cell? ⟨D, 0, none⟩ = some (.string ⟨v.b.toArray⟩) := cell_of_block hD 0
    have d1 : wc.cell? ⟨D, 1, none⟩ = some (.int .i64 v.k) := cell_of_block hD 1
    have d2 : wc.cell? ⟨D, 2, none⟩ = some (.int .i64 v.e.x) := cell_of_block hD 2
    have d3 : wc.cell? ⟨D, 3, none⟩ = some (.int .i64 v.e.y) := cell_of_block hD 3
    have d4 : wc.cell? ⟨D, 4, none⟩ = some (.bool v.e.pend) := cell_of_block hD 4
    have d5 : wc.cell? ⟨D, 5, none⟩ = some (.int .i64 v.e.pen.f) := cell_of_block hD 5
    have d6 : wc.cell? ⟨D, 6, none⟩ = some (.int .i64 v.e.pen.b) := cell_of_block hD 6
    have d7 : wc.cell? ⟨D, 7, none⟩ = some (.bool v.e.pen.bo) := cell_of_block hD 7
    have d8 : wc.cell? ⟨D, 8, none⟩ = some (.bool v.e.pen.un) := cell_of_block hD 8
    have d9 : wc.cell? ⟨D, 9, none⟩ = some (.bool v.e.pen.re) := cell_of_block hD 9
    clear hD hM3 hP3 hB3 hv g0 g1 g2 g3 g4 g5 g6 HbM HbP HBP zP zA zM nM1 nM2
    have hmm := @run_makeMap Tryz.prog
    go_wp2_with fail
    have hst : RtAt w _ gl s.sp M P D wc.heap.size (wc.heap.size + 1) (wc.heap.size + 1 + 1) wc.heap.size 2 [] [⟨[], 0, s.sp⟩, v] := rt_start HM3.out HP3.out HD.out HB3.out ⟨[], 0, s.sp⟩ v
    simp only [Int.natCast_zero] at hst
    generalize World.alloc _ (Obj.map #[] 0) = wL at hst ⊢
    clear HD HM3 HP3 HB3 s0 s1 s2 s3 s4 s5 s6 s7 d0 d1 d2 d3 d4 d5 d6 d7 d8 d9 hmm
    generalize wc.heap.size + 1 = bo at hst ⊢
    generalize bo + 1 = bm at hst ⊢
    generalize wc.heap.size = base at hst ⊢
    have HS : Hid (RtAt w wL gl s.sp M P D base bo bm base 2 [] (startO s gl)) := by
      have e : startO s gl = [⟨[], 0, s.sp⟩, v] := by rw [← Hv.out]; rfl
      show RtAt w wL gl s.sp M P D base bo bm base 2 [] (startO s gl)
      rw [e]; exact hst
    clear hst Hv wc
    go_loopg [] (routeN s) (fun k wr => k ≤ routeN s ∧ ∃ g2 cap kn o, RtAt w wr gl s.sp M P D base bo bm g2 cap kn o ∧ RtInv s gl o kn ∧ rounds s o kn ≤ k ∧ routeF s gl k o kn = routeL s gl)
    case atStart => exact ⟨Nat.le_refl _, base, 2, [], _, HS.out, (start_inv Hok.out.1 Hok.out.2).1, (start_inv Hok.out.1 Hok.out.2).2, rfl⟩
    case round =>
      clear HS wL
      obtain ⟨hk, g2, cap, kn, o, hR, hI, hr, hf⟩ := hrel
      have hne := hI.ne
      have hl1 : 1 ≤ o.length := List.length_pos_iff.2 hne
      have hl2 : o.length ≤ gk := Nat.le_trans (Nat.le_add_left _ _) hr
      obtain ⟨k, rfl⟩ : ∃ k, gk = k + 1 := ⟨gk - 1, by omega⟩
      have hz : o.length ≤ 25602 := Nat.le_trans hl2 (Nat.le_trans hk (routeN_le Hok.out.1.ok))
      have HR : Hid (RtAt w wr gl s.sp M P D base bo bm g2 cap kn o) := hR
      have HI : Hid (RtInv s gl o kn ∧ rounds s o kn ≤ k + 1 ∧ routeF s gl (k + 1) o kn = routeL s gl ∧ o ≠ []) := ⟨hI, hr, hf, hne⟩
      have hok := hI.pop.1
      have hta := wassert (popW o)
      obtain ⟨v, hv⟩ : ∃ v, popW o = v := ⟨_, rfl⟩
      have Hv : Hid (popW o = v) := hv
      rw [hv] at hok hta
      have Hokv : Hid (WyOk s gl v) := hok
      have hlt := hR.hp.lt
      have hgl := hR.hp.glt
      have hml := hR.ml
      clear hR hI hr hf hne hok hv
      go_upto_region 6 with fail
      go_wp2_with fail
      go_at_call 223
      refine (qHPop bo base g2 cap o _ HR.out.hp HI.out.2.2.2 (by omega)).mono ?_
      rintro e w5 ⟨rfl, h5, k5⟩
      rw [Hv.out]
      have H5 : Hid (RtAt w w5 gl s.sp M P D base bo bm g2 cap kn (popR o)) := HR.out.pushed h5 k5 (.inl rfl)
      have z5 : wr.heap.size ≤ w5.heap.size := k5.size
      clear h5 k5
      go_upto_region 7 with fail
      have hX : ∃ wX X, w5.alloc (.cells (wyArr v) 237) = wX ∧ w5.heap.size = X ∧ RtAt w wX gl s.sp M P D base bo bm g2 cap kn (popR o) ∧ wX.heap[X]? = some (.cells (wyArr v) 237) ∧ X < wX.heap.size := ⟨_, _, rfl, rfl, H5.out.below ((Below.refl _ _).alloc (Nat.le_refl _) _), heap_new _ _, by simp⟩
      obtain ⟨wX, X, hwX, hXe, hX1, bX, zX⟩ := hX
      simp only [wyArr] at hwX
      rw [hwX, hXe]
      rw [hXe] at z5
      have HX : Hid (RtAt w wX gl s.sp M P D base bo bm g2 cap kn (popR o)) := hX1
      have HbX : Hid (wX.heap[X]? = some (.cells (wyArr v) 237)) := bX
      have q0 : wX.cell? ⟨X, 0, none⟩ = some (.string ⟨v.b.toArray⟩) := cell_of_block bX 0
      have q1 : wX.cell? ⟨X, 1, none⟩ = some (.int .i64 v.k) := cell_of_block bX 1
      have q2 : wX.cell? ⟨X, 2, none⟩ = some (.int .i64 v.e.x) := cell_of_block bX 2
      have q3 : wX.cell? ⟨X, 3, none⟩ = some (.int .i64 v.e.y) := cell_of_block bX 3
      have q4 : wX.cell? ⟨X, 4, none⟩ = some (.bool v.e.pend) := cell_of_block bX 4
      have q5 : wX.cell? ⟨X, 5, none⟩ = some (.int .i64 v.e.pen.f) := cell_of_block bX 5
      have q6 : wX.cell? ⟨X, 6, none⟩ = some (.int .i64 v.e.pen.b) := cell_of_block bX 6
      have q7 : wX.cell? ⟨X, 7, none⟩ = some (.bool v.e.pen.bo) := cell_of_block bX 7
      have q8 : wX.cell? ⟨X, 8, none⟩ = some (.bool v.e.pen.un) := cell_of_block bX 8
      have q9 : wX.cell? ⟨X, 9, none⟩ = some (.bool v.e.pen.re) := cell_of_block bX 9
      have m0 : wX.cell? ⟨M, 0, none⟩ = some (.int .i64 gl.x) := cell_of_block hX1.hM 0
      have m1 : wX.cell? ⟨M, 1, none⟩ = some (.int .i64 gl.y) := cell_of_block hX1.hM 1
      have m2 : wX.cell? ⟨M, 2, none⟩ = some (.int .i64 gl.pen.f) := cell_of_block hX1.hM 2
      have m3 : wX.cell? ⟨M, 3, none⟩ = some (.int .i64 gl.pen.b) := cell_of_block hX1.hM 3
      have m4 : wX.cell? ⟨M, 4, none⟩ = some (.bool gl.pen.bo) := cell_of_block hX1.hM 4
      have m5 : wX.cell? ⟨M, 5, none⟩ = some (.bool gl.pen.un) := cell_of_block hX1.hM 5
      have m6 : wX.cell? ⟨M, 6, none⟩ = some (.bool gl.pen.re) := cell_of_block hX1.hM 6
      have m7 : wX.cell? ⟨M, 7, none⟩ = some (.bool gl.letter) := cell_of_block hX1.hM 7
      have s3 : wX.cell? ⟨P, 3, none⟩ = some (.int .i64 s.pen.f) := cell_of_block hX1.hP 3
      have s4 : wX.cell? ⟨P, 4, none⟩ = some (.int .i64 s.pen.b) := cell_of_block hX1.hP 4
      have s5 : wX.cell? ⟨P, 5, none⟩ = some (.bool s.pen.bo) := cell_of_block hX1.hP 5
      have s6 : wX.cell? ⟨P, 6, none⟩ = some (.bool s.pen.un) := cell_of_block hX1.hP 6
      have s7 : wX.cell? ⟨P, 7, none⟩ = some (.bool s.pen.re) := cell_of_block hX1.hP 7
      have zM : M < wX.heap.size := Nat.lt_of_lt_of_le hX1.mb hX1.bl
      have zP : P < wX.heap.size := Nat.lt_of_lt_of_le hX1.pb hX1.bl
      clear hX1 bX hwX hXe H5
      go_wp2_with fail
      go_at_call 224
      refine (qIsAt gl v.e wX Hokv.out.inn.y0 (by have := Hokv.out.inn.y1; have := Hok.out.1.ok.h2; omega)).mono ?_
      rintro e w6 ⟨rfl, hb6⟩
      have HX6 : Hid (RtAt w w6 gl s.sp M P D base bo bm g2 cap kn (popR o)) := HX.out.below hb6
      have HbX6 : Hid (w6.heap[X]? = some (.cells (wyArr v) 237)) := (hb6.block X zX).trans HbX.out
      have e1 := hb6.cells (b := M) zM
      have e2 := hb6.cells (b := X) zX
      have e3 := hb6.cells (b := P) zP
      simp only [← e1] at m0 m1 m2 m3 m4 m5 m6 m7
      simp only [← e2] at q0 q1 q2 q3 q4 q5 q6 q7 q8 q9
      simp only [← e3] at s3 s4 s5 s6 s7
      have z6 : wX.heap.size ≤ w6.heap.size := hb6.size
      clear hb6 e1 e2 e3 HX HbX
      cases hat : gl.isAt v.e with
      | true =>
        have Hout : Hid (routeL s gl = outW s gl v) := by
          have := HI.out.2.2.1
          rw [routeF, Hv.out, if_pos hat] at this
          exact this.symm
        have hk1 := Hokv.out.k
        have hk2 : v.b.length ≤ 1000 := by have := Hokv.out.len; have := place_len x1 y1; omega
        have t1 := str_take v.b v.k hk1
        have t2 := str_drop v.b v.k hk1
        obtain ⟨A, hA⟩ : ∃ A, v.b.take v.k = A := ⟨_, rfl⟩
        obtain ⟨C, hC⟩ : ∃ C, v.b.drop v.k = C := ⟨_, rfl⟩
        obtain ⟨B, hB⟩ : ∃ B, penL s.pen gl.pen = B := ⟨_, rfl⟩
        have HABC : Hid (routeL s gl = A ++ B ++ C ∧ penL s.pen gl.pen = B) := ⟨by rw [Hout.out, ← hA, ← hB, ← hC]; rfl, hB⟩
        have hlA : A.length ≤ 1000 := by rw [← hA, List.length_take]; omega
        have hlC : C.length ≤ 1000 := by rw [← hC, List.length_drop]; omega
        have hlB : B.length ≤ 20 := by rw [← hB]; exact penL_len _ Hok.out.2.pen
        rw [hA] at t1
        rw [hC] at t2
        have hb1 : (({ data := A.toArray } : ByteArray) ++ { data := B.toArray }) = { data := (A ++ B).toArray } := bytes_app _ _
        have hb2 : (({ data := (A ++ B).toArray } : ByteArray) ++ { data := C.toArray }) = { data := (A ++ B ++ C).toArray } := bytes_app _ _
        have hs1 : (({ data := A.toArray } : ByteArray).size + ({ data := B.toArray } : ByteArray).size) ≤ 2000 := by show A.length + B.length ≤ 2000; omega
        have hs2 : (({ data := (A ++ B).toArray } : ByteArray).size + ({ data := C.toArray } : ByteArray).size) ≤ 3000 := by show (A ++ B).length + C.length ≤ 3000; rw [List.length_append]; omega
        have hn1 : ¬ (9223372036854775807 < (({ data := A.toArray } : ByteArray).size + ({ data := B.toArray } : ByteArray).size)) := by omega
        have hn2 : ¬ (9223372036854775807 < (({ data := (A ++ B).toArray } : ByteArray).size + ({ data := C.toArray } : ByteArray).size)) := by omega
        have ha1 : ∀ w, Sem.run Tryz.prog (Op.stringOp .add ⟨A.toArray⟩ ⟨B.toArray⟩) w = .ok (.string ⟨(A ++ B).toArray⟩) w := fun w => by rw [run_string_add_sum w _ _ (by omega), hb1]
        have ha2 : ∀ w, Sem.run Tryz.prog (Op.stringOp .add ⟨(A ++ B).toArray⟩ ⟨C.toArray⟩) w = .ok (.string ⟨(A ++ B ++ C).toArray⟩) w := fun w => by rw [run_string_add_sum w _ _ (by omega), hb2]
        generalize A ++ B ++ C = AC at HABC hb2 ha2
        generalize A ++ B = AB at hb1 hb2 hs2 hn2 ha1 ha2
        clear hA hB hC hlA hlB hlC hk1 hk2 hs1 hs2
        go_wp2_with fail
        go_region_held3 (fun w' => w'.cell? ⟨M, 2, none⟩ = some (.int .i64 gl.pen.f) ∧ w'.cell? ⟨M, 3, none⟩ = some (.int .i64 gl.pen.b) ∧ w'.cell? ⟨M, 4, none⟩ = some (.bool gl.pen.bo) ∧ w'.cell? ⟨M, 5, none⟩ = some (.bool gl.pen.un) ∧ w'.cell? ⟨M, 6, none⟩ = some (.bool gl.pen.re) ∧ w'.cell? ⟨P, 3, none⟩ = some (.int .i64 s.pen.f) ∧ w'.cell? ⟨P, 4, none⟩ = some (.int .i64 s.pen.b) ∧ w'.cell? ⟨P, 5, none⟩ = some (.bool s.pen.bo) ∧ w'.cell? ⟨P, 6, none⟩ = some (.bool s.pen.un) ∧ w'.cell? ⟨P, 7, none⟩ = some (.bool s.pen.re) ∧ w'.cell? ⟨X, 0, none⟩ = some (.string ⟨v.b.toArray⟩) ∧ w'.cell? ⟨X, 1, none⟩ = some (.int .i64 v.k)) (simp [*]) (first | (go_at_call 199; refine (qPenChange s.pen gl.pen _ Hok.out.2.pen).mono ?_; rintro e w7 ⟨rfl, hb7⟩; rw [HABC.out.2]; have hb8 := below_drew' hb7; have e4 := hb8.cells (b := M) (by omega); have e5 := hb8.cells (b := P) (by omega); have e6 := hb8.cells (b := X) (by omega); have HB8 : Hid (Below w6.heap.size w6 w7) := hb8; clear hb7 hb8))
        go_wp2_with fail
        go_ret
        exact ⟨by rw [HABC.out.1]; rfl, HX6.out.bel.trans (HB8.out.mono HX6.out.bel.size)⟩
      | false =>
        clear s3 s4 s5 s6 s7
        have hfit : v.e.Fits := onWay_fits Hok.out.1 Hok.out.2 ⟨Hokv.out.inn, Hokv.out.pen⟩
        have Hkf : Hid ((∀ q ∈ kn, q.Fits) ∧ v.e.Fits) := ⟨fun q hq => onWay_fits Hok.out.1 Hok.out.2 (HI.out.1.kn q hq), hfit⟩
        have HKY : Hid (keyOf Tryz.prog 235 v.e.agg = some (spKey v.e)) := keyOf_spot hfit
        clear hfit
        have Hat : Hid (gl.isAt v.e = false) := hat
        cases hkb : knownB kn v.e with
        | true =>
          have Hkb : Hid (knownB kn v.e = true) := hkb
          go_upto_region 9 with fail
          go_wp2_with (at_lookup; refine wpList_lookup_own_unit _ rfl _ _ 241 rfl 235 244 spot_law Tryz.underlying241 (unit_zero _) bm kn.length (spSet kn) rfl HX6.out.set _ (spKey v.e) rfl HKY.out ?_; rw [spSet_has Hkf.out.1 Hkf.out.2, Hkb.out])
          go_roundg k
          case measure => omega
          case rel =>
            have a := HI.out.1.known (by rw [Hv.out]; exact Hat.out)
            have b := HI.out.2.2.1
            rw [routeF, Hv.out, if_neg (by rw [Hat.out]; decide), if_pos Hkb.out] at b
            exact ⟨by omega, g2, cap, kn, popR o, HX6.out.below ((Below.refl _ _).alloc (Nat.le_refl _) _), a.1, by have := a.2; have := HI.out.2.1; omega, b⟩
        | false =>
          have Hkb : Hid (knownB kn v.e = false) := hkb
          go_upto_region 9 with fail
          go_upto_region 11 with (at_lookup; refine wpList_lookup_own_unit _ rfl _ _ 241 rfl 235 244 spot_law Tryz.underlying241 (unit_zero _) bm kn.length (spSet kn) rfl HX6.out.set _ (spKey v.e) rfl HKY.out ?_; rw [spSet_has Hkf.out.1 Hkf.out.2, Hkb.out])
          obtain ⟨w7, hw7⟩ : ∃ w7, w6.alloc (.cells #[] 244) = w7 := ⟨_, rfl⟩
          have b7 : Below w6.heap.size w6 w7 := hw7 ▸ (Below.refl _ _).alloc (Nat.le_refl _) _
          rw [hw7]
          have H7 : Hid (RtAt w w7 gl s.sp M P D base bo bm g2 cap kn (popR o)) := HX6.out.below b7
          have HbX7 : Hid (w7.heap[X]? = some (.cells (wyArr v) 237)) := (b7.block X (by omega)).trans HbX6.out
          have e1 := b7.cells (b := M) (by omega)
          have e2 := b7.cells (b := X) (by omega)
          simp only [← e1] at m0 m1 m2 m3 m4 m5 m6 m7
          simp only [← e2] at q0 q1 q2 q3 q4 q5 q6 q7 q8 q9
          have z7 : w6.heap.size ≤ w7.heap.size := b7.size
          clear b7 hw7 e1 e2 HX6 HbX6
          have hnl : kn.length < maxLen := by have := kn_len HI.out.1.nd HI.out.1.kn; have := routeN_le Hok.out.1.ok; unfold routeN at this; unfold maxLen; omega
          have Hnl : Hid (kn.length < maxLen) := hnl
          clear hnl
          go_upto_region 12 with (at_mapUpdate; refine wpList_mapUpdate_own _ rfl _ _ _ 241 rfl 235 244 spot_law Tryz.underlying241 _ bm kn.length (spSet kn) rfl H7.out.set Hnl.out _ _ (spKey v.e) rfl rfl HKY.out (.agg []) [] unitElem_mk ?_; intro w8 hown8 hgrow8)
          have H8 : Hid (RtAt w w8 gl s.sp M P D base bo bm g2 cap (kn ++ [v.e]) (popR o)) := H7.out.known hgrow8 hown8
          have k8 : Keep (fun i => i = bm) w7 w8 := Keep.grown (Keep.refl _ w7) hgrow8 (fun i e _ => by injection e with e; exact e.symm)
          have b8 : w8.heap[X]? = some (.cells (wyArr v) 237) := (k8.block X (by omega) (by omega)).trans HbX7.out
          have HbX8 : Hid (w8.heap[X]? = some (.cells (wyArr v) 237)) := b8
          have z8 : w7.heap.size ≤ w8.heap.size := k8.size
          clear hown8 hgrow8 k8 H7 HbX7
          clear q0 q1 q2 q3 q4 q5 q6 q7 q8 q9 m0 m1 m2 m3 m4 m5 m6 m7
          have q2 : w8.cell? ⟨X, 2, none⟩ = some (.int .i64 v.e.x) := cell_of_block b8 2
          have q3 : w8.cell? ⟨X, 3, none⟩ = some (.int .i64 v.e.y) := cell_of_block b8 3
          have q4 : w8.cell? ⟨X, 4, none⟩ = some (.bool v.e.pend) := cell_of_block b8 4
          have q5 : w8.cell? ⟨X, 5, none⟩ = some (.int .i64 v.e.pen.f) := cell_of_block b8 5
          have q6 : w8.cell? ⟨X, 6, none⟩ = some (.int .i64 v.e.pen.b) := cell_of_block b8 6
          have q7 : w8.cell? ⟨X, 7, none⟩ = some (.bool v.e.pen.bo) := cell_of_block b8 7
          have q8 : w8.cell? ⟨X, 8, none⟩ = some (.bool v.e.pen.un) := cell_of_block b8 8
          have q9 : w8.cell? ⟨X, 9, none⟩ = some (.bool v.e.pen.re) := cell_of_block b8 9
          have m0 : w8.cell? ⟨M, 0, none⟩ = some (.int .i64 gl.x) := cell_of_block H8.out.hM 0
          have m1 : w8.cell? ⟨M, 1, none⟩ = some (.int .i64 gl.y) := cell_of_block H8.out.hM 1
          have m2 : w8.cell? ⟨M, 2, none⟩ = some (.int .i64 gl.pen.f) := cell_of_block H8.out.hM 2
          have m3 : w8.cell? ⟨M, 3, none⟩ = some (.int .i64 gl.pen.b) := cell_of_block H8.out.hM 3
          have m4 : w8.cell? ⟨M, 4, none⟩ = some (.bool gl.pen.bo) := cell_of_block H8.out.hM 4
          have m5 : w8.cell? ⟨M, 5, none⟩ = some (.bool gl.pen.un) := cell_of_block H8.out.hM 5
          have m6 : w8.cell? ⟨M, 6, none⟩ = some (.bool gl.pen.re) := cell_of_block H8.out.hM 6
          have m7 : w8.cell? ⟨M, 7, none⟩ = some (.bool gl.letter) := cell_of_block H8.out.hM 7
          clear b8
          go_wp2_with fail
          go_at_call 225
          refine (qSteps bs bg g N s t v.e gl w8 (HP.out.below H8.out.bel) Hok.out.1.ok Hokv.out.inn Hok.out.2).mono ?_
          rintro e w9 ⟨vS, rfl, hr9, hb9⟩
          have hlen := steps_len s v.e gl
          have hlen1 : 1 ≤ (stepsW s v.e gl).length := by unfold stepsW; simp
          obtain ⟨L, hL⟩ : ∃ L, stepsW s v.e gl = L := ⟨_, rfl⟩
          have HL : Hid (stepsW s v.e gl = L) := hL
          rw [hL] at hr9 hlen hlen1
          obtain ⟨gs, capS, rfl⟩ := row_slice hr9 hlen1
          have H9 : Hid (RtAt w w9 gl s.sp M P D base bo bm g2 cap (kn ++ [v.e]) (popR o)) := H8.out.below hb9
          have HbX9 : Hid (w9.heap[X]? = some (.cells (wyArr v) 237)) := (hb9.block X (by omega)).trans HbX8.out
          have HW9 : Hid (WRow w9 w8.heap.size gs L.length capS L) := hr9
          have hgs := hr9.lt gs rfl
          have z9 : w8.heap.size ≤ w9.heap.size := hb9.size
          clear hL hr9 hb9 H8 HbX8 q2 q3 q4 q5 q6 q7 q8 q9 m0 m1 m2 m3 m4 m5 m6 m7
          go_wp2_with fail
          have Hsh : Hid (∀ st ∈ L, st.b.length ≤ 100) := by
            show ∀ st ∈ L, st.b.length ≤ 100
            rw [← HL.out]; exact steps_short Hok.out.1.ok Hokv.out.inn Hok.out.2
          have hvl : v.b.length ≤ 1000 := by have := Hokv.out.len; have := place_len x1 y1; omega
          go_loopw [89] (fun vi wi => ∃ (j g3 cap3 : Nat), vi = .int .i64 j ∧ j ≤ L.length ∧ RtAt w wi gl s.sp M P D base bo bm g3 cap3 (kn ++ [v.e]) (pushAll (placeL gl.x gl.y).length v (L.take j) (popR o)) ∧ WRow wi w8.heap.size gs L.length capS L ∧ wi.heap[X]? = some (.cells (wyArr v) 237) ∧ X ≠ g3 ∧ gs ≠ g3 ∧ w9.heap.size ≤ wi.heap.size) (fun vi _ => L.length - (intOf vi).toNat)
          case atStart => exact ⟨0, g2, cap, rfl, Nat.zero_le _, H9.out, HW9.out, HbX9.out, by omega, by omega, Nat.le_refl _⟩
          case round =>
            obtain ⟨j, g3, cap3, rfl, hj, hR2, hW2, hX2, n1, n2, z2⟩ := hrel
            have HR2 : Hid (RtAt w wr gl s.sp M P D base bo bm g3 cap3 (kn ++ [v.e]) (pushAll (placeL gl.x gl.y).length v (L.take j) (popR o))) := hR2
            have HW2 : Hid (WRow wr w8.heap.size gs L.length capS L) := hW2
            have HX2 : Hid (wr.heap[X]? = some (.cells (wyArr v) 237)) := hX2
            clear hR2 hX2 H9 HW9 HbX9
            by_cases hc : j < L.length
            · have hc' : (j : Int) < (L.length : Int) := by omega
              obtain ⟨c0, c1, c2, c3, c4, c5, c6, c7, c8, c9⟩ := wcells (wrow_range hW2 hc)
              have hul : (gW L j).b.length ≤ 100 := Hsh.out _ (by rw [gW_get hc]; exact List.getElem_mem hc)
              obtain ⟨u, hu⟩ : ∃ u, gW L j = u := ⟨_, rfl⟩
              have Hu : Hid (gW L j = u) := hu
              rw [hu] at c0 c1 c2 c3 c4 c5 c6 c7 c8 c9 hul
              clear hW2 hu
              go_upto_region 15 with fail
              have hZ : ∃ w10 Z, wr.alloc (.cells (wyArr u) 237) = w10 ∧ wr.heap.size = Z ∧ Below wr.heap.size wr w10 ∧ w10.heap[Z]? = some (.cells (wyArr u) 237) ∧ w10.heap.size = Z + 1 := ⟨_, _, rfl, rfl, (Below.refl _ _).alloc (Nat.le_refl _) _, heap_new _ _, by simp⟩
              obtain ⟨w10, Z, hw10, hZe, b10, hy, zZ⟩ := hZ
              simp only [wyArr] at hw10
              rw [hw10, hZe]
              have hx : w10.heap[X]? = some (.cells (wyArr v) 237) := (b10.block X (by omega)).trans HX2.out
              have HB10 : Hid (Below wr.heap.size wr w10) := b10
              have x0 : w10.cell? ⟨X, 0, none⟩ = some (.string ⟨v.b.toArray⟩) := cell_of_block hx 0
              have x1 : w10.cell? ⟨X, 1, none⟩ = some (.int .i64 v.k) := cell_of_block hx 1
              have x2 : w10.cell? ⟨X, 2, none⟩ = some (.int .i64 v.e.x) := cell_of_block hx 2
              have x3 : w10.cell? ⟨X, 3, none⟩ = some (.int .i64 v.e.y) := cell_of_block hx 3
              have x4 : w10.cell? ⟨X, 4, none⟩ = some (.bool v.e.pend) := cell_of_block hx 4
              have x5 : w10.cell? ⟨X, 5, none⟩ = some (.int .i64 v.e.pen.f) := cell_of_block hx 5
              have x6 : w10.cell? ⟨X, 6, none⟩ = some (.int .i64 v.e.pen.b) := cell_of_block hx 6
              have x7 : w10.cell? ⟨X, 7, none⟩ = some (.bool v.e.pen.bo) := cell_of_block hx 7
              have x8 : w10.cell? ⟨X, 8, none⟩ = some (.bool v.e.pen.un) := cell_of_block hx 8
              have x9 : w10.cell? ⟨X, 9, none⟩ = some (.bool v.e.pen.re) := cell_of_block hx 9
              have y0 : w10.cell? ⟨Z, 0, none⟩ = some (.string ⟨u.b.toArray⟩) := cell_of_block hy 0
              have y1 : w10.cell? ⟨Z, 1, none⟩ = some (.int .i64 u.k) := cell_of_block hy 1
              have y2 : w10.cell? ⟨Z, 2, none⟩ = some (.int .i64 u.e.x) := cell_of_block hy 2
              have y3 : w10.cell? ⟨Z, 3, none⟩ = some (.int .i64 u.e.y) := cell_of_block hy 3
              have y4 : w10.cell? ⟨Z, 4, none⟩ = some (.bool u.e.pend) := cell_of_block hy 4
              have y5 : w10.cell? ⟨Z, 5, none⟩ = some (.int .i64 u.e.pen.f) := cell_of_block hy 5
              have y6 : w10.cell? ⟨Z, 6, none⟩ = some (.int .i64 u.e.pen.b) := cell_of_block hy 6
              have y7 : w10.cell? ⟨Z, 7, none⟩ = some (.bool u.e.pen.bo) := cell_of_block hy 7
              have y8 : w10.cell? ⟨Z, 8, none⟩ = some (.bool u.e.pen.un) := cell_of_block hy 8
              have y9 : w10.cell? ⟨Z, 9, none⟩ = some (.bool u.e.pen.re) := cell_of_block hy 9
              clear hw10 hx hy b10 c0 c1 c2 c3 c4 c5 c6 c7 c8 c9
              go_wp2_with fail
              go_at_call 226
              refine (qThen v u w10 hvl (by omega)).mono ?_
              rintro e w11 ⟨rfl, hb11⟩
              have HB11 : Hid (Below wr.heap.size wr w11) := HB10.out.trans (hb11.mono (by omega))
              have z11 : w10.heap.size ≤ w11.heap.size := hb11.size
              obtain ⟨y, hy⟩ : ∃ y, thenW v u = y := ⟨_, rfl⟩
              have Hy : Hid (thenW v u = y) := hy
              rw [hy]
              clear hb11 hy x0 x1 x2 x3 x4 x5 x6 x7 x8 x9 y0 y1 y2 y3 y4 y5 y6 y7 y8 y9
              go_upto_region 16 with fail
              have hY : ∃ w12 Y, w11.alloc (.cells (wyArr y) 237) = w12 ∧ w11.heap.size = Y ∧ Below wr.heap.size wr w12 ∧ w12.heap[Y]? = some (.cells (wyArr y) 237) ∧ w11.heap.size ≤ w12.heap.size := ⟨_, _, rfl, rfl, HB11.out.alloc HB11.out.size _, heap_new _ _, by simp⟩
              obtain ⟨w12, Y, hw12, hYe, b12, hx, z12⟩ := hY
              simp only [wyArr] at hw12
              rw [hw12, hYe]
              have H12 : Hid (RtAt w w12 gl s.sp M P D base bo bm g3 cap3 (kn ++ [v.e]) (pushAll (placeL gl.x gl.y).length v (L.take j) (popR o))) := HR2.out.below b12
              have HB12 : Hid (Below wr.heap.size wr w12) := b12
              have x0 : w12.cell? ⟨Y, 0, none⟩ = some (.string ⟨y.b.toArray⟩) := cell_of_block hx 0
              have x1 : w12.cell? ⟨Y, 1, none⟩ = some (.int .i64 y.k) := cell_of_block hx 1
              have x2 : w12.cell? ⟨Y, 2, none⟩ = some (.int .i64 y.e.x) := cell_of_block hx 2
              have x3 : w12.cell? ⟨Y, 3, none⟩ = some (.int .i64 y.e.y) := cell_of_block hx 3
              have x4 : w12.cell? ⟨Y, 4, none⟩ = some (.bool y.e.pend) := cell_of_block hx 4
              have x5 : w12.cell? ⟨Y, 5, none⟩ = some (.int .i64 y.e.pen.f) := cell_of_block hx 5
              have x6 : w12.cell? ⟨Y, 6, none⟩ = some (.int .i64 y.e.pen.b) := cell_of_block hx 6
              have x7 : w12.cell? ⟨Y, 7, none⟩ = some (.bool y.e.pen.bo) := cell_of_block hx 7
              have x8 : w12.cell? ⟨Y, 8, none⟩ = some (.bool y.e.pen.un) := cell_of_block hx 8
              have x9 : w12.cell? ⟨Y, 9, none⟩ = some (.bool y.e.pen.re) := cell_of_block hx 9
              obtain ⟨pl, hpl⟩ : ∃ pl, placeL gl.x gl.y = pl := ⟨_, rfl⟩
              have Hpl : Hid (placeL gl.x gl.y = pl) := hpl
              have d0 : w12.cell? ⟨D, 0, none⟩ = some (.string ⟨pl.toArray⟩) := by rw [← hpl]; exact cell_of_block H12.out.hD 0
              have e1 : ((({ data := y.b.toArray } : ByteArray).size : Nat) : Int) = (y.b.length : Int) := rfl
              have e2 : ((({ data := pl.toArray } : ByteArray).size : Nat) : Int) = (pl.length : Int) := rfl
              have zr : wr.heap.size ≤ w12.heap.size := HB12.out.size
              clear hw12 hx b12 hpl HB10 HB11 hZe
              have hlp : (pushAll (placeL gl.x gl.y).length v (L.take j) (popR o)).length < 100000 := by
                have a := pushAll_len (n := (placeL gl.x gl.y).length) (w := v) (L.take j) (popR o)
                have b := popR_len HI.out.2.2.2
                rw [List.length_take] at a
                omega
              have Hlp : Hid ((pushAll (placeL gl.x gl.y).length v (L.take j) (popR o)).length < 100000) := hlp
              clear hlp
              by_cases hyl : y.b.length < pl.length
              · have hyl' : (y.b.length : Int) < (pl.length : Int) := by omega
                go_wp2_with fail
                go_at_call 227
                refine (qHPush bo base g3 cap3 _ y w12 H12.out.hp Hlp.out).mono ?_
                rintro e w13 ⟨g4, cap4, rfl, h13, k13, og⟩
                have H13 : Hid (RtAt w w13 gl s.sp M P D base bo bm g4 cap4 (kn ++ [v.e]) (pushAll (placeL gl.x gl.y).length v (L.take (j + 1)) (popR o))) := by
                  show RtAt w w13 gl s.sp M P D base bo bm g4 cap4 (kn ++ [v.e]) (pushAll (placeL gl.x gl.y).length v (L.take (j + 1)) (popR o))
                  rw [pushAll_snoc _ hc, Hu.out, Hy.out, if_pos (by rw [Hpl.out]; exact hyl)]
                  exact H12.out.pushed h13 k13 og
                have HW13 : Hid (WRow w13 w8.heap.size gs L.length capS L) := orow_same HW2.out (fun i e => by
                  have e : gs = i := by injection e
                  rw [← e]
                  exact (k13.block gs (by omega) (by omega)).trans (HB12.out.block gs (by omega)))
                have HX13 : Hid (w13.heap[X]? = some (.cells (wyArr v) 237)) := (k13.block X (by omega) (by omega)).trans ((HB12.out.block X (by omega)).trans HX2.out)
                have z13 : w12.heap.size ≤ w13.heap.size := k13.size
                have n3 : X ≠ g4 ∧ gs ≠ g4 := by omega
                clear h13 k13 og x0 x1 x2 x3 x4 x5 x6 x7 x8 x9 d0
                go_wp2_with fail
                go_roundw
                case rel => exact ⟨j + 1, g4, cap4, by go_num, by omega, H13.out, HW13.out, HX13.out, n3.1, n3.2, by omega⟩
                case measure => simp [intOf]; omega
              · have hyl' : ¬ ((y.b.length : Int) < (pl.length : Int)) := by omega
                go_wp2_with fail
                have H13 : Hid (RtAt w w12 gl s.sp M P D base bo bm g3 cap3 (kn ++ [v.e]) (pushAll (placeL gl.x gl.y).length v (L.take (j + 1)) (popR o))) := by
                  show RtAt w w12 gl s.sp M P D base bo bm g3 cap3 (kn ++ [v.e]) (pushAll (placeL gl.x gl.y).length v (L.take (j + 1)) (popR o))
                  rw [pushAll_snoc _ hc, Hu.out, Hy.out, if_neg (by rw [Hpl.out]; exact hyl)]
                  exact H12.out
                have HW13 : Hid (WRow w12 w8.heap.size gs L.length capS L) := orow_same HW2.out (fun i e => by
                  have e : gs = i := by injection e
                  rw [← e]
                  exact HB12.out.block gs (by omega))
                go_roundw
                case rel => exact ⟨j + 1, g3, cap3, by go_num, by omega, H13.out, HW13.out, (HB12.out.block X (by omega)).trans HX2.out, n1, n2, by omega⟩
                case measure => simp [intOf]; omega
            · have ej : j = L.length := by omega
              have Hej : Hid (j = L.length) := ej
              clear hW2
              have hcn : ¬ ((j : Int) < (L.length : Int)) := by omega
              clear ej
              go_wp2_with fail
              go_roundg k
              case measure => omega
              case rel =>
                have hat2 : gl.isAt (popW o).e = false := by rw [Hv.out]; exact Hat.out
                have a := RtInv.fresh Hok.out.1 Hok.out.2 HI.out.1 hat2 (by rw [Hv.out]; exact Hkb.out)
                have b := HI.out.2.2.1
                rw [routeF, if_neg (by rw [hat2]; decide), if_neg (by rw [Hv.out, Hkb.out]; decide)] at b
                have c := HR2.out
                rw [Hej.out, List.take_length, ← HL.out] at c
                rw [Hv.out] at a b
                exact ⟨by omega, g3, cap3, kn ++ [v.e], _, c, a.1, by have := a.2; have := HI.out.2.1; omega, b⟩
end Go.Proofs.YtjlfibhbfdckpaaGreatDoor

/- Flush: alike: how many cells are like the first. -/
namespace Go.Proofs.YtjlfibhbfdckpaaGreatDoor
open Go.RowKit
attribute [local go_sem ↓] Go.wp_at_zero Go.wp_at_succ
theorem cel_eql (a b : Cel) (w : World) : (binOp .eql 38 a.agg b.agg).run Tryz.prog w = .ok (.bool (a.eqB b)) w := by
  obtain ⟨r, p, ⟨f, n, bo, un, re⟩⟩ := a
  obtain ⟨r', p', ⟨f', n', bo', un', re'⟩⟩ := b
  go_simp
  unfold Cel.eqB Pn.eqB
  by_cases h1 : r = r'
  · by_cases h2 : p = p'
    · by_cases h3 : f = f'
      · by_cases h4 : n = n'
        · by_cases h5 : bo = bo'
          · by_cases h6 : un = un'
            · by_cases h7 : re = re'
              · simp [h1, h2, h3, h4, h5, h6, h7]
              · simp [h1, h2, h3, h4, h5, h6, h7]
            · simp [h1, h2, h3, h4, h5, h6]
          · simp [h1, h2, h3, h4, h5]
        · simp [h1, h2, h3, h4]
      · simp [h1, h2, h3]
    · simp [h1, h2]
  · simp [h1]
theorem drewN_two (w : World) (a b : Nat) : ∃ q, (w.drewN a).drewN b = w.drewN q := ⟨a + b, by simp [World.drewN, Nat.add_assoc]⟩
theorem run_step {p : Nat → Bool} {n k : Nat} (hk : k < n) (hp : p k = true) (h : runN p n 0 = k + runN p (n - k) k) : runN p n 0 = (k + 1) + runN p (n - (k + 1)) (k + 1) := by
  obtain ⟨m, rfl⟩ : ∃ m, n = k + 1 + m := ⟨n - (k + 1), by omega⟩
  have e1 : k + 1 + m - k = m + 1 := by omega
  have e2 : k + 1 + m - (k + 1) = m := by omega
  rw [h, e1, e2, runN, if_pos hp]
  omega
theorem run_stop {p : Nat → Bool} {n k : Nat} (hk : k < n) (hp : p k = false) (h : runN p n 0 = k + runN p (n - k) k) : runN p n 0 = k := by
  obtain ⟨m, rfl⟩ : ∃ m, n = k + 1 + m := ⟨n - (k + 1), by omega⟩
  have e1 : k + 1 + m - k = m + 1 := by omega
  rw [h, e1, runN, if_neg (by rw [hp]; decide)]
  rfl
set_option maxHeartbeats 4000000 in
theorem qAlike (g off n cap : Nat) (c : Nat → Cel) (w : World) (h : ∀ i, i < n → CelAt w g (off + i * 7) (c i)) (hn : n ≤ 100000) :
    Calls Tryz.prog 219 #[.slice (some ⟨g, off, none⟩) n cap] w fun e w' => e = .returned (.int .i64 (runN (fun i => (c i).eqB (c 0)) n 0 : Nat)) ∧ ∃ q, w' = w.drewN q := by
  have HH : Hid (∀ i, i < n → CelAt w g (off + i * 7) (c i)) := h
  clear h
  go_enter Tryz.func219, Tryz.ntmps219
  go_wp2_with fail
  go_loopw [3] (fun vi wr => ∃ k : Nat, vi = .int .i64 k ∧ k ≤ n ∧ runN (fun i => (c i).eqB (c 0)) n 0 = k + runN (fun i => (c i).eqB (c 0)) (n - k) k ∧ ∃ q, wr = w.drewN q) (fun vi _ => n - (intOf vi).toNat)
  case atStart => exact ⟨0, rfl, Nat.zero_le _, by simp, 0, rfl⟩
  case round =>
    obtain ⟨k, rfl, hk, hr, q, rfl⟩ := hrel
    have Hr : Hid (runN (fun i => (c i).eqB (c 0)) n 0 = k + runN (fun i => (c i).eqB (c 0)) (n - k) k) := hr
    clear hr
    by_cases hc : k < n
    · have hc' : (k : Int) < (n : Int) := by omega
      have hn0 : (0 : Int) < (n : Int) := by omega
      obtain ⟨a0, a1, a2, a3, a4, a5, a6⟩ := HH.out 0 (by omega)
      obtain ⟨b0, b1, b2, b3, b4, b5, b6⟩ := HH.out k hc
      have heq := fun w => cel_eql (c k) (c 0) w
      simp only [Nat.zero_mul, Nat.add_zero] at a0 a1 a2 a3 a4 a5 a6
      cases he : (c k).eqB (c 0) with
      | true =>
        have He : Hid ((c k).eqB (c 0) = true) := he
        simp only [he] at heq
        clear he
        go_wp2_with fail
        go_quiet (fail)
        go_wp2_with fail
        go_roundw
        case rel => exact ⟨k + 1, by go_num, by omega, run_step hc He.out Hr.out, _, rfl⟩
        case measure => simp [intOf]; omega
      | false =>
        have He : Hid ((c k).eqB (c 0) = false) := he
        simp only [he] at heq
        clear he
        go_wp2_with fail
        go_quiet (fail)
        go_wp2_with fail
        go_ret
        exact ⟨by rw [run_stop hc He.out Hr.out]; rfl, drewN_two _ _ _⟩
    · have ek : k = n := by omega
      have Hek : Hid (k = n) := ek
      have hc' : ¬ ((k : Int) < (n : Int)) := by omega
      clear ek
      go_wp2_with fail
      go_quiet (fail)
      go_wp2_with fail
      go_ret
      refine ⟨?_, drewN_two _ _ _⟩
      have e := Hr.out
      rw [Hek.out, Nat.sub_self, runN, Nat.add_zero] at e
      rw [e]
      exact congrArg (fun x : Nat => Ending.returned (.int .i64 x)) Hek.out
end Go.Proofs.YtjlfibhbfdckpaaGreatDoor
