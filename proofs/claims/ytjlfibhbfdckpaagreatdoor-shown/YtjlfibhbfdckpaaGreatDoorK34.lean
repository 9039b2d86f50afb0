/- Texts of the proof, one behind the other: FwZ, FxE. -/
import Derived.Test.YtjlfibhbfdckpaaGreatDoorK32
import Derived.Test.YtjlfibhbfdckpaaGreatDoorK33
/- Flush: erasure. -/
namespace Go.Proofs.YtjlfibhbfdckpaaGreatDoor
open Go.RowKit
attribute [local go_sem ↓] Go.wp_at_zero Go.wp_at_succ
theorem run_shift (p : Nat → Bool) (x : Nat) : ∀ m k, runN (fun i => p (x + i)) m k = runN p m (x + k) := by
  intro m
  induction m with
  | zero => intro k; rfl
  | succ m ih =>
    intro k
    rw [runN, runN, ih (k + 1)]
    rfl
theorem alike_shift (P : Nat → Nat → Cel) (W x y : Nat) : runN (fun i => (P (x + i) y).eqB (P (x + 0) y)) (W - x) 0 = alikeN P W x y := run_shift (fun i => (P i y).eqB (P x y)) x (W - x) 0
theorem alike_two (P : Nat → Nat → Cel) {W x y : Nat} (hx : x < W) : 1 ≤ alikeN P W x y ∧ alikeN P W x y ≤ W - x := by
  refine ⟨?_, run_le _ _ _⟩
  obtain ⟨m, hm⟩ : ∃ m, W - x = m + 1 := ⟨W - x - 1, by omega⟩
  unfold alikeN
  rw [hm, runN, if_pos (Cel.eqB_iff.2 rfl)]
  omega
set_option maxHeartbeats 4000000 in
set_option maxRecDepth 100000 in
theorem qErasure (bp po pc : Nat) (lb lc : Nat → Nat) (H : Nat) (P : Nat → Nat → Cel) (bs bg g N : Nat) (s : Rs) (t : Pt) (x y : Nat) (w : World) (h : PtM w bp po pc lb lc H P bs bg g N s t) (ok : s.Ok) (hx : x < s.W) (hy : y < s.H) :
    Calls Tryz.prog 202 #[.pointer (some ⟨bp, 0, none⟩), .int .i64 x, .int .i64 y] w fun e w' => e = .returned (bstr (erasureL s P x y)) ∧ Below w.heap.size w w' := by
  have HH : Hid (PtM w bp po pc lb lc H P bs bg g N s t) := h
  have hyH : y < H := by rw [h.hs]; exact hy
  have c0 := h.c0
  have r0 := h.pic.row y hyH
  obtain ⟨a0, a1, a2, a3, a4, a5, a6⟩ := h.pic.cel y x hyH hx
  have hy' : (y : Int) < (H : Int) := by omega
  have hx' : (x : Int) < (s.W : Int) := by omega
  have w2 := ok.w2
  have w1 := ok.w1
  have hh2 := ok.h2
  obtain ⟨M, hM⟩ : ∃ M, w.heap.size = M := ⟨_, rfl⟩
  have HM : Hid (w.heap.size = M) := hM
  clear h
  go_enter Tryz.func202, Tryz.ntmps202
  go_upto_region 3 with fail
  have hA : ∃ wA, w.alloc (.cells #[.int .i32 (P x y).r, .int .i64 (P x y).p, .int .i64 (P x y).n.f, .int .i64 (P x y).n.b, .bool (P x y).n.bo, .bool (P x y).n.un, .bool (P x y).n.re] 38) = wA ∧ Below w.heap.size w wA ∧ CelAt wA M 0 (P x y) ∧ wA.heap.size = M + 1 := by
    subst hM
    exact ⟨_, rfl, (Below.refl _ _).alloc (Nat.le_refl _) _, cel_new' w (P x y) (P x y).p rfl _, by simp⟩
  obtain ⟨wA, hwA, belA, cA, zA⟩ := hA
  rw [hwA]
  obtain ⟨b0, b1, b2, b3, b4, b5, b6⟩ := cA
  have HA : Hid (PtM wA bp po pc lb lc H P bs bg g N s t ∧ Below w.heap.size w wA) := ⟨HH.out.below belA, belA⟩
  have HcA : Hid (CelAt wA M 0 (P x y)) := ⟨b0, b1, b2, b3, b4, b5, b6⟩
  simp only [Nat.zero_add] at b0 b1 b2 b3 b4 b5 b6
  have hne := fun w => cel_neq (P x y) (backC (P x y)) w
  obtain ⟨bk, hbk⟩ : ∃ bk, backC (P x y) = bk := ⟨_, rfl⟩
  have HBK : Hid (blk (⟨0, (P x y).n.b, false, false, false⟩ : Pn) = bk) := hbk
  rw [hbk] at hne
  have Hbk : Hid (backC (P x y) = bk) := hbk
  clear hbk
  have zM : M < wA.heap.size := by omega
  clear hwA belA HH c0 r0 a0 a1 a2 a3 a4 a5 a6
  cases he : (P x y).eqB bk with
  | false =>
    have He : Hid (erasureL s P x y = []) := by
      show _ = _
      unfold erasureL
      rw [if_pos (by rw [Hbk.out]; exact he)]
    simp only [he, Bool.not_false] at hne
    clear he
    go_region_held3 (fun w' => w'.cell? ⟨M, 0, none⟩ = some (.int .i32 (P x y).r) ∧ w'.cell? ⟨M, 1, none⟩ = some (.int .i64 (P x y).p) ∧ w'.cell? ⟨M, 2, none⟩ = some (.int .i64 (P x y).n.f) ∧ w'.cell? ⟨M, 3, none⟩ = some (.int .i64 (P x y).n.b) ∧ w'.cell? ⟨M, 4, none⟩ = some (.bool (P x y).n.bo) ∧ w'.cell? ⟨M, 5, none⟩ = some (.bool (P x y).n.un) ∧ w'.cell? ⟨M, 6, none⟩ = some (.bool (P x y).n.re)) (simp [*]) (first | (go_at_call 147; refine (pBlank (⟨0, (P x y).n.b, false, false, false⟩ : Pn) _).mono ?_; rintro e w7 ⟨rfl, hb7⟩; rw [HBK.out]; have hb8 := below_drew' hb7; have e4 := hb8.cells (b := M) zM; have HB8 : Hid (Below wA.heap.size wA w7) := hb8; clear hb7 hb8))
    all_goals
      go_wp2_with fail
      go_ret
      exact ⟨by rw [He.out]; rfl, HA.out.2.trans (HB8.out.mono HA.out.2.size)⟩
  | true =>
    have He : Hid (erasureL s P x y = if (eraK P s.W s.H x y).1.length < spanN s P x y (eraK P s.W s.H x y).2 then (eraK P s.W s.H x y).1 else []) := by
      show _ = _
      unfold erasureL
      rw [if_neg (by rw [Hbk.out, he]; decide)]
    simp only [he, Bool.not_true] at hne
    clear he
    go_cut [28] (fun v wc => v = .bool false ∧ Below wA.heap.size wA wc)
    case first =>
      go_region_held3 (fun w' => w'.cell? ⟨M, 0, none⟩ = some (.int .i32 (P x y).r) ∧ w'.cell? ⟨M, 1, none⟩ = some (.int .i64 (P x y).p) ∧ w'.cell? ⟨M, 2, none⟩ = some (.int .i64 (P x y).n.f) ∧ w'.cell? ⟨M, 3, none⟩ = some (.int .i64 (P x y).n.b) ∧ w'.cell? ⟨M, 4, none⟩ = some (.bool (P x y).n.bo) ∧ w'.cell? ⟨M, 5, none⟩ = some (.bool (P x y).n.un) ∧ w'.cell? ⟨M, 6, none⟩ = some (.bool (P x y).n.re)) (simp [*]) (first | (go_at_call 147; refine (pBlank (⟨0, (P x y).n.b, false, false, false⟩ : Pn) _).mono ?_; rintro e w7 ⟨rfl, hb7⟩; rw [HBK.out]; have hb8 := below_drew' hb7; have e4 := hb8.cells (b := M) zM; have HB8 : Hid (Below wA.heap.size wA w7) := hb8; clear hb7 hb8))
      all_goals
        go_wp2_with fail
        go_meet
        case rel => exact ⟨rfl, HB8.out⟩
    case rest =>
      obtain ⟨rfl, hbc⟩ := hcut
      have HC : Hid (PtM wc bp po pc lb lc H P bs bg g N s t ∧ Below w.heap.size w wc) := ⟨HA.out.1.below hbc, HA.out.2.trans (hbc.mono HA.out.2.size)⟩
      have HcC : Hid (CelAt wc M 0 (P x y)) := HcA.out.below hbc zM
      clear hbc HA HcA b0 b1 b2 b3 b4 b5 b6 hne
      go_wp2_with fail
      go_at_call 216
      refine (seq0 wc 75).mono ?_
      rintro e w' ⟨rfl, hw'⟩
      replace hw' := hw'.symm
      subst hw'
      have hcap := HC.out.1.pic.cap y hyH
      have hcap' : (s.W : Int) ≤ (lc y : Int) := by omega
      have hxl : (x : Int) ≤ (s.W : Int) := by omega
      go_wp2_with fail
      go_at_call 219
      have hq := qAlike (lb y) (x * 7) (s.W - x) (lc y - x) (fun i => P (x + i) y) wc (fun i hi => by rw [← Nat.add_mul]; exact HC.out.1.pic.cel y (x + i) hyH (by omega)) (by omega)
      rw [alike_shift] at hq
      refine hq.mono ?_
      rintro e wD ⟨rfl, q, rfl⟩
      have HD : Hid (PtM (wc.drewN q) bp po pc lb lc H P bs bg g N s t ∧ Below w.heap.size w (wc.drewN q) ∧ CelAt (wc.drewN q) M 0 (P x y)) := ⟨HC.out.1.below (below_drewN wc q), below_n HC.out.2 q, HcC.out.drewN q⟩
      generalize wc.drewN q = wD at HD ⊢
      obtain ⟨hal1, hal2⟩ := alike_two P (y := y) hx
      obtain ⟨al, hal⟩ : ∃ al, alikeN P s.W x y = al := ⟨_, rfl⟩
      have Hal : Hid (alikeN P s.W x y = al) := hal
      rw [hal] at hal1 hal2 ⊢
      clear hq hal HC HcC hcap hcap' hxl
      have e1 : IntKind.i64.wrap ((x : Int) + (al : Int)) = (x : Int) + (al : Int) := wrap_id _ (by omega) (by omega)
      have hrow : (y + 1) * s.W ≤ s.H * s.W := Nat.mul_le_mul_right _ hy
      rw [Nat.succ_mul] at hrow
      by_cases hA1 : x + al < s.W
      · have hA2 : (x : Int) + (al : Int) < (s.W : Int) := by omega
        have HK : Hid (eraK P s.W s.H x y = (seqL 88 [cntT al], al)) := by
          show _ = _
          unfold eraK
          rw [Hal.out, if_pos hA1]
        have Hfit : Hid (y * s.W + x + al ≤ s.H * s.W) := by show _ ≤ _; omega
        have Htk : Hid (Toks [cntT al]) := toks_cnt (by omega) (by intro t ht; cases ht)
        clear hrow
        go_wp2_with fail
        go_at_call 218
        refine (qCount al (by omega) (by omega) wD).mono ?_
        rintro e w' ⟨rfl, hw'⟩
        replace hw' := hw'.symm
        subst hw'
        go_wp2_with fail
        go_at_call 216
        refine (seq1 wD 88 (cntT al) Htk.out).mono ?_
        rintro e wF ⟨rfl, hbF⟩
        have HF : Hid (PtM wF bp po pc lb lc H P bs bg g N s t ∧ Below w.heap.size w wF) := ⟨HD.out.1.below hbF, HD.out.2.1.trans (hbF.mono HD.out.2.1.size)⟩
        clear hbF
        go_wp2_with fail
        go_at_call 221
        refine (qSpan bp po pc lb lc H P bs bg g N s t x y al wF HF.out.1 ok hx hy (by omega) Hfit.out).mono ?_
        rintro e wG ⟨rfl, hbG⟩
        have HG : Hid (Below w.heap.size w wG) := HF.out.2.trans (hbG.mono HF.out.2.size)
        have HE2 := He.out
        rw [HK.out] at HE2
        obtain ⟨sq, hsq⟩ : ∃ sq, seqL 88 [cntT al] = sq := ⟨_, rfl⟩
        simp only [] at HE2
        rw [hsq] at HE2 ⊢
        obtain ⟨sn, hsn⟩ : ∃ sn, spanN s P x y (al) = sn := ⟨_, rfl⟩
        rw [hsn] at HE2 ⊢
        have HE3 : Hid (erasureL s P x y = if sq.length < sn then sq else []) := HE2
        have e2 : ((({ data := sq.toArray } : ByteArray).size : Nat) : Int) = (sq.length : Int) := rfl
        clear hbG HE2 hsq hsn He
        by_cases hls : sq.length < sn
        · have hls' : (sq.length : Int) < (sn : Int) := by omega
          go_wp2_with fail
          go_ret
          exact ⟨by rw [HE3.out, if_pos hls]; rfl, HG.out⟩
        · have hls' : ¬ ((sq.length : Int) < (sn : Int)) := by omega
          go_wp2_with fail
          go_ret
          exact ⟨by rw [HE3.out, if_neg hls]; rfl, HG.out⟩
      · have hA2 : ¬ ((x : Int) + (al : Int) < (s.W : Int)) := by omega
        have eHs : H = s.H := HD.out.1.hs
        have HpH : Hid (H ≤ pc ∧ H = s.H) := ⟨HD.out.1.hpc, eHs⟩
        have hpc := HD.out.1.hpc
        have hpc' : (H : Int) ≤ (pc : Int) := by omega
        obtain ⟨y1, hy1⟩ : ∃ y1, y + 1 = y1 := ⟨_, rfl⟩
        have e3 : IntKind.i64.wrap ((y : Int) + 1) = (y1 : Int) := by rw [wrap_id _ (by omega) (by omega)]; omega
        have hy2 : (y1 : Int) ≤ (H : Int) := by omega
        have hy3 : (0 : Int) ≤ (y1 : Int) := by omega
        have Hy1 : Hid (y + 1 = y1) := hy1
        have c0 := HD.out.1.c0
        have zM2 := HD.out.2.2.lt
        have zB2 := World.block_lt_of_cell? _ _ c0
        obtain ⟨b0, b1, b2, b3, b4, b5, b6⟩ := HD.out.2.2
        simp only [Nat.zero_add] at b0 b1 b2 b3 b4 b5 b6
        cases hib : isAllB P s.W H y1 (P x y) with
        | false =>
          have HIB : Hid (isAllB P s.W H y1 (P x y) = false) := hib
          have HK : Hid (eraK P s.W s.H x y = (seqL 75 [], al)) := by
            show _ = _
            unfold eraK
            rw [Hal.out, if_neg hA1, ← eHs, Hy1.out, if_neg (by rw [hib]; decide)]
          have Hfit : Hid (y * s.W + x + al ≤ s.H * s.W) := by show _ ≤ _; omega
          have hyl : y1 < H := by
            rcases Nat.lt_or_ge y1 H with q | q
            · exact q
            · have : isAllB P s.W H y1 (P x y) = true := by
                unfold isAllB
                rw [show H - y1 = 0 by omega]
                rfl
              rw [this] at hib; cases hib
          have hyp : y1 < pc := by omega
          have hyp' : (y1 : Int) < (pc : Int) := by omega
          have hyn : ¬ pc = y1 := by omega
          have hy0 : ¬ y1 = 0 := by omega
          clear hib hrow hy1 eHs hyp hyl hpc hpc' hyp'
          go_wp2_with fail
          go_region_held3 (fun w' => w'.cell? ⟨M, 0, none⟩ = some (.int .i32 (P x y).r) ∧ w'.cell? ⟨M, 1, none⟩ = some (.int .i64 (P x y).p) ∧ w'.cell? ⟨M, 2, none⟩ = some (.int .i64 (P x y).n.f) ∧ w'.cell? ⟨M, 3, none⟩ = some (.int .i64 (P x y).n.b) ∧ w'.cell? ⟨M, 4, none⟩ = some (.bool (P x y).n.bo) ∧ w'.cell? ⟨M, 5, none⟩ = some (.bool (P x y).n.un) ∧ w'.cell? ⟨M, 6, none⟩ = some (.bool (P x y).n.re) ∧ w'.cell? ⟨bp, 0, none⟩ = some (.slice (some ⟨po, 0, none⟩) H pc)) (simp [*]) (first | (go_at_call 220; refine (qIsAll po y1 y1 (H - y1) (pc - y1) lb lc s.W H P (P x y) _ (HD.out.1.pic.below (by first | exact Below.refl _ _ | exact (Below.refl _ _).drew)) (by omega) w1 (by omega) (by have := HpH.out.2; omega) (.inr rfl)).mono ?_; rintro e wF ⟨rfl, hb7⟩; rw [HIB.out]; have hb8 := below_drew' hb7; have e4 := hb8.cells (b := M) zM2; have e5 := hb8.cells (b := bp) zB2; have HF : Hid (PtM wF bp po pc lb lc H P bs bg g N s t ∧ Below w.heap.size w wF) := ⟨HD.out.1.below hb8, HD.out.2.1.trans (hb8.mono HD.out.2.1.size)⟩; clear hb7 hb8))
          all_goals
            clear c0 b0 b1 b2 b3 b4 b5 b6
            go_wp2_with fail
            go_at_call 221
            refine (qSpan bp po pc lb lc H P bs bg g N s t x y al wF HF.out.1 ok hx hy (by omega) Hfit.out).mono ?_
            rintro e wG ⟨rfl, hbG⟩
            have HG : Hid (Below w.heap.size w wG) := HF.out.2.trans (hbG.mono HF.out.2.size)
            have HE2 := He.out
            rw [HK.out] at HE2
            obtain ⟨sq, hsq⟩ : ∃ sq, seqL 75 [] = sq := ⟨_, rfl⟩
            simp only [] at HE2
            rw [hsq] at HE2 ⊢
            obtain ⟨sn, hsn⟩ : ∃ sn, spanN s P x y (al) = sn := ⟨_, rfl⟩
            rw [hsn] at HE2 ⊢
            have HE3 : Hid (erasureL s P x y = if sq.length < sn then sq else []) := HE2
            have e2 : ((({ data := sq.toArray } : ByteArray).size : Nat) : Int) = (sq.length : Int) := rfl
            clear hbG HE2 hsq hsn He
            by_cases hls : sq.length < sn
            · have hls' : (sq.length : Int) < (sn : Int) := by omega
              go_wp2_with fail
              go_ret
              exact ⟨by rw [HE3.out, if_pos hls]; rfl, HG.out⟩
            · have hls' : ¬ ((sq.length : Int) < (sn : Int)) := by omega
              go_wp2_with fail
              go_ret
              exact ⟨by rw [HE3.out, if_neg hls]; rfl, HG.out⟩
        | true =>
          have HIB : Hid (isAllB P s.W H y1 (P x y) = true) := hib
          obtain ⟨pr, hpr⟩ : ∃ pr, s.W * (H - y1) = pr := ⟨_, rfl⟩
          have HK : Hid (eraK P s.W s.H x y = (seqL 74 [], al + pr)) := by
            show _ = _
            unfold eraK
            rw [Hal.out, if_neg hA1, ← eHs, Hy1.out, if_pos hib, hpr]
          have Hfit : Hid (y * s.W + x + (al + pr) ≤ s.H * s.W) := by
            show _ ≤ _
            have e5 : s.H * s.W = (y + 1) * s.W + (H - y1) * s.W := by rw [← Nat.add_mul, ← eHs]; congr 1; omega
            rw [e5, Nat.succ_mul, Nat.mul_comm (H - y1) s.W, hpr]
            omega
          have hpr2 : pr ≤ 40 * 20 := by rw [← hpr]; exact Nat.mul_le_mul w2 (by omega)
          have e6 : IntKind.i64.wrap ((s.W : Int) * ((H - y1 : Nat) : Int)) = (pr : Int) := by rw [← hpr, wrap_id _ (by rw [← Int.natCast_mul, hpr]; omega) (by rw [← Int.natCast_mul, hpr]; omega), Int.natCast_mul]
          have e7 : IntKind.i64.wrap ((al : Int) + (pr : Int)) = ((al + pr : Nat) : Int) := by
            generalize pr = pr' at hpr2
            clear e6 e1
            rw [wrap_id _ (by omega) (by omega)]; omega
          have Hpr : Hid (s.W * (H - y1) = pr ∧ y1 ≤ H) := ⟨hpr, by omega⟩
          clear hib hrow hy1 hpr
          by_cases hyq : y1 < pc
          · have hyn : ¬ pc = y1 := by omega
            have hy0 : ¬ y1 = 0 := by have := Hy1.out; omega
            clear hyq eHs hpc hpc'
            go_wp2_with fail
            go_region_held3 (fun w' => w'.cell? ⟨M, 0, none⟩ = some (.int .i32 (P x y).r) ∧ w'.cell? ⟨M, 1, none⟩ = some (.int .i64 (P x y).p) ∧ w'.cell? ⟨M, 2, none⟩ = some (.int .i64 (P x y).n.f) ∧ w'.cell? ⟨M, 3, none⟩ = some (.int .i64 (P x y).n.b) ∧ w'.cell? ⟨M, 4, none⟩ = some (.bool (P x y).n.bo) ∧ w'.cell? ⟨M, 5, none⟩ = some (.bool (P x y).n.un) ∧ w'.cell? ⟨M, 6, none⟩ = some (.bool (P x y).n.re) ∧ w'.cell? ⟨bp, 0, none⟩ = some (.slice (some ⟨po, 0, none⟩) H pc)) (simp [*]) (first | (go_at_call 220; refine (qIsAll po y1 y1 (H - y1) (pc - y1) lb lc s.W H P (P x y) _ (HD.out.1.pic.below (by first | exact Below.refl _ _ | exact (Below.refl _ _).drew)) (by omega) w1 (by omega) (by have := HpH.out.2; omega) (.inr rfl)).mono ?_; rintro e wF ⟨rfl, hb7⟩; rw [HIB.out]; have hb8 := below_drew' hb7; have e4 := hb8.cells (b := M) zM2; have e5 := hb8.cells (b := bp) zB2; have HF : Hid (PtM wF bp po pc lb lc H P bs bg g N s t ∧ Below w.heap.size w wF) := ⟨HD.out.1.below hb8, HD.out.2.1.trans (hb8.mono HD.out.2.1.size)⟩; clear hb7 hb8))
            all_goals
              have c0 := HF.out.1.c0
              clear b0 b1 b2 b3 b4 b5 b6
              go_wp2_with fail
              go_at_call 216
              refine (seq0 wF 74).mono ?_
              rintro e w' ⟨rfl, hw'⟩
              replace hw' := hw'.symm
              subst hw'
              clear c0
              go_wp2_with fail
              go_at_call 221
              refine (qSpan bp po pc lb lc H P bs bg g N s t x y (al + pr) wF HF.out.1 ok hx hy (by omega) Hfit.out).mono ?_
              rintro e wG ⟨rfl, hbG⟩
              have HG : Hid (Below w.heap.size w wG) := HF.out.2.trans (hbG.mono HF.out.2.size)
              have HE2 := He.out
              rw [HK.out] at HE2
              obtain ⟨sq, hsq⟩ : ∃ sq, seqL 74 [] = sq := ⟨_, rfl⟩
              simp only [] at HE2
              rw [hsq] at HE2 ⊢
              obtain ⟨sn, hsn⟩ : ∃ sn, spanN s P x y (al + pr) = sn := ⟨_, rfl⟩
              rw [hsn] at HE2 ⊢
              have HE3 : Hid (erasureL s P x y = if sq.length < sn then sq else []) := HE2
              have e2 : ((({ data := sq.toArray } : ByteArray).size : Nat) : Int) = (sq.length : Int) := rfl
              clear hbG HE2 hsq hsn He
              by_cases hls : sq.length < sn
              · have hls' : (sq.length : Int) < (sn : Int) := by omega
                go_wp2_with fail
                go_ret
                exact ⟨by rw [HE3.out, if_pos hls]; rfl, HG.out⟩
              · have hls' : ¬ ((sq.length : Int) < (sn : Int)) := by omega
                go_wp2_with fail
                go_ret
                exact ⟨by rw [HE3.out, if_neg hls]; rfl, HG.out⟩
          · have hyn : pc = y1 := by omega
            have hyz : H - y1 = 0 := by omega
            have HYz : Hid (H - y1 = 0) := hyz
            subst hyn
            clear hyq eHs hpc hpc' hyz
            go_wp2_with fail
            go_region_held3 (fun w' => w'.cell? ⟨M, 0, none⟩ = some (.int .i32 (P x y).r) ∧ w'.cell? ⟨M, 1, none⟩ = some (.int .i64 (P x y).p) ∧ w'.cell? ⟨M, 2, none⟩ = some (.int .i64 (P x y).n.f) ∧ w'.cell? ⟨M, 3, none⟩ = some (.int .i64 (P x y).n.b) ∧ w'.cell? ⟨M, 4, none⟩ = some (.bool (P x y).n.bo) ∧ w'.cell? ⟨M, 5, none⟩ = some (.bool (P x y).n.un) ∧ w'.cell? ⟨M, 6, none⟩ = some (.bool (P x y).n.re) ∧ w'.cell? ⟨bp, 0, none⟩ = some (.slice (some ⟨po, 0, none⟩) H pc)) (simp [*]) (first | (go_at_call 220; refine (qIsAll po 0 pc (H - pc) 0 lb lc s.W H P (P x y) _ (HD.out.1.pic.below (by first | exact Below.refl _ _ | exact (Below.refl _ _).drew)) (by omega) w1 (by omega) (by have := HpH.out.2; omega) (.inl HYz.out)).mono ?_; rintro e wF ⟨rfl, hb7⟩; rw [HIB.out]; have hb8 := below_drew' hb7; have e4 := hb8.cells (b := M) zM2; have e5 := hb8.cells (b := bp) zB2; have HF : Hid (PtM wF bp po pc lb lc H P bs bg g N s t ∧ Below w.heap.size w wF) := ⟨HD.out.1.below hb8, HD.out.2.1.trans (hb8.mono HD.out.2.1.size)⟩; clear hb7 hb8))
            all_goals
              have c0 := HF.out.1.c0
              clear b0 b1 b2 b3 b4 b5 b6
              go_wp2_with fail
              go_at_call 216
              refine (seq0 wF 74).mono ?_
              rintro e w' ⟨rfl, hw'⟩
              replace hw' := hw'.symm
              subst hw'
              clear c0
              go_wp2_with fail
              go_at_call 221
              refine (qSpan bp po pc lb lc H P bs bg g N s t x y (al + pr) wF HF.out.1 ok hx hy (by omega) Hfit.out).mono ?_
              rintro e wG ⟨rfl, hbG⟩
              have HG : Hid (Below w.heap.size w wG) := HF.out.2.trans (hbG.mono HF.out.2.size)
              have HE2 := He.out
              rw [HK.out] at HE2
              obtain ⟨sq, hsq⟩ : ∃ sq, seqL 74 [] = sq := ⟨_, rfl⟩
              simp only [] at HE2
              rw [hsq] at HE2 ⊢
              obtain ⟨sn, hsn⟩ : ∃ sn, spanN s P x y (al + pr) = sn := ⟨_, rfl⟩
              rw [hsn] at HE2 ⊢
              have HE3 : Hid (erasureL s P x y = if sq.length < sn then sq else []) := HE2
              have e2 : ((({ data := sq.toArray } : ByteArray).size : Nat) : Int) = (sq.length : Int) := rfl
              clear hbG HE2 hsq hsn He
              by_cases hls : sq.length < sn
              · have hls' : (sq.length : Int) < (sn : Int) := by omega
                go_wp2_with fail
                go_ret
                exact ⟨by rw [HE3.out, if_pos hls]; rfl, HG.out⟩
              · have hls' : ¬ ((sq.length : Int) < (sn : Int)) := by omega
                go_wp2_with fail
                go_ret
                exact ⟨by rw [HE3.out, if_neg hls]; rfl, HG.out⟩
end Go.Proofs.YtjlfibhbfdckpaaGreatDoor

/- Flush: others. -/
namespace Go.Proofs.YtjlfibhbfdckpaaGreatDoor
open Go.RowKit
attribute [local go_sem ↓] Go.wp_at_zero Go.wp_at_succ
/-- Is a cell another one, once the screen has scrolled? -/
def otherB (s : Rs) (P : Nat → Nat → Cel) (n : Int) (i : Nat) : Bool := !(cellR s (i % s.W) ((i / s.W : Nat) + n)).eqB (P (i % s.W) (i / s.W))
theorem others_def (s : Rs) (P : Nat → Nat → Cel) (n : Int) : othersN s P n = cntB (otherB s P n) (s.H * s.W) := rfl
theorem other_at (s : Rs) (P : Nat → Nat → Cel) (n : Int) {x y : Nat} (hx : x < s.W) : otherB s P n (y * s.W + x) = !(cellR s x ((y : Int) + n)).eqB (P x y) := by
  unfold otherB
  rw [Nat.add_comm, Nat.add_mul_mod_self_right, Nat.mod_eq_of_lt hx, Nat.add_mul_div_right _ _ (by omega), Nat.div_eq_of_lt hx, Nat.zero_add]
theorem cnt_succ (p : Nat → Bool) (i : Nat) : cntB p (i + 1) = cntB p i + (if p i = true then 1 else 0) := rfl
theorem cel_new2 (w : World) (c : Cel) (T : TypeId) (hT : T = 38) : ∃ wA, w.alloc (.cells #[.int .i32 c.r, .int .i64 c.p, .int .i64 c.n.f, .int .i64 c.n.b, .bool c.n.bo, .bool c.n.un, .bool c.n.re] T) = wA ∧ Below w.heap.size w wA ∧ CelAt wA w.heap.size 0 c ∧ wA.heap.size = w.heap.size + 1 ∧ (∀ o, wA.frozen? ⟨w.heap.size, o, none⟩ = false) := by
  subst hT
  exact ⟨_, rfl, (Below.refl _ _).alloc (Nat.le_refl _) _, cel_new' w c c.p rfl _, by simp, frozen_of_block (heap_new _ _)⟩
set_option maxHeartbeats 8000000 in
set_option maxRecDepth 100000 in
theorem qOthers (bs bg g N : Nat) (s : Rs) (t : Pt) (po pc : Nat) (lb lc : Nat → Nat) (H : Nat) (P : Nat → Nat → Cel) (n : Int) (w : World) (hp : PrAt w bs bg g N s t) (pic : PcM w po lb lc s.W H P) (hs : H = s.H) (ok : s.Ok) (na : -100 < n) (nb : n < 100) :
    Calls Tryz.prog 180 #[.pointer (some ⟨bs, 0, none⟩), .slice (some ⟨po, 0, none⟩) H pc, .int .i64 n] w fun e w' => e = .returned (.int .i64 (othersN s P n : Nat)) ∧ Below w.heap.size w w' := by
  have HH : Hid (PrAt w bs bg g N s t ∧ PcM w po lb lc s.W H P) := ⟨hp, pic⟩
  have w1 := ok.w1
  have w2 := ok.w2
  have h2 := ok.h2
  have hH : H ≤ 20 := by omega
  have hmul : H * s.W ≤ 20 * 40 := Nat.mul_le_mul hH w2
  have Hs : Hid (H = s.H) := hs
  have Hcnt : Hid (∀ i, cntB (otherB s P n) i ≤ i) := cnt_le _
  obtain ⟨blk0, hblk0⟩ : ∃ c, blk Pn.plain = c := ⟨_, rfl⟩
  have Hblk : Hid (blk Pn.plain = blk0) := hblk0
  clear hp pic hs ok h2 hblk0
  go_enter Tryz.func180, Tryz.ntmps180
  go_wp2_with fail
  go_loopw [15, 7] (fun vi vs wr => ∃ y : Nat, vi = .int .i64 y ∧ y ≤ H ∧ vs = .int .i64 (cntB (otherB s P n) (y * s.W) : Nat) ∧ Below w.heap.size w wr) (fun vi _ _ => H - (intOf vi).toNat)
  case atStart => exact ⟨0, rfl, Nat.zero_le _, by simp [cntB], Below.refl _ _⟩
  case round =>
    obtain ⟨y, rfl, hy, rfl, hbw⟩ := hrel
    have HB : Hid (Below w.heap.size w wr) := hbw
    clear hbw
    by_cases hc : y < H
    · have hc' : (y : Int) < (H : Int) := by omega
      have r0 := (HH.out.2.below HB.out).row y hc
      go_wp2_with fail
      go_loopw [22, 7] (fun vi vs wi => ∃ x : Nat, vi = .int .i64 x ∧ x ≤ s.W ∧ vs = .int .i64 (cntB (otherB s P n) (y * s.W + x) : Nat) ∧ Below w.heap.size w wi) (fun vi _ _ => s.W - (intOf vi).toNat)
      case atStart => exact ⟨0, rfl, Nat.zero_le _, rfl, HB.out⟩
      case round =>
        obtain ⟨x, rfl, hx, rfl, hbi⟩ := hrel
        have HBi : Hid (Below w.heap.size w wr) := hbi
        have HPi : Hid (PrAt wr bs bg g N s t ∧ PcM wr po lb lc s.W H P) := ⟨HH.out.1.below hbi, HH.out.2.below hbi⟩
        have hyW : y * s.W + s.W ≤ H * s.W := by rw [← Nat.succ_mul]; exact Nat.mul_le_mul_right _ hc
        clear hbi r0
        by_cases hxc : x < s.W
        · have hxc' : (x : Int) < (s.W : Int) := by omega
          obtain ⟨a0, a1, a2, a3, a4, a5, a6⟩ := HPi.out.2.cel y x hc hxc
          have hcl := Hcnt.out (y * s.W + x)
          have Hnx : Hid (cntB (otherB s P n) (y * s.W + (x + 1)) = cntB (otherB s P n) (y * s.W + x) + (if (!(cellR s x ((y : Int) + n)).eqB (P x y)) = true then 1 else 0)) := by
            show _ = _
            rw [← Nat.add_assoc, cnt_succ, other_at s P n hxc]
          obtain ⟨sm, hsm⟩ : ∃ sm, cntB (otherB s P n) (y * s.W + x) = sm := ⟨_, rfl⟩
          have hsl : sm ≤ 800 := by omega
          rw [hsm] at Hnx ⊢
          have Hyx : Hid (y < H ∧ x < s.W) := ⟨hc, hxc⟩
          have hy2 : (y : Int) ≤ 20 := by omega
          have hy0 : (0 : Int) ≤ (y : Int) := by omega
          clear hcl hsm hyW hmul hH hc hxc hx hy
          go_wp2_with fail
          obtain ⟨wA, hwA, belA, cA, zA, fA⟩ := cel_new2 wr (P x y) _ rfl
          rw [hwA]
          obtain ⟨M, hM⟩ : ∃ M, wr.heap.size = M := ⟨_, rfl⟩
          rw [hM] at cA zA ⊢
          have HA : Hid (Below wr.heap.size wr wA ∧ CelAt wA M 0 (P x y)) := ⟨belA, cA⟩
          clear hwA belA cA fA a0 a1 a2 a3 a4 a5 a6
          go_at_call 147
          refine (pBlank (⟨0, 0, false, false, false⟩ : Pn) wA).mono ?_
          rintro e wB ⟨rfl, hbB⟩
          have HBK : Hid (blk (⟨0, 0, false, false, false⟩ : Pn) = blk0) := Hblk.out
          rw [HBK.out]
          have zB : M < wB.heap.size := by have := hbB.size; omega
          have HB2 : Hid (Below wr.heap.size wr wB ∧ CelAt wB M 0 (P x y)) := ⟨HA.out.1.trans (hbB.mono HA.out.1.size), HA.out.2.below hbB (by omega)⟩
          clear hbB HA zA
          go_wp2_with fail
          obtain ⟨wC, hwC, belC, cC, zC, fC⟩ := cel_new2 wB blk0 _ rfl
          rw [hwC]
          obtain ⟨D, hD⟩ : ∃ D, wB.heap.size = D := ⟨_, rfl⟩
          rw [hD] at cC zC fC ⊢
          have HC : Hid (Below wr.heap.size wr wC ∧ CelAt wC M 0 (P x y) ∧ CelAt wC D 0 blk0) := ⟨HB2.out.1.trans (belC.mono HB2.out.1.size), HB2.out.2.below belC (by omega), cC⟩
          have HfC : Hid (∀ o, wC.frozen? ⟨D, o, none⟩ = false) := fC
          have hMD : M < D := by omega
          clear hwC belC cC HB2 fC
          go_at_call 121
          refine (sHas bs bg g N s t x ((y : Int) + n) wC (HPi.out.1.below HC.out.1)).mono ?_
          rintro e w' ⟨rfl, hw'⟩
          replace hw' := hw'.symm
          subst hw'
          cases hin : inG s.W s.H x ((y : Int) + n) with
          | false =>
            have Hcr : Hid (cellR s x ((y : Int) + n) = blk0) := by
              show _ = _
              unfold cellR
              rw [if_neg (by rw [hin]; decide), Hblk.out]
            obtain ⟨p0, p1, p2, p3, p4, p5, p6⟩ := HC.out.2.1
            obtain ⟨q0, q1, q2, q3, q4, q5, q6⟩ := HC.out.2.2
            simp only [Nat.zero_add] at p0 p1 p2 p3 p4 p5 p6 q0 q1 q2 q3 q4 q5 q6
            have hne := fun w => cel_neq blk0 (P x y) w
            clear hin
            cases hq : (blk0).eqB (P x y) with
            | true =>
              have Hq : Hid (blk0.eqB (P x y) = true) := hq
              simp only [hq, Bool.not_true] at hne
              clear hq
              go_wp2_with fail
              go_roundw
              case rel => exact ⟨x + 1, by go_num, by have := Hyx.out.2; omega, by rw [Hnx.out, Hcr.out, Hq.out]; rfl, HBi.out.trans (HC.out.1.mono HBi.out.size)⟩
              case measure => simp [intOf]; have := Hyx.out.2; omega
            | false =>
              have Hq : Hid (blk0.eqB (P x y) = false) := hq
              simp only [hq, Bool.not_false] at hne
              clear hq
              go_wp2_with fail
              go_roundw
              case rel => exact ⟨x + 1, by go_num, by have := Hyx.out.2; omega, by rw [Hnx.out, Hcr.out, Hq.out]; rfl, HBi.out.trans (HC.out.1.mono HBi.out.size)⟩
              case measure => simp [intOf]; have := Hyx.out.2; omega
          | true =>
            obtain ⟨i0, i1, i2, i3⟩ := inG_iff.1 hin
            obtain ⟨yy, hyy⟩ := Int.eq_ofNat_of_zero_le i2
            have hyy' : (y : Int) + n = (yy : Int) := hyy
            have Hcr : Hid (cellR s x ((y : Int) + n) = s.G x yy) := by
              show _ = _
              unfold cellR
              rw [if_pos hin, hyy', Int.toNat_natCast]
            have e9 : IntKind.i64.wrap ((y : Int) + n) = (yy : Int) := by rw [← hyy']; exact wrap_id _ (by omega) (by omega)
            have Hyy : Hid (x < s.W ∧ yy < s.H) := ⟨by omega, by omega⟩
            clear hin hyy i0 i1 i2 i3
            go_wp2_with fail
            go_at_call 122
            refine (sCell bs bg g N s t x yy wC (HPi.out.1.below HC.out.1) Hyy.out.1 Hyy.out.2).mono ?_
            rintro e wD ⟨rfl, hbD⟩
            have HD : Hid (Below wr.heap.size wr wD ∧ CelAt wD M 0 (P x y) ∧ CelAt wD D 0 blk0) := ⟨HC.out.1.trans (hbD.mono HC.out.1.size), HC.out.2.1.below hbD HC.out.2.1.lt, HC.out.2.2.below hbD HC.out.2.2.lt⟩
            have f0 : ∀ o, wD.frozen? ⟨D, o, none⟩ = false := fun o => (frozen_same (hbD.block D HC.out.2.2.lt) o).trans (HfC.out o)
            obtain ⟨cc, hcc⟩ : ∃ cc, s.G x yy = cc := ⟨_, rfl⟩
            rw [hcc] at Hcr ⊢
            obtain ⟨q0, q1, q2, q3, q4, q5, q6⟩ := HD.out.2.2
            simp only [Nat.zero_add] at q0 q1 q2 q3 q4 q5 q6
            clear hbD HC HfC hcc e9 hyy'
            go_upto_region 11 with fail
            have hE : ∃ wE, put7 wD D 0 cc = wE ∧ CelAt wE D 0 cc ∧ CelAt wE M 0 (P x y) ∧ Below wr.heap.size wr wE := by
              refine ⟨_, rfl, put7_at HD.out.2.2, HD.out.2.1.put (by omega), ?_⟩
              exact HD.out.1.trans (((Keep.refl (fun i => i = D) wD).put7 D 0 cc (fun _ => rfl)).toBelow HD.out.1.size (fun i hi e => by omega))
            obtain ⟨wE, hwE, cD, cM, belE⟩ := hE
            unfold put7 at hwE
            simp only [Nat.zero_add] at hwE
            rw [hwE]
            have HE : Hid (Below wr.heap.size wr wE) := belE
            obtain ⟨p0, p1, p2, p3, p4, p5, p6⟩ := cM
            clear q0 q1 q2 q3 q4 q5 q6
            obtain ⟨q0, q1, q2, q3, q4, q5, q6⟩ := cD
            simp only [Nat.zero_add] at p0 p1 p2 p3 p4 p5 p6 q0 q1 q2 q3 q4 q5 q6
            have hne := fun w => cel_neq cc (P x y) w
            clear hwE belE HD f0
            cases hq : cc.eqB (P x y) with
            | true =>
              have Hq : Hid (cc.eqB (P x y) = true) := hq
              simp only [hq, Bool.not_true] at hne
              clear hq
              go_wp2_with fail
              go_roundw
              case rel => exact ⟨x + 1, by go_num, by have := Hyx.out.2; omega, by rw [Hnx.out, Hcr.out, Hq.out]; rfl, HBi.out.trans (HE.out.mono HBi.out.size)⟩
              case measure => simp [intOf]; have := Hyx.out.2; omega
            | false =>
              have Hq : Hid (cc.eqB (P x y) = false) := hq
              simp only [hq, Bool.not_false] at hne
              clear hq
              go_wp2_with fail
              go_roundw
              case rel => exact ⟨x + 1, by go_num, by have := Hyx.out.2; omega, by rw [Hnx.out, Hcr.out, Hq.out]; rfl, HBi.out.trans (HE.out.mono HBi.out.size)⟩
              case measure => simp [intOf]; have := Hyx.out.2; omega
        · have hxc' : ¬ ((x : Int) < (s.W : Int)) := by omega
          have ex : x = s.W := by omega
          have Hex : Hid (x = s.W) := ex
          have Hy : Hid (y < H) := hc
          clear ex
          go_wp2_with fail
          go_roundw
          case rel => exact ⟨y + 1, by go_num, by have := Hy.out; omega, by rw [Hex.out, Nat.succ_mul], HBi.out⟩
          case measure => simp [intOf]; have := Hy.out; omega
    · have hc' : ¬ ((y : Int) < (H : Int)) := by omega
      have ey : y = H := by omega
      have Hey : Hid (y = H) := ey
      clear ey
      go_wp2_with fail
      go_ret
      exact ⟨by rw [others_def, ← Hs.out, Hey.out]; rfl, HB.out⟩
end Go.Proofs.YtjlfibhbfdckpaaGreatDoor
