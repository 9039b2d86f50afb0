/- Texts of the proof, one behind the other: PsL, PsM. -/
import Derived.Test.YtknhohbepkapdaaDoorK08
/- The program's screen: a sequence is done: H, K, J, X, S, T, r, others. -/
namespace Go.Proofs.YtknhohbepkapdaaDoor
open Go.RowKit
attribute [local go_sem ↓] Go.wp_at_zero Go.wp_at_succ
theorem erase_rg {W H : Nat} {G : Nat → Nat → Cel} (hw : Wf W H G) (x0 x1 : Int) (y : Nat) (p : Pn) : EqOn W H (eraseX W x0 x1 y p G) (wrt G (rg x0 x1 y) (fun _ _ => blk p)) := by
  unfold eraseX
  refine wr_dom hw (fun a b ha hb => ?_) (fun _ _ _ _ _ => rfl)
  rw [Bool.eq_iff_iff, rg_iff]
  simp [ha, and_assoc]
set_option maxRecDepth 10000 in
set_option maxHeartbeats 2000000 in
theorem sDoH (bs bg g N : Nat) (s : Rs) (t : Pt) (l : List Int) (w : World) (h : PrAt w bs bg g N s t) (ok : s.Ok) (hl : NumsIs t l) (hs : Small l) :
    Calls Tryd.prog 83 #[.pointer (some ⟨bs, 0, none⟩), .int .u8 72] w (SPost bs bg g N w (doneR s l 72) t (.tuple #[])) := by
  have HP : Hid (PrAt w bs bg g N s t) := h
  have Hok : Hid s.Ok := ok
  have hn := small_one (hs 0).1 (hs 0).2
  have hk := small_one (hs 1).1 (hs 1).2
  have f0 := (hs 0).1
  have f9 := (hs 0).2
  have k0 := (hs 1).1
  have k9 := (hs 1).2
  have hpk : pickI (t.nm 0) 1 = one1 (l.getD 0 0) := by rw [hl.nm 0 (by omega)]; rfl
  have hpk1 : pickI (t.nm 1) 1 = one1 (l.getD 1 0) := by rw [hl.nm 1 (by omega)]; rfl
  have hpk2 : pickI (t.nm 1) 9999 = pickI (l.getD 1 0) 9999 := by rw [hl.nm 1 (by omega)]
  have c17 := h.f17
  rw [hl.nm 0 (by omega)] at c17
  have x0 := ok.x0
  have x1 := ok.x1
  have y0 := ok.y0
  have y1 := ok.y1
  have w2 := ok.w2
  have h2 := ok.h2
  have HDn : Hid (doneR s l 72 = goesR s (one1 (l.getD 1 0) - 1) ((one1 (l.getD 0 0)) - 1)) := by
    show _ = _
    simp [doneR]
  clear hl hs ok h
  generalize l.getD 1 0 = kk at *
  generalize l.getD 0 0 = ff at *
  generalize one1 kk = k at *
  generalize one1 ff = n at *
  obtain ⟨n1, n9⟩ := hn
  obtain ⟨k1, k99⟩ := hk
  go_enter Tryd.func83, Tryd.ntmps83
  go_wp2_with fail
  go_at_call 93
  refine (qCounted bs bg g N s t 0 1 _ HP.out (by omega)).mono ?_
  rintro e w' ⟨rfl, hw'⟩
  replace hw' := hw'.symm
  subst hw'
  rw [hpk]
  go_wp2_with fail
  go_at_call 93
  refine (qCounted bs bg g N s t 1 1 _ HP.out (by omega)).mono ?_
  rintro e w' ⟨rfl, hw'⟩
  replace hw' := hw'.symm
  subst hw'
  rw [hpk1]
  go_wp2_with fail
  go_at_call 45
  refine (sGoTo bs bg g N s t (k - 1) (n - 1) _ HP.out).mono ?_
  rintro e w5 ⟨rfl, P5, K5⟩
  go_wp2_with fail
  go_end0
  refine ⟨rfl, ?_, K5⟩
  rw [HDn.out]
  exact P5
set_option maxRecDepth 10000 in
set_option maxHeartbeats 2000000 in
theorem sDoK (bs bg g N : Nat) (s : Rs) (t : Pt) (l : List Int) (w : World) (h : PrAt w bs bg g N s t) (ok : s.Ok) (hl : NumsIs t l) (hs : Small l) :
    Calls Tryd.prog 83 #[.pointer (some ⟨bs, 0, none⟩), .int .u8 75] w (SPost bs bg g N w (doneR s l 75) t (.tuple #[])) := by
  have HP : Hid (PrAt w bs bg g N s t) := h
  have Hok : Hid s.Ok := ok
  have hn := small_one (hs 0).1 (hs 0).2
  have hk := small_one (hs 1).1 (hs 1).2
  have f0 := (hs 0).1
  have f9 := (hs 0).2
  have k0 := (hs 1).1
  have k9 := (hs 1).2
  have hpk : pickI (t.nm 0) 1 = one1 (l.getD 0 0) := by rw [hl.nm 0 (by omega)]; rfl
  have hpk1 : pickI (t.nm 1) 1 = one1 (l.getD 1 0) := by rw [hl.nm 1 (by omega)]; rfl
  have hpk2 : pickI (t.nm 1) 9999 = pickI (l.getD 1 0) 9999 := by rw [hl.nm 1 (by omega)]
  have c17 := h.f17
  rw [hl.nm 0 (by omega)] at c17
  have x0 := ok.x0
  have x1 := ok.x1
  have y0 := ok.y0
  have y1 := ok.y1
  have w2 := ok.w2
  have h2 := ok.h2
  have HDn : Hid (doneR s l 75 = eraR s (l.getD 0 0) false) := by
    show _ = _
    simp [doneR]
  clear hl hs ok h
  generalize l.getD 1 0 = kk at *
  generalize l.getD 0 0 = ff at *
  generalize one1 kk = k at *
  generalize one1 ff = n at *
  obtain ⟨n1, n9⟩ := hn
  obtain ⟨k1, k99⟩ := hk
  go_enter Tryd.func83, Tryd.ntmps83
  go_wp2_with fail
  go_at_call 93
  refine (qCounted bs bg g N s t 0 1 _ HP.out (by omega)).mono ?_
  rintro e w' ⟨rfl, hw'⟩
  replace hw' := hw'.symm
  subst hw'
  rw [hpk]
  go_wp2_with fail
  go_at_call 94
  refine (sEraseLine bs bg g N s t ff _ HP.out Hok.out).mono ?_
  rintro e w5 ⟨rfl, P5, K5⟩
  go_wp2_with fail
  go_end0
  refine ⟨rfl, ?_, K5⟩
  rw [HDn.out]
  exact P5
set_option maxRecDepth 10000 in
set_option maxHeartbeats 2000000 in
theorem sDoJ (bs bg g N : Nat) (s : Rs) (t : Pt) (l : List Int) (w : World) (h : PrAt w bs bg g N s t) (ok : s.Ok) (hl : NumsIs t l) (hs : Small l) :
    Calls Tryd.prog 83 #[.pointer (some ⟨bs, 0, none⟩), .int .u8 74] w (SPost bs bg g N w (doneR s l 74) t (.tuple #[])) := by
  have HP : Hid (PrAt w bs bg g N s t) := h
  have Hok : Hid s.Ok := ok
  have hn := small_one (hs 0).1 (hs 0).2
  have hk := small_one (hs 1).1 (hs 1).2
  have f0 := (hs 0).1
  have f9 := (hs 0).2
  have k0 := (hs 1).1
  have k9 := (hs 1).2
  have hpk : pickI (t.nm 0) 1 = one1 (l.getD 0 0) := by rw [hl.nm 0 (by omega)]; rfl
  have hpk1 : pickI (t.nm 1) 1 = one1 (l.getD 1 0) := by rw [hl.nm 1 (by omega)]; rfl
  have hpk2 : pickI (t.nm 1) 9999 = pickI (l.getD 1 0) 9999 := by rw [hl.nm 1 (by omega)]
  have c17 := h.f17
  rw [hl.nm 0 (by omega)] at c17
  have x0 := ok.x0
  have x1 := ok.x1
  have y0 := ok.y0
  have y1 := ok.y1
  have w2 := ok.w2
  have h2 := ok.h2
  have HDn : Hid (doneR s l 74 = eraR s (l.getD 0 0) true) := by
    show _ = _
    simp [doneR]
  clear hl hs ok h
  generalize l.getD 1 0 = kk at *
  generalize l.getD 0 0 = ff at *
  generalize one1 kk = k at *
  generalize one1 ff = n at *
  obtain ⟨n1, n9⟩ := hn
  obtain ⟨k1, k99⟩ := hk
  go_enter Tryd.func83, Tryd.ntmps83
  go_wp2_with fail
  go_at_call 93
  refine (qCounted bs bg g N s t 0 1 _ HP.out (by omega)).mono ?_
  rintro e w' ⟨rfl, hw'⟩
  replace hw' := hw'.symm
  subst hw'
  rw [hpk]
  go_wp2_with fail
  go_at_call 95
  refine (sEraseLines bs bg g N s t ff _ HP.out Hok.out).mono ?_
  rintro e w5 ⟨rfl, P5, K5⟩
  go_wp2_with fail
  go_end0
  refine ⟨rfl, ?_, K5⟩
  rw [HDn.out]
  exact P5
set_option maxRecDepth 10000 in
set_option maxHeartbeats 2000000 in
theorem sDoS (bs bg g N : Nat) (s : Rs) (t : Pt) (l : List Int) (w : World) (h : PrAt w bs bg g N s t) (ok : s.Ok) (hl : NumsIs t l) (hs : Small l) :
    Calls Tryd.prog 83 #[.pointer (some ⟨bs, 0, none⟩), .int .u8 83] w (SPost bs bg g N w (doneR s l 83) t (.tuple #[])) := by
  have HP : Hid (PrAt w bs bg g N s t) := h
  have Hok : Hid s.Ok := ok
  have hn := small_one (hs 0).1 (hs 0).2
  have hk := small_one (hs 1).1 (hs 1).2
  have f0 := (hs 0).1
  have f9 := (hs 0).2
  have k0 := (hs 1).1
  have k9 := (hs 1).2
  have hpk : pickI (t.nm 0) 1 = one1 (l.getD 0 0) := by rw [hl.nm 0 (by omega)]; rfl
  have hpk1 : pickI (t.nm 1) 1 = one1 (l.getD 1 0) := by rw [hl.nm 1 (by omega)]; rfl
  have hpk2 : pickI (t.nm 1) 9999 = pickI (l.getD 1 0) 9999 := by rw [hl.nm 1 (by omega)]
  have c17 := h.f17
  rw [hl.nm 0 (by omega)] at c17
  have x0 := ok.x0
  have x1 := ok.x1
  have y0 := ok.y0
  have y1 := ok.y1
  have w2 := ok.w2
  have h2 := ok.h2
  have HDn : Hid (doneR s l 83 = { s with G := scrollG s.top s.bot (one1 (l.getD 0 0)) (backR s) s.G }) := by
    show _ = _
    simp [doneR]
  clear hl hs ok h
  generalize l.getD 1 0 = kk at *
  generalize l.getD 0 0 = ff at *
  generalize one1 kk = k at *
  generalize one1 ff = n at *
  obtain ⟨n1, n9⟩ := hn
  obtain ⟨k1, k99⟩ := hk
  go_enter Tryd.func83, Tryd.ntmps83
  go_wp2_with fail
  go_at_call 93
  refine (qCounted bs bg g N s t 0 1 _ HP.out (by omega)).mono ?_
  rintro e w' ⟨rfl, hw'⟩
  replace hw' := hw'.symm
  subst hw'
  rw [hpk]
  go_wp2_with fail
  go_at_call 97
  refine (sScroll bs bg g N s t n _ HP.out Hok.out.t0 Hok.out.tb Hok.out.b1).mono ?_
  rintro e w5 ⟨rfl, P5, K5⟩
  go_wp2_with fail
  go_end0
  refine ⟨rfl, ?_, K5⟩
  rw [HDn.out]
  exact P5
set_option maxRecDepth 10000 in
set_option maxHeartbeats 2000000 in
theorem sDoT (bs bg g N : Nat) (s : Rs) (t : Pt) (l : List Int) (w : World) (h : PrAt w bs bg g N s t) (ok : s.Ok) (hl : NumsIs t l) (hs : Small l) :
    Calls Tryd.prog 83 #[.pointer (some ⟨bs, 0, none⟩), .int .u8 84] w (SPost bs bg g N w (doneR s l 84) t (.tuple #[])) := by
  have HP : Hid (PrAt w bs bg g N s t) := h
  have Hok : Hid s.Ok := ok
  have hn := small_one (hs 0).1 (hs 0).2
  have hk := small_one (hs 1).1 (hs 1).2
  have f0 := (hs 0).1
  have f9 := (hs 0).2
  have k0 := (hs 1).1
  have k9 := (hs 1).2
  have hpk : pickI (t.nm 0) 1 = one1 (l.getD 0 0) := by rw [hl.nm 0 (by omega)]; rfl
  have hpk1 : pickI (t.nm 1) 1 = one1 (l.getD 1 0) := by rw [hl.nm 1 (by omega)]; rfl
  have hpk2 : pickI (t.nm 1) 9999 = pickI (l.getD 1 0) 9999 := by rw [hl.nm 1 (by omega)]
  have c17 := h.f17
  rw [hl.nm 0 (by omega)] at c17
  have x0 := ok.x0
  have x1 := ok.x1
  have y0 := ok.y0
  have y1 := ok.y1
  have w2 := ok.w2
  have h2 := ok.h2
  have HDn : Hid (doneR s l 84 = { s with G := scrollG s.top s.bot (-(one1 (l.getD 0 0))) (backR s) s.G }) := by
    show _ = _
    simp [doneR]
  clear hl hs ok h
  generalize l.getD 1 0 = kk at *
  generalize l.getD 0 0 = ff at *
  generalize one1 kk = k at *
  generalize one1 ff = n at *
  obtain ⟨n1, n9⟩ := hn
  obtain ⟨k1, k99⟩ := hk
  go_enter Tryd.func83, Tryd.ntmps83
  go_wp2_with fail
  go_at_call 93
  refine (qCounted bs bg g N s t 0 1 _ HP.out (by omega)).mono ?_
  rintro e w' ⟨rfl, hw'⟩
  replace hw' := hw'.symm
  subst hw'
  rw [hpk]
  go_wp2_with fail
  go_at_call 97
  refine (sScroll bs bg g N s t (-n) _ HP.out Hok.out.t0 Hok.out.tb Hok.out.b1).mono ?_
  rintro e w5 ⟨rfl, P5, K5⟩
  go_wp2_with fail
  go_end0
  refine ⟨rfl, ?_, K5⟩
  rw [HDn.out]
  exact P5
set_option maxRecDepth 10000 in
set_option maxHeartbeats 2000000 in
theorem sDoR (bs bg g N : Nat) (s : Rs) (t : Pt) (l : List Int) (w : World) (h : PrAt w bs bg g N s t) (ok : s.Ok) (hl : NumsIs t l) (hs : Small l) :
    Calls Tryd.prog 83 #[.pointer (some ⟨bs, 0, none⟩), .int .u8 114] w (SPost bs bg g N w (doneR s l 114) t (.tuple #[])) := by
  have HP : Hid (PrAt w bs bg g N s t) := h
  have Hok : Hid s.Ok := ok
  have hn := small_one (hs 0).1 (hs 0).2
  have hk := small_one (hs 1).1 (hs 1).2
  have f0 := (hs 0).1
  have f9 := (hs 0).2
  have k0 := (hs 1).1
  have k9 := (hs 1).2
  have hpk : pickI (t.nm 0) 1 = one1 (l.getD 0 0) := by rw [hl.nm 0 (by omega)]; rfl
  have hpk1 : pickI (t.nm 1) 1 = one1 (l.getD 1 0) := by rw [hl.nm 1 (by omega)]; rfl
  have hpk2 : pickI (t.nm 1) 9999 = pickI (l.getD 1 0) 9999 := by rw [hl.nm 1 (by omega)]
  have c17 := h.f17
  rw [hl.nm 0 (by omega)] at c17
  have x0 := ok.x0
  have x1 := ok.x1
  have y0 := ok.y0
  have y1 := ok.y1
  have w2 := ok.w2
  have h2 := ok.h2
  have HDn : Hid (doneR s l 114 = marginsR s (one1 (l.getD 0 0)) (l.getD 1 0)) := by
    show _ = _
    simp [doneR]
  clear hl hs ok h
  generalize l.getD 1 0 = kk at *
  generalize l.getD 0 0 = ff at *
  generalize one1 kk = k at *
  generalize one1 ff = n at *
  obtain ⟨n1, n9⟩ := hn
  obtain ⟨k1, k99⟩ := hk
  go_enter Tryd.func83, Tryd.ntmps83
  go_wp2_with fail
  go_at_call 93
  refine (qCounted bs bg g N s t 0 1 _ HP.out (by omega)).mono ?_
  rintro e w' ⟨rfl, hw'⟩
  replace hw' := hw'.symm
  subst hw'
  rw [hpk]
  go_wp2_with fail
  go_at_call 93
  refine (qCounted bs bg g N s t 1 9999 _ HP.out (by omega)).mono ?_
  rintro e w' ⟨rfl, hw'⟩
  replace hw' := hw'.symm
  subst hw'
  rw [hpk2]
  go_wp2_with fail
  go_at_call 98
  refine (sMargins bs bg g N s t n kk _ HP.out Hok.out k0 n1 n9).mono ?_
  rintro e w5 ⟨rfl, P5, K5⟩
  go_wp2_with fail
  go_end0
  refine ⟨rfl, ?_, K5⟩
  rw [HDn.out]
  exact P5
set_option maxRecDepth 10000 in
set_option maxHeartbeats 2000000 in
theorem sDoX (bs bg g N : Nat) (s : Rs) (t : Pt) (l : List Int) (w : World) (h : PrAt w bs bg g N s t) (ok : s.Ok) (hl : NumsIs t l) (hs : Small l) :
    Calls Tryd.prog 83 #[.pointer (some ⟨bs, 0, none⟩), .int .u8 88] w (SPost bs bg g N w (doneR s l 88) t (.tuple #[])) := by
  have HP : Hid (PrAt w bs bg g N s t) := h
  have Hok : Hid s.Ok := ok
  have hn := small_one (hs 0).1 (hs 0).2
  have hk := small_one (hs 1).1 (hs 1).2
  have f0 := (hs 0).1
  have f9 := (hs 0).2
  have k0 := (hs 1).1
  have k9 := (hs 1).2
  have hpk : pickI (t.nm 0) 1 = one1 (l.getD 0 0) := by rw [hl.nm 0 (by omega)]; rfl
  have hpk1 : pickI (t.nm 1) 1 = one1 (l.getD 1 0) := by rw [hl.nm 1 (by omega)]; rfl
  have hpk2 : pickI (t.nm 1) 9999 = pickI (l.getD 1 0) 9999 := by rw [hl.nm 1 (by omega)]
  have c17 := h.f17
  rw [hl.nm 0 (by omega)] at c17
  have x0 := ok.x0
  have x1 := ok.x1
  have y0 := ok.y0
  have y1 := ok.y1
  have w2 := ok.w2
  have h2 := ok.h2
  have HDn : Hid (doneR s l 88 = { s with G := wrt s.G (rg s.x (s.x + (one1 (l.getD 0 0))) s.y.toNat) (fun _ _ => blk (backR s)) }) := by
    show _ = _
    simp [doneR]
  clear hl hs ok h
  generalize l.getD 1 0 = kk at *
  generalize l.getD 0 0 = ff at *
  generalize one1 kk = k at *
  generalize one1 ff = n at *
  obtain ⟨n1, n9⟩ := hn
  obtain ⟨k1, k99⟩ := hk
  go_enter Tryd.func83, Tryd.ntmps83
  go_wp2_with fail
  go_at_call 93
  refine (qCounted bs bg g N s t 0 1 _ HP.out (by omega)).mono ?_
  rintro e w' ⟨rfl, hw'⟩
  replace hw' := hw'.symm
  subst hw'
  rw [hpk]
  obtain ⟨Y, hY⟩ : ∃ Y : Nat, s.y = Y := ⟨s.y.toNat, by omega⟩
  have hYH : Y < s.H := by omega
  have c1 := HP.out.f1
  have c2 := HP.out.f2
  rw [hY] at c2
  have HY : Hid (s.y = Y) := hY
  clear hY
  have wr4 : IntKind.i64.wrap (s.x + n) = s.x + n := wrap_id _ (by omega) (by omega)
  go_wp2_with fail
  have HD : Hid (PrAt w.drew bs bg g N s t) := HP.out.drew
  go_region_held3 (fun w' => w'.cell? ⟨bs, 1, none⟩ = some (.int .i64 s.x) ∧ w'.cell? ⟨bs, 2, none⟩ = some (.int .i64 (Y : Int))) (simp [*]) (first | (go_at_call 96; refine (sErase bs bg g N s t s.x (s.x + n) Y _ HD.out Hok.out.wf hYH).mono ?_; rintro e w3 ⟨rfl, P3, K3⟩; have e1 := P3.f1; have e2 := P3.f2; simp only [HY.out] at e2))
  go_wp2_with fail
  go_end0
  refine ⟨rfl, ?_, ((Keep.refl _ w).drew).trans K3 (fun _ _ h => h)⟩
  rw [HDn.out]
  refine P3.congr _ rfl rfl rfl ?_
  rw [HY.out]
  exact erase_rg Hok.out.wf _ _ _ _
end Go.Proofs.YtknhohbepkapdaaDoor

/- The program's screen: a sequence is done: m, others. -/
namespace Go.Proofs.YtknhohbepkapdaaDoor
open Go.RowKit
attribute [local go_sem ↓] Go.wp_at_zero Go.wp_at_succ
def pensTo (s : Rs) (l : List Int) (j : Nat) : Rs := { s with pen := ((begunL l).take j).foldl penN s.pen }
theorem begun_length (l : List Int) : (begunL l).length = if l.length = 0 then 1 else l.length := by
  unfold begunL
  by_cases h : l = []
  · subst h; rfl
  · rw [if_neg h, if_neg (fun q => h (List.eq_nil_of_length_eq_zero q))]
theorem begun_at (l : List Int) (j : Nat) (h : j < (begunL l).length) : (begunL l)[j] = l.getD j 0 := by
  unfold begunL at h ⊢
  by_cases e : l = []
  · subst e
    simp at h
    subst h
    rfl
  · simp only [if_neg e] at h ⊢
    simp [List.getD_eq_getElem?_getD, h]
theorem pens_step (s : Rs) (l : List Int) (j : Nat) (h : j < (begunL l).length) : penR (pensTo s l j) (l.getD j 0) = pensTo s l (j + 1) := by
  unfold penR pensTo
  rw [List.take_succ_eq_append_getElem h, List.foldl_append, begun_at l j h]
  rfl
theorem pens_all (s : Rs) (l : List Int) : pensTo s l (begunL l).length = pensR s (begunL l) := by
  unfold pensTo pensR
  rw [List.take_length]
set_option maxRecDepth 10000 in
set_option maxHeartbeats 2000000 in
theorem sDoM (bs bg g N : Nat) (s : Rs) (t : Pt) (l : List Int) (w : World) (h : PrAt w bs bg g N s t) (hl : NumsIs t l) :
    Calls Tryd.prog 83 #[.pointer (some ⟨bs, 0, none⟩), .int .u8 109] w (SPost bs bg g N w (doneR s l 109) t (.tuple #[])) := by
  have HP : Hid (PrAt w bs bg g N s t) := h
  have hpk : pickI (t.nm 0) 1 = one1 (l.getD 0 0) := by rw [hl.nm 0 (by omega)]; rfl
  have HDn : Hid (doneR s l 109 = pensTo s l (begunL l).length) := by
    rw [pens_all]
    show _ = _
    simp [doneR]
  have Hl : Hid (NumsIs t l) := hl
  have hle := hl.le
  obtain ⟨m, hm⟩ : ∃ m, (begunL l).length = m := ⟨_, rfl⟩
  have Hm : Hid ((begunL l).length = m) := hm
  have Hm' : Hid ((if l.length = 0 then 1 else l.length) = m) := by rw [← hm]; exact (begun_length l).symm
  have m8 : m ≤ 8 := by have := Hm'.out; split at this <;> omega
  clear h hl hm
  go_enter Tryd.func83, Tryd.ntmps83
  go_wp2_with fail
  go_at_call 93
  refine (qCounted bs bg g N s t 0 1 _ HP.out (by omega)).mono ?_
  rintro e w' ⟨rfl, hw'⟩
  replace hw' := hw'.symm
  subst hw'
  rw [hpk]
  go_wp2_with fail
  go_at_call 99
  refine (qAll bs bg g N s t _ HP.out l.length Hl.out.cn Hl.out.le).mono ?_
  rintro e wa ⟨rfl, hb⟩
  have HP1 : Hid (PrAt wa bs bg g N (pensTo s l 0) t) := HP.out.below hb
  have HK1 : Hid (Keep (fun i => i = bs ∨ i = bg ∨ i = g) w wa) := Keep.below _ hb
  rw [Hm'.out]
  clear hb HP
  go_wp2_with fail
  clear hpk
  go_loopw [144] (fun i w' => ∃ j : Nat, j ≤ m ∧ i = .int .i64 j ∧ PrAt w' bs bg g N (pensTo s l j) t ∧ Keep (fun i => i = bs ∨ i = bg ∨ i = g) w w') (fun i _ => m - (intOf i).toNat)
  case atStart => exact ⟨0, by omega, rfl, HP1.out, HK1.out⟩
  case round =>
    obtain ⟨j, hj, rfl, hPj, hKj⟩ := hrel
    have HPj : Hid (PrAt wr bs bg g N (pensTo s l j) t) := hPj
    have HKj : Hid (Keep (fun i => i = bs ∨ i = bg ∨ i = g) w wr) := hKj
    clear hPj hKj HP1 HK1
    by_cases hlt : j < m
    · have hlt' : (j : Int) < m := by omega
      have cj := HPj.out.num j (by omega)
      rw [Hl.out.nm j (by omega)] at cj
      generalize hq : l.getD j 0 = q at *
      have Hq : Hid (l.getD j 0 = q) := hq
      clear hq
      go_wp2_with fail
      go_at_call 100
      refine (sChangePen bs bg g N (pensTo s l j) t q _ HPj.out).mono ?_
      rintro e w3 ⟨rfl, P3, K3⟩
      have HP3 : Hid (PrAt w3 bs bg g N (pensTo s l (j + 1)) t) := by
        rw [← pens_step s l j (by have := Hm.out; omega), Hq.out]; exact P3
      have HK3 : Hid (Keep (fun i => i = bs ∨ i = bg ∨ i = g) w w3) := HKj.out.trans K3 (fun _ _ h => h)
      clear P3 K3 HPj HKj cj
      go_wp2_with fail
      exact ⟨⟨j + 1, by omega, by simp, HP3.out, HK3.out⟩, by simp only [intOf]; omega⟩
    · have hjm : j = m := by omega
      subst hjm
      go_wp2_with fail
      go_end0
      refine ⟨rfl, ?_, HKj.out⟩
      rw [HDn.out, Hm.out]
      exact HPj.out
set_option maxRecDepth 10000 in
theorem sDoN (bs bg g N : Nat) (s : Rs) (t : Pt) (l : List Int) (c : Int) (w : World) (h : PrAt w bs bg g N s t) (hc : ¬ c = 65 ∧ ¬ c = 66 ∧ ¬ c = 67 ∧ ¬ c = 68 ∧ ¬ c = 72 ∧ ¬ c = 75 ∧ ¬ c = 74 ∧ ¬ c = 88 ∧ ¬ c = 83 ∧ ¬ c = 84 ∧ ¬ c = 114 ∧ ¬ c = 109) :
    Calls Tryd.prog 83 #[.pointer (some ⟨bs, 0, none⟩), .int .u8 c] w (SPost bs bg g N w (doneR s l c) t (.tuple #[])) := by
  have HP : Hid (PrAt w bs bg g N s t) := h
  obtain ⟨a1, a2, a3, a4, a5, a6, a7, a8, a9, a10, a11, a12⟩ := hc
  have HDn : Hid (doneR s l c = oddR s) := by
    show _ = _
    simp [doneR, a1, a2, a3, a4, a5, a6, a7, a8, a9, a10, a11, a12]
  clear h
  go_enter Tryd.func83, Tryd.ntmps83
  go_wp2_with (first | (go_at_call 93; refine (qCounted bs bg g N s t 0 1 _ HP.out (by omega)).mono ?_; rintro e w' ⟨rfl, hw'⟩; replace hw' := hw'.symm; subst hw'))
  go_end0
  refine ⟨rfl, ?_, Keep.refl _ w⟩
  rw [HDn.out]
  exact HP.out.congr _ rfl rfl rfl (fun _ _ _ _ => rfl)
end Go.Proofs.YtknhohbepkapdaaDoor
