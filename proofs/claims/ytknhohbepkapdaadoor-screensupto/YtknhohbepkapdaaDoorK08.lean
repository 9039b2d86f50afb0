/- Texts of the proof, one behind the other: PsG, PsH, PsI, PsJ, PsK. -/
import Derived.Test.YtknhohbepkapdaaDoorK07
import Derived.Deep.RegionWith
/- The program's screen: pens, erasing of lines, margins. -/
namespace Go.Proofs.YtknhohbepkapdaaDoor
open Go.RowKit
attribute [local go_sem ↓] Go.wp_at_zero Go.wp_at_succ
theorem PrAt.setPenF {w : World} {bs bg g N : Nat} {s : Rs} {t : Pt} (h : PrAt w bs bg g N s t) (v : Int) : PrAt (w.setCell ⟨bs, 4, none⟩ (.int .i64 v)) bs bg g N { s with pen := { s.pen with f := v } } t := h.store 4 _ _ _ rfl rfl rfl rfl
theorem PrAt.setPenB {w : World} {bs bg g N : Nat} {s : Rs} {t : Pt} (h : PrAt w bs bg g N s t) (v : Int) : PrAt (w.setCell ⟨bs, 5, none⟩ (.int .i64 v)) bs bg g N { s with pen := { s.pen with b := v } } t := h.store 5 _ _ _ rfl rfl rfl rfl
theorem PrAt.setPenO {w : World} {bs bg g N : Nat} {s : Rs} {t : Pt} (h : PrAt w bs bg g N s t) (v : Bool) : PrAt (w.setCell ⟨bs, 6, none⟩ (.bool v)) bs bg g N { s with pen := { s.pen with bo := v } } t := h.store 6 _ _ _ rfl rfl rfl rfl
theorem PrAt.setPenU {w : World} {bs bg g N : Nat} {s : Rs} {t : Pt} (h : PrAt w bs bg g N s t) (v : Bool) : PrAt (w.setCell ⟨bs, 7, none⟩ (.bool v)) bs bg g N { s with pen := { s.pen with un := v } } t := h.store 7 _ _ _ rfl rfl rfl rfl
theorem PrAt.setPenR {w : World} {bs bg g N : Nat} {s : Rs} {t : Pt} (h : PrAt w bs bg g N s t) (v : Bool) : PrAt (w.setCell ⟨bs, 8, none⟩ (.bool v)) bs bg g N { s with pen := { s.pen with re := v } } t := h.store 8 _ _ _ rfl rfl rfl rfl
set_option maxHeartbeats 4000000 in
theorem sChangePen (bs bg g N : Nat) (s : Rs) (t : Pt) (n : Int) (w : World) (h : PrAt w bs bg g N s t) :
    Calls Tryd.prog 100 #[.pointer (some ⟨bs, 4, none⟩), .int .i64 n] w (SPost bs bg g N w (penR s n) t (.tuple #[])) := by
  have f4 := h.f4
  have f5 := h.f5
  have f6 := h.f6
  have f7 := h.f7
  have f8 := h.f8
  have fr := h.free
  have HR : Hid (PrAt w bs bg g N s t) := h
  clear h
  by_cases h0 : n = 0
  · subst h0
    go_enter Tryd.func100, Tryd.ntmps100
    go_wp2_with (first | (go_at_call 43; refine (pWithin _ _ _ _).mono ?_; rintro e w' ⟨rfl, hw'⟩; replace hw' := hw'.symm; subst hw'))
    go_end0
    exact ⟨rfl, ((((HR.out.setPenF 0).setPenB 0).setPenO false).setPenU false).setPenR false, (((((Keep.refl _ w).setCell ⟨bs, 4, none⟩ _ (fun _ => Or.inl rfl)).setCell ⟨bs, 5, none⟩ _ (fun _ => Or.inl rfl)).setCell ⟨bs, 6, none⟩ _ (fun _ => Or.inl rfl)).setCell ⟨bs, 7, none⟩ _ (fun _ => Or.inl rfl)).setCell ⟨bs, 8, none⟩ _ (fun _ => Or.inl rfl)⟩
  by_cases h1 : n = 1
  · subst h1
    go_enter Tryd.func100, Tryd.ntmps100
    go_wp2_with (first | (go_at_call 43; refine (pWithin _ _ _ _).mono ?_; rintro e w' ⟨rfl, hw'⟩; replace hw' := hw'.symm; subst hw'))
    go_end0
    exact ⟨rfl, HR.out.setPenO true, (Keep.refl _ w).setCell ⟨bs, 6, none⟩ _ (fun _ => Or.inl rfl)⟩
  by_cases h22 : n = 22
  · subst h22
    go_enter Tryd.func100, Tryd.ntmps100
    go_wp2_with (first | (go_at_call 43; refine (pWithin _ _ _ _).mono ?_; rintro e w' ⟨rfl, hw'⟩; replace hw' := hw'.symm; subst hw'))
    go_end0
    exact ⟨rfl, HR.out.setPenO false, (Keep.refl _ w).setCell ⟨bs, 6, none⟩ _ (fun _ => Or.inl rfl)⟩
  by_cases h4 : n = 4
  · subst h4
    go_enter Tryd.func100, Tryd.ntmps100
    go_wp2_with (first | (go_at_call 43; refine (pWithin _ _ _ _).mono ?_; rintro e w' ⟨rfl, hw'⟩; replace hw' := hw'.symm; subst hw'))
    go_end0
    exact ⟨rfl, HR.out.setPenU true, (Keep.refl _ w).setCell ⟨bs, 7, none⟩ _ (fun _ => Or.inl rfl)⟩
  by_cases h24 : n = 24
  · subst h24
    go_enter Tryd.func100, Tryd.ntmps100
    go_wp2_with (first | (go_at_call 43; refine (pWithin _ _ _ _).mono ?_; rintro e w' ⟨rfl, hw'⟩; replace hw' := hw'.symm; subst hw'))
    go_end0
    exact ⟨rfl, HR.out.setPenU false, (Keep.refl _ w).setCell ⟨bs, 7, none⟩ _ (fun _ => Or.inl rfl)⟩
  by_cases h7 : n = 7
  · subst h7
    go_enter Tryd.func100, Tryd.ntmps100
    go_wp2_with (first | (go_at_call 43; refine (pWithin _ _ _ _).mono ?_; rintro e w' ⟨rfl, hw'⟩; replace hw' := hw'.symm; subst hw'))
    go_end0
    exact ⟨rfl, HR.out.setPenR true, (Keep.refl _ w).setCell ⟨bs, 8, none⟩ _ (fun _ => Or.inl rfl)⟩
  by_cases h27 : n = 27
  · subst h27
    go_enter Tryd.func100, Tryd.ntmps100
    go_wp2_with (first | (go_at_call 43; refine (pWithin _ _ _ _).mono ?_; rintro e w' ⟨rfl, hw'⟩; replace hw' := hw'.symm; subst hw'))
    go_end0
    exact ⟨rfl, HR.out.setPenR false, (Keep.refl _ w).setCell ⟨bs, 8, none⟩ _ (fun _ => Or.inl rfl)⟩
  by_cases h39 : n = 39
  · subst h39
    go_enter Tryd.func100, Tryd.ntmps100
    go_wp2_with (first | (go_at_call 43; refine (pWithin _ _ _ _).mono ?_; rintro e w' ⟨rfl, hw'⟩; replace hw' := hw'.symm; subst hw'))
    go_end0
    exact ⟨rfl, HR.out.setPenF 0, (Keep.refl _ w).setCell ⟨bs, 4, none⟩ _ (fun _ => Or.inl rfl)⟩
  by_cases h49 : n = 49
  · subst h49
    go_enter Tryd.func100, Tryd.ntmps100
    go_wp2_with (first | (go_at_call 43; refine (pWithin _ _ _ _).mono ?_; rintro e w' ⟨rfl, hw'⟩; replace hw' := hw'.symm; subst hw'))
    go_end0
    exact ⟨rfl, HR.out.setPenB 0, (Keep.refl _ w).setCell ⟨bs, 5, none⟩ _ (fun _ => Or.inl rfl)⟩
  by_cases hr30 : 30 ≤ n ∧ n ≤ 37
  · have HP : Hid (penR s n = { s with pen := { s.pen with f := n - 29 } }) := by
      show penR s n = _
      unfold penR penN
      rw [if_neg h0, if_neg h1, if_neg h22, if_neg h4, if_neg h24, if_neg h7, if_neg h27, if_neg h39, if_neg h49, if_pos hr30]
    have r0 := hr30.1
    have r1 := hr30.2
    have b30 : Wd.inB n 30 37 = true := by simp [Wd.inB, r0, r1]
    go_enter Tryd.func100, Tryd.ntmps100
    go_wp2_with (first | (go_at_call 43; refine (pWithin _ _ _ _).mono ?_; rintro e w' ⟨rfl, hw'⟩; replace hw' := hw'.symm; subst hw'))
    go_end0
    refine ⟨rfl, ?_, (Keep.refl _ w).setCell ⟨bs, 4, none⟩ _ (fun _ => Or.inl rfl)⟩
    rw [HP.out]
    exact HR.out.setPenF _
  by_cases hr40 : 40 ≤ n ∧ n ≤ 47
  · have HP : Hid (penR s n = { s with pen := { s.pen with b := n - 39 } }) := by
      show penR s n = _
      unfold penR penN
      rw [if_neg h0, if_neg h1, if_neg h22, if_neg h4, if_neg h24, if_neg h7, if_neg h27, if_neg h39, if_neg h49, if_neg hr30, if_pos hr40]
    have r0 := hr40.1
    have r1 := hr40.2
    have b30 : Wd.inB n 30 37 = false := by simp [Wd.inB]; omega
    have b40 : Wd.inB n 40 47 = true := by simp [Wd.inB, r0, r1]
    go_enter Tryd.func100, Tryd.ntmps100
    go_wp2_with (first | (go_at_call 43; refine (pWithin _ _ _ _).mono ?_; rintro e w' ⟨rfl, hw'⟩; replace hw' := hw'.symm; subst hw'))
    go_end0
    refine ⟨rfl, ?_, (Keep.refl _ w).setCell ⟨bs, 5, none⟩ _ (fun _ => Or.inl rfl)⟩
    rw [HP.out]
    exact HR.out.setPenB _
  have HP : Hid (penR s n = s) := by
    show penR s n = _
    unfold penR penN
    rw [if_neg h0, if_neg h1, if_neg h22, if_neg h4, if_neg h24, if_neg h7, if_neg h27, if_neg h39, if_neg h49, if_neg hr30, if_neg hr40]
  have b30 : Wd.inB n 30 37 = false := by simp [Wd.inB]; omega
  have b40 : Wd.inB n 40 47 = false := by simp [Wd.inB]; omega
  go_enter Tryd.func100, Tryd.ntmps100
  go_wp2_with (first | (go_at_call 43; refine (pWithin _ _ _ _).mono ?_; rintro e w' ⟨rfl, hw'⟩; replace hw' := hw'.symm; subst hw'))
  go_end0
  refine ⟨rfl, ?_, Keep.refl _ w⟩
  rw [HP.out]
  exact HR.out
end Go.Proofs.YtknhohbepkapdaaDoor

/- The program's screen: erasing of lines. -/
namespace Go.Proofs.YtknhohbepkapdaaDoor
open Go.RowKit
attribute [local go_sem ↓] Go.wp_at_zero Go.wp_at_succ
theorem era_line {s : Rs} (hw : Wf s.W s.H s.G) {x0 x1 how : Int} {Y : Nat} (hY : s.y = Y) (h : ∀ a : Nat, a < s.W → (eraB how false s.x s.y a Y = true ↔ x0 ≤ a ∧ (a : Int) < x1)) :
    EqOn s.W s.H (eraseX s.W x0 x1 Y (backR s) s.G) (eraR s how false).G := by
  unfold eraseX eraR
  refine wr_dom hw (fun a b ha hb => ?_) (fun _ _ _ _ _ => rfl)
  by_cases e : b = Y
  · subst e
    have := h a ha
    rw [Bool.eq_iff_iff, this]
    simp [ha]
  · have e' : ¬ (b : Int) = s.y := by omega
    simp [eraB, e, e']
set_option maxHeartbeats 1000000 in
theorem sEraseLine0 (bs bg g N : Nat) (s : Rs) (t : Pt) (w : World) (h : PrAt w bs bg g N s t) (ok : s.Ok) :
    Calls Tryd.prog 94 #[.pointer (some ⟨bs, 0, none⟩), .int .i64 0] w (SPost bs bg g N w (eraR s 0 false) t (.tuple #[])) := by
  have HP : Hid (PrAt w bs bg g N s t) := h
  obtain ⟨Y, hY⟩ : ∃ Y : Nat, s.y = Y := ⟨s.y.toNat, by have := ok.y0; omega⟩
  have hYH : Y < s.H := by have := ok.y1; omega
  have HE : Hid (EqOn s.W s.H (eraseX s.W s.x (s.W : Int) Y (backR s) s.G) (eraR s 0 false).G) := era_line ok.wf hY (fun a ha => by
    have hY' : (Y : Int) = s.y := hY.symm
    simp [eraB, hY']; omega)
  have Hwf : Hid (Wf s.W s.H s.G) := ok.wf
  have c0 := h.f0
  have c1 := h.f1
  have c2 := h.f2
  rw [hY] at c2
  have x0 := ok.x0
  have x1 := ok.x1
  have w2 := ok.w2
  have wx : IntKind.i64.wrap (s.x + 1) = s.x + 1 := wrap_id _ (by omega) (by omega)
  have HY : Hid (s.y = Y) := hY
  clear h ok hY
  go_enter Tryd.func94, Tryd.ntmps94
  go_wp2_with (first | (go_at_call 46; refine (pWidth bg g s.W s.H N s.G _ HP.out.gr).mono ?_; rintro e w' ⟨rfl, hw'⟩; replace hw' := hw'.symm; subst hw'))
  have HD : Hid (PrAt w.drew bs bg g N s t) := HP.out.drew
  go_region_held3 (fun w' => w'.cell? ⟨bs, 1, none⟩ = some (.int .i64 s.x) ∧ w'.cell? ⟨bs, 2, none⟩ = some (.int .i64 (Y : Int))) (simp [*]) (first | (go_at_call 96; refine (sErase bs bg g N s t s.x (s.W : Int) Y _ HD.out Hwf.out hYH).mono ?_; rintro e w3 ⟨rfl, P3, K3⟩; have e1 := P3.f1; have e2 := P3.f2; simp only [HY.out] at e2))
  go_wp2_with fail
  go_end0
  exact ⟨rfl, P3.congr _ rfl rfl rfl HE.out, ((Keep.refl _ w).drew).trans K3 (fun _ _ h => h)⟩
set_option maxHeartbeats 1000000 in
theorem sEraseLine1 (bs bg g N : Nat) (s : Rs) (t : Pt) (w : World) (h : PrAt w bs bg g N s t) (ok : s.Ok) :
    Calls Tryd.prog 94 #[.pointer (some ⟨bs, 0, none⟩), .int .i64 1] w (SPost bs bg g N w (eraR s 1 false) t (.tuple #[])) := by
  have HP : Hid (PrAt w bs bg g N s t) := h
  obtain ⟨Y, hY⟩ : ∃ Y : Nat, s.y = Y := ⟨s.y.toNat, by have := ok.y0; omega⟩
  have hYH : Y < s.H := by have := ok.y1; omega
  have HE : Hid (EqOn s.W s.H (eraseX s.W 0 (s.x + 1) Y (backR s) s.G) (eraR s 1 false).G) := era_line ok.wf hY (fun a ha => by
    have hY' : (Y : Int) = s.y := hY.symm
    simp [eraB, hY']; omega)
  have Hwf : Hid (Wf s.W s.H s.G) := ok.wf
  have c0 := h.f0
  have c1 := h.f1
  have c2 := h.f2
  rw [hY] at c2
  have x0 := ok.x0
  have x1 := ok.x1
  have w2 := ok.w2
  have wx : IntKind.i64.wrap (s.x + 1) = s.x + 1 := wrap_id _ (by omega) (by omega)
  have HY : Hid (s.y = Y) := hY
  clear h ok hY
  go_enter Tryd.func94, Tryd.ntmps94
  go_wp2_with (first | (go_at_call 46; refine (pWidth bg g s.W s.H N s.G _ HP.out.gr).mono ?_; rintro e w' ⟨rfl, hw'⟩; replace hw' := hw'.symm; subst hw'))
  have HD : Hid (PrAt w.drew bs bg g N s t) := HP.out.drew
  go_region_held3 (fun w' => w'.cell? ⟨bs, 1, none⟩ = some (.int .i64 s.x) ∧ w'.cell? ⟨bs, 2, none⟩ = some (.int .i64 (Y : Int))) (simp [*]) (first | (go_at_call 96; refine (sErase bs bg g N s t 0 (s.x + 1) Y _ HD.out Hwf.out hYH).mono ?_; rintro e w3 ⟨rfl, P3, K3⟩; have e1 := P3.f1; have e2 := P3.f2; simp only [HY.out] at e2))
  go_wp2_with fail
  go_end0
  exact ⟨rfl, P3.congr _ rfl rfl rfl HE.out, ((Keep.refl _ w).drew).trans K3 (fun _ _ h => h)⟩
set_option maxHeartbeats 1000000 in
theorem sEraseLine2 (bs bg g N : Nat) (s : Rs) (t : Pt) (w : World) (h : PrAt w bs bg g N s t) (ok : s.Ok) :
    Calls Tryd.prog 94 #[.pointer (some ⟨bs, 0, none⟩), .int .i64 2] w (SPost bs bg g N w (eraR s 2 false) t (.tuple #[])) := by
  have HP : Hid (PrAt w bs bg g N s t) := h
  obtain ⟨Y, hY⟩ : ∃ Y : Nat, s.y = Y := ⟨s.y.toNat, by have := ok.y0; omega⟩
  have hYH : Y < s.H := by have := ok.y1; omega
  have HE : Hid (EqOn s.W s.H (eraseX s.W 0 (s.W : Int) Y (backR s) s.G) (eraR s 2 false).G) := era_line ok.wf hY (fun a ha => by
    have hY' : (Y : Int) = s.y := hY.symm
    simp [eraB, hY']; omega)
  have Hwf : Hid (Wf s.W s.H s.G) := ok.wf
  have c0 := h.f0
  have c1 := h.f1
  have c2 := h.f2
  rw [hY] at c2
  have x0 := ok.x0
  have x1 := ok.x1
  have w2 := ok.w2
  have wx : IntKind.i64.wrap (s.x + 1) = s.x + 1 := wrap_id _ (by omega) (by omega)
  have HY : Hid (s.y = Y) := hY
  clear h ok hY
  go_enter Tryd.func94, Tryd.ntmps94
  go_wp2_with (first | (go_at_call 46; refine (pWidth bg g s.W s.H N s.G _ HP.out.gr).mono ?_; rintro e w' ⟨rfl, hw'⟩; replace hw' := hw'.symm; subst hw'))
  go_at_call 96
  refine (sErase bs bg g N s t 0 (s.W : Int) Y _ HP.out Hwf.out hYH).mono ?_
  rintro e w3 ⟨rfl, P3, K3⟩
  go_wp2_with fail
  go_end0
  exact ⟨rfl, P3.congr _ rfl rfl rfl HE.out, K3⟩
theorem sEraseLineN (bs bg g N : Nat) (s : Rs) (t : Pt) (how : Int) (w : World) (h : PrAt w bs bg g N s t) (h0 : ¬ how = 0) (h1 : ¬ how = 1) (h2 : ¬ how = 2) :
    Calls Tryd.prog 94 #[.pointer (some ⟨bs, 0, none⟩), .int .i64 how] w (SPost bs bg g N w (eraR s how false) t (.tuple #[])) := by
  have HP : Hid (PrAt w bs bg g N s t) := h
  have HE : Hid (eraR s how false = s) := by
    show eraR s how false = s
    unfold eraR
    rw [wr_none _ _ _ (fun a b => by simp [eraB, h0, h1, h2])]
  have c0 := h.f0
  clear h
  go_enter Tryd.func94, Tryd.ntmps94
  go_wp2_with (first | (go_at_call 46; refine (pWidth bg g s.W s.H N s.G _ HP.out.gr).mono ?_; rintro e w' ⟨rfl, hw'⟩; replace hw' := hw'.symm; subst hw'))
  go_end0
  refine ⟨rfl, ?_, Keep.refl _ w⟩
  rw [HE.out]
  exact HP.out
theorem sEraseLine (bs bg g N : Nat) (s : Rs) (t : Pt) (how : Int) (w : World) (h : PrAt w bs bg g N s t) (ok : s.Ok) :
    Calls Tryd.prog 94 #[.pointer (some ⟨bs, 0, none⟩), .int .i64 how] w (SPost bs bg g N w (eraR s how false) t (.tuple #[])) := by
  by_cases h0 : how = 0
  · subst h0; exact sEraseLine0 bs bg g N s t w h ok
  by_cases h1 : how = 1
  · subst h1; exact sEraseLine1 bs bg g N s t w h ok
  by_cases h2 : how = 2
  · subst h2; exact sEraseLine2 bs bg g N s t w h ok
  exact sEraseLineN bs bg g N s t how w h h0 h1 h2
end Go.Proofs.YtknhohbepkapdaaDoor

/- The program's screen: erasing of lines beyond the cursor's. -/
namespace Go.Proofs.YtknhohbepkapdaaDoor
open Go.RowKit
attribute [local go_sem ↓] Go.wp_at_zero Go.wp_at_succ
/-- The cursor's line and the first j lines have been looked at. -/
def eraJ (s : Rs) (how : Int) (j : Nat) : Rs := { s with G := wrt s.G (fun a b => eraB how true s.x s.y a b && (decide ((b : Int) = s.y) || decide (b < j))) (fun _ _ => blk (backR s)) }
theorem eraJ_0 (s : Rs) (how : Int) : eraR s how false = eraJ s how 0 := by
  unfold eraR eraJ
  congr 1
  exact wr_congr (fun a b => by simp [eraB])
theorem eraJ_all {s : Rs} (hw : Wf s.W s.H s.G) (how : Int) : EqOn s.W s.H (eraJ s how s.H).G (eraR s how true).G := by
  unfold eraR eraJ
  refine wr_dom hw (fun a b ha hb => ?_) (fun _ _ _ _ _ => rfl)
  simp [hb]
def goneL (how Y : Int) (j : Nat) : Prop := (how = 0 ∧ Y < j) ∨ (how = 1 ∧ (j : Int) < Y) ∨ how = 2
theorem eraJ_no {s : Rs} (hw : Wf s.W s.H s.G) {how : Int} {j : Nat} (h : ¬ goneL how s.y j) : EqOn s.W s.H (eraJ s how j).G (eraJ s how (j + 1)).G := by
  unfold eraJ
  refine wr_dom hw (fun a b ha hb => ?_) (fun _ _ _ _ _ => rfl)
  unfold goneL at h
  rw [Bool.eq_iff_iff]
  simp only [eraB, Bool.and_eq_true, Bool.or_eq_true, decide_eq_true_eq, Bool.true_or, and_true]
  constructor
  · rintro ⟨p, q⟩; exact ⟨p, by omega⟩
  · rintro ⟨p, q⟩; exact ⟨p, by omega⟩
theorem eraJ_yes {s : Rs} (hw : Wf s.W s.H s.G) {how : Int} {j : Nat} (h : goneL how s.y j) : EqOn s.W s.H (eraseX s.W 0 s.W j (backR s) (eraJ s how j).G) (eraJ s how (j + 1)).G := by
  unfold eraJ eraseX
  rw [wr_wr _ _ _ _ _ (fun _ _ _ _ => rfl)]
  refine wr_dom hw (fun a b ha hb => ?_) (fun a b _ _ _ => by simp)
  unfold goneL at h
  rw [Bool.eq_iff_iff]
  simp only [eraB, Bool.and_eq_true, Bool.or_eq_true, decide_eq_true_eq, Bool.true_or, and_true]
  constructor
  · rintro (⟨p, q⟩ | ⟨⟨⟨p, q⟩, r⟩, u⟩)
    · exact ⟨p, by omega⟩
    · exact ⟨by omega, by omega⟩
  · rintro ⟨p, q⟩
    by_cases e : b = j
    · right; exact ⟨⟨⟨e, by omega⟩, by omega⟩, ha⟩
    · left; exact ⟨p, by omega⟩
set_option maxHeartbeats 2000000 in
theorem sEraseLines (bs bg g N : Nat) (s : Rs) (t : Pt) (how : Int) (w : World) (h : PrAt w bs bg g N s t) (ok : s.Ok) :
    Calls Tryd.prog 95 #[.pointer (some ⟨bs, 0, none⟩), .int .i64 how] w (SPost bs bg g N w (eraR s how true) t (.tuple #[])) := by
  have HP : Hid (PrAt w bs bg g N s t) := h
  have Hok : Hid s.Ok := ok
  have y0 := ok.y0
  have y1 := ok.y1
  have h2 := ok.h2
  clear h ok
  go_enter Tryd.func95, Tryd.ntmps95
  go_wp2_with fail
  go_at_call 94
  refine (sEraseLine bs bg g N s t how _ HP.out Hok.out).mono ?_
  rintro e wa ⟨rfl, P1, K1⟩
  rw [eraJ_0] at P1
  have c0 := P1.f0
  have HP1 : Hid (PrAt wa bs bg g N (eraJ s how 0) t) := P1
  have HK1 : Hid (Keep (fun i => i = bs ∨ i = bg ∨ i = g) w wa) := K1
  clear P1 K1
  go_wp2_with (first | (go_at_call 47; refine (pHeight bg g s.W s.H N (eraJ s how 0).G _ HP1.out.gr).mono ?_; rintro e w' ⟨rfl, hw'⟩; replace hw' := hw'.symm; subst hw'))
  go_loopw [13] (fun i w' => ∃ j : Nat, j ≤ s.H ∧ i = .int .i64 j ∧ PrAt w' bs bg g N (eraJ s how j) t ∧ Keep (fun i => i = bs ∨ i = bg ∨ i = g) w w') (fun i _ => s.H - (intOf i).toNat)
  case atStart => exact ⟨0, by omega, rfl, HP1.out, HK1.out⟩
  case round =>
    obtain ⟨j, hj, rfl, hPj, hKj⟩ := hrel
    have HPj : Hid (PrAt wr bs bg g N (eraJ s how j) t) := hPj
    have HKj : Hid (Keep (fun i => i = bs ∨ i = bg ∨ i = g) w wr) := hKj
    have c0 : wr.cell? ⟨bs, 0, none⟩ = some (.pointer (some ⟨bg, 0, none⟩)) := hPj.f0
    have c2 : wr.cell? ⟨bs, 2, none⟩ = some (.int .i64 s.y) := hPj.f2
    clear hPj hKj HP1 HK1 HP
    by_cases hlt : j < s.H
    · have hlt' : (j : Int) < s.H := by omega
      by_cases h0 : how = 0 ∧ s.y < j
      · obtain ⟨rfl, hYj⟩ := h0
        have Hg : Hid (goneL 0 s.y j) := Or.inl ⟨rfl, hYj⟩
        go_wp2_with (first | (go_at_call 46; refine (pWidth bg g s.W s.H N (eraJ s 0 j).G _ HPj.out.gr).mono ?_; rintro e w' ⟨rfl, hw'⟩; replace hw' := hw'.symm; subst hw'))
        go_at_call 96
        refine (sErase bs bg g N (eraJ s 0 j) t 0 s.W j _ HPj.out (Hok.out.wf.blk _ _) hlt).mono ?_
        rintro e w3 ⟨rfl, P3, K3⟩
        have HP3 : Hid (PrAt w3 bs bg g N (eraJ s 0 (j + 1)) t) := P3.congr _ rfl rfl rfl (eraJ_yes Hok.out.wf Hg.out)
        have HK3 : Hid (Keep (fun i => i = bs ∨ i = bg ∨ i = g) w w3) := HKj.out.trans K3 (fun _ _ h => h)
        clear P3 K3 HPj HKj
        go_wp2_with fail
        exact ⟨⟨j + 1, by omega, by simp, HP3.out, HK3.out⟩, by simp only [intOf]; omega⟩
      by_cases h1 : how = 1 ∧ (j : Int) < s.y
      · obtain ⟨rfl, hYj⟩ := h1
        have Hg : Hid (goneL 1 s.y j) := Or.inr (Or.inl ⟨rfl, hYj⟩)
        go_wp2_with (first | (go_at_call 46; refine (pWidth bg g s.W s.H N (eraJ s 1 j).G _ HPj.out.gr).mono ?_; rintro e w' ⟨rfl, hw'⟩; replace hw' := hw'.symm; subst hw'))
        go_at_call 96
        refine (sErase bs bg g N (eraJ s 1 j) t 0 s.W j _ HPj.out (Hok.out.wf.blk _ _) hlt).mono ?_
        rintro e w3 ⟨rfl, P3, K3⟩
        have HP3 : Hid (PrAt w3 bs bg g N (eraJ s 1 (j + 1)) t) := P3.congr _ rfl rfl rfl (eraJ_yes Hok.out.wf Hg.out)
        have HK3 : Hid (Keep (fun i => i = bs ∨ i = bg ∨ i = g) w w3) := HKj.out.trans K3 (fun _ _ h => h)
        clear P3 K3 HPj HKj
        go_wp2_with fail
        exact ⟨⟨j + 1, by omega, by simp, HP3.out, HK3.out⟩, by simp only [intOf]; omega⟩
      by_cases h3 : how = 2
      · subst h3
        have Hg : Hid (goneL 2 s.y j) := Or.inr (Or.inr rfl)
        go_wp2_with (first | (go_at_call 46; refine (pWidth bg g s.W s.H N (eraJ s 2 j).G _ HPj.out.gr).mono ?_; rintro e w' ⟨rfl, hw'⟩; replace hw' := hw'.symm; subst hw'))
        go_at_call 96
        refine (sErase bs bg g N (eraJ s 2 j) t 0 s.W j _ HPj.out (Hok.out.wf.blk _ _) hlt).mono ?_
        rintro e w3 ⟨rfl, P3, K3⟩
        have HP3 : Hid (PrAt w3 bs bg g N (eraJ s 2 (j + 1)) t) := P3.congr _ rfl rfl rfl (eraJ_yes Hok.out.wf Hg.out)
        have HK3 : Hid (Keep (fun i => i = bs ∨ i = bg ∨ i = g) w w3) := HKj.out.trans K3 (fun _ _ h => h)
        clear P3 K3 HPj HKj
        go_wp2_with fail
        exact ⟨⟨j + 1, by omega, by simp, HP3.out, HK3.out⟩, by simp only [intOf]; omega⟩
      have Hg : Hid (¬ goneL how s.y j) := by show ¬ goneL how s.y j; unfold goneL; omega
      by_cases h4 : how = 0
      · subst h4
        have hYj : ¬ s.y < (j : Int) := by omega
        go_wp2_with fail
        exact ⟨⟨j + 1, by omega, by simp, HPj.out.congr _ rfl rfl rfl (eraJ_no Hok.out.wf Hg.out), HKj.out⟩, by simp only [intOf]; omega⟩
      by_cases h5 : how = 1
      · subst h5
        have hYj : ¬ (j : Int) < s.y := by omega
        go_wp2_with fail
        exact ⟨⟨j + 1, by omega, by simp, HPj.out.congr _ rfl rfl rfl (eraJ_no Hok.out.wf Hg.out), HKj.out⟩, by simp only [intOf]; omega⟩
      · clear h0 h1
        go_wp2_with fail
        exact ⟨⟨j + 1, by omega, by simp, HPj.out.congr _ rfl rfl rfl (eraJ_no Hok.out.wf Hg.out), HKj.out⟩, by simp only [intOf]; omega⟩
    · have hjH : j = s.H := by omega
      subst hjH
      go_wp2_with fail
      go_end0
      exact ⟨rfl, HPj.out.congr _ rfl rfl rfl (eraJ_all Hok.out.wf how), HKj.out⟩
end Go.Proofs.YtknhohbepkapdaaDoor

/- The program's screen: margins. -/
namespace Go.Proofs.YtknhohbepkapdaaDoor
open Go.RowKit
attribute [local go_sem ↓] Go.wp_at_zero Go.wp_at_succ
theorem low_least {H : Nat} {k : Int} (h2 : H ≤ 20) : leastI (pickI k 9999) H = lowR2 H k := by
  unfold leastI pickI lowR2
  (repeat' split) <;> omega
set_option maxHeartbeats 1000000 in
theorem sMargins (bs bg g N : Nat) (s : Rs) (t : Pt) (n k : Int) (w : World) (h : PrAt w bs bg g N s t) (ok : s.Ok) (k0 : 0 ≤ k) (n1 : 1 ≤ n) (n9 : n ≤ 9999) :
    Calls Tryd.prog 98 #[.pointer (some ⟨bs, 0, none⟩), .int .i64 n, .int .i64 (pickI k 9999)] w (SPost bs bg g N w (marginsR s n k) t (.tuple #[])) := by
  have HP : Hid (PrAt w bs bg g N s t) := h
  have c0 := h.f0
  have c9 := h.f9
  have c10 := h.f10
  have fz := h.free
  have h1 := ok.h1
  have h2 := ok.h2
  have hL := low_least (H := s.H) (k := k) h2
  have L1 : 1 ≤ lowR2 s.H k := by unfold lowR2; split <;> omega
  have LH : lowR2 s.H k ≤ s.H := by unfold lowR2; split <;> omega
  have HM : Hid (∀ c : Prop, [Decidable c] → (c ↔ n < lowR2 s.H k ∨ (s.H = 1 ∧ n = 1)) → marginsR s n k = if c then goesR { s with top := n - 1, bot := lowR2 s.H k - 1 } 0 0 else s) := fun c _ hc => by
    unfold marginsR
    by_cases q : c
    · rw [if_pos (hc.1 q), if_pos q]
    · rw [if_neg (fun z => q (hc.2 z)), if_neg q]
  generalize lowR2 s.H k = L at *
  generalize pickI k 9999 = kk at *
  clear h ok
  by_cases a : n < L
  · have HM1 : Hid (marginsR s n k = goesR { s with top := n - 1, bot := L - 1 } 0 0) := by
      have := HM.out True (by simp [a])
      rwa [if_pos trivial] at this
    go_enter Tryd.func98, Tryd.ntmps98
    go_wp2_with (first | (go_at_call 47; refine (pHeight bg g s.W s.H N s.G _ HP.out.gr).mono ?_; rintro e w' ⟨rfl, hw'⟩; replace hw' := hw'.symm; subst hw') | (go_at_call 66; refine (pLeast _ _ _).mono ?_; rintro e w' ⟨rfl, hw'⟩; replace hw' := hw'.symm; subst hw'))
    go_at_call 45
    refine (sGoTo bs bg g N { s with top := n - 1, bot := L - 1 } t 0 0 _ ((HP.out.setTop _).setBot _)).mono ?_
    rintro e w3 ⟨rfl, P3, K3⟩
    go_wp2_with fail
    go_end0
    refine ⟨rfl, ?_, (((Keep.refl _ w).setCell ⟨bs, 9, none⟩ _ (fun _ => Or.inl rfl)).setCell ⟨bs, 10, none⟩ _ (fun _ => Or.inl rfl)).trans K3 (fun _ _ h => h)⟩
    rw [HM1.out]
    exact P3
  by_cases b : n = L ∧ s.H = 1
  · obtain ⟨b1, b2⟩ := b
    have HM1 : Hid (marginsR s n k = goesR { s with top := n - 1, bot := L - 1 } 0 0) := by
      have := HM.out True (by simp; omega)
      rwa [if_pos trivial] at this
    have b3 : ((s.H : Int) == 1) = true := by simp [b2]
    have b4 : (n == L) = true := by simp [b1]
    have b5 : ¬ n < L := a
    clear b1 b2 a
    go_enter Tryd.func98, Tryd.ntmps98
    go_wp2_with (first | (go_at_call 47; refine (pHeight bg g s.W s.H N s.G _ HP.out.gr).mono ?_; rintro e w' ⟨rfl, hw'⟩; replace hw' := hw'.symm; subst hw') | (go_at_call 66; refine (pLeast _ _ _).mono ?_; rintro e w' ⟨rfl, hw'⟩; replace hw' := hw'.symm; subst hw'))
    go_at_call 45
    refine (sGoTo bs bg g N { s with top := n - 1, bot := L - 1 } t 0 0 _ ((HP.out.setTop _).setBot _)).mono ?_
    rintro e w3 ⟨rfl, P3, K3⟩
    go_wp2_with fail
    go_end0
    refine ⟨rfl, ?_, (((Keep.refl _ w).setCell ⟨bs, 9, none⟩ _ (fun _ => Or.inl rfl)).setCell ⟨bs, 10, none⟩ _ (fun _ => Or.inl rfl)).trans K3 (fun _ _ h => h)⟩
    rw [HM1.out]
    exact P3
  · have HM1 : Hid (marginsR s n k = s) := by
      have := HM.out False (by simp; omega)
      rwa [if_neg id] at this
    by_cases b1 : n = L
    · have b3 : ((s.H : Int) == 1) = false := by simp; omega
      have b4 : (n == L) = true := by simp [b1]
      clear b1 b
      go_enter Tryd.func98, Tryd.ntmps98
      go_wp2_with (first | (go_at_call 47; refine (pHeight bg g s.W s.H N s.G _ HP.out.gr).mono ?_; rintro e w' ⟨rfl, hw'⟩; replace hw' := hw'.symm; subst hw') | (go_at_call 66; refine (pLeast _ _ _).mono ?_; rintro e w' ⟨rfl, hw'⟩; replace hw' := hw'.symm; subst hw'))
      go_end0
      refine ⟨rfl, ?_, Keep.refl _ w⟩
      rw [HM1.out]
      exact HP.out
    · have b4 : (n == L) = false := by simp [b1]
      clear b1 b
      go_enter Tryd.func98, Tryd.ntmps98
      go_wp2_with (first | (go_at_call 47; refine (pHeight bg g s.W s.H N s.G _ HP.out.gr).mono ?_; rintro e w' ⟨rfl, hw'⟩; replace hw' := hw'.symm; subst hw') | (go_at_call 66; refine (pLeast _ _ _).mono ?_; rintro e w' ⟨rfl, hw'⟩; replace hw' := hw'.symm; subst hw'))
      go_end0
      refine ⟨rfl, ?_, Keep.refl _ w⟩
      rw [HM1.out]
      exact HP.out
end Go.Proofs.YtknhohbepkapdaaDoor

/- The program's screen: a sequence is done, with goTo. -/
namespace Go.Proofs.YtknhohbepkapdaaDoor
open Go.RowKit
attribute [local go_sem ↓] Go.wp_at_zero Go.wp_at_succ
/-- The program's numbers are those of a list. -/
structure NumsIs (t : Pt) (l : List Int) : Prop where
  cn : t.cn = l.length
  le : l.length ≤ 8
  nm : ∀ i, i < 8 → t.nm i = l.getD i 0
theorem one_pick (n : Int) : pickI n 1 = one1 n := rfl
theorem small_one {n : Int} (h0 : 0 ≤ n) (h9 : n ≤ 9999) : 1 ≤ one1 n ∧ one1 n ≤ 9999 := by unfold one1; split <;> omega
set_option maxRecDepth 10000 in
set_option maxHeartbeats 2000000 in
theorem sDoA (bs bg g N : Nat) (s : Rs) (t : Pt) (l : List Int) (w : World) (h : PrAt w bs bg g N s t) (ok : s.Ok) (hl : NumsIs t l) (hs : Small l) :
    Calls Tryd.prog 83 #[.pointer (some ⟨bs, 0, none⟩), .int .u8 65] w (SPost bs bg g N w (doneR s l 65) t (.tuple #[])) := by
  have HP : Hid (PrAt w bs bg g N s t) := h
  have Hok : Hid s.Ok := ok
  have hn := small_one (hs 0).1 (hs 0).2
  have hf := hl.nm 0 (by omega)
  have hpk : pickI (t.nm 0) 1 = one1 (l.getD 0 0) := by rw [hf]; rfl
  have x0 := ok.x0
  have x1 := ok.x1
  have y0 := ok.y0
  have y1 := ok.y1
  have w2 := ok.w2
  have h2 := ok.h2
  have HDn : Hid (doneR s l 65 = goesR s s.x (s.y - (one1 (l.getD 0 0)))) := by
    show _ = _
    simp [doneR]
  have Hq : Hid (t.nm 0 = l.getD 0 0) := hf
  clear hf hl hs ok h
  generalize one1 (l.getD 0 0) = n at *
  obtain ⟨n1, n9⟩ := hn
  have wr1 : IntKind.i64.wrap (s.y - n) = s.y - n := wrap_id _ (by omega) (by omega)
  have wr2 : IntKind.i64.wrap (s.y + n) = s.y + n := wrap_id _ (by omega) (by omega)
  have wr3 : IntKind.i64.wrap (s.x - n) = s.x - n := wrap_id _ (by omega) (by omega)
  have wr4 : IntKind.i64.wrap (s.x + n) = s.x + n := wrap_id _ (by omega) (by omega)
  have c1 := HP.out.f1
  have c2 := HP.out.f2
  go_enter Tryd.func83, Tryd.ntmps83
  go_wp2_with (first | (go_at_call 93; refine (qCounted bs bg g N s t 0 1 _ HP.out (by omega)).mono ?_; rintro e w' ⟨rfl, hw'⟩; replace hw' := hw'.symm; subst hw'; rw [hpk]))
  go_region_with (first | (go_at_call 45; refine (sGoTo bs bg g N s t s.x (s.y - n) _ HP.out.drew).mono ?_; rintro e w5 ⟨rfl, R5, K5⟩))
  all_goals
    go_end0
    refine ⟨rfl, ?_, ((Keep.refl _ w).drew).trans K5 (fun _ _ h => h)⟩
    rw [HDn.out]
    exact R5
set_option maxRecDepth 10000 in
set_option maxHeartbeats 2000000 in
theorem sDoB (bs bg g N : Nat) (s : Rs) (t : Pt) (l : List Int) (w : World) (h : PrAt w bs bg g N s t) (ok : s.Ok) (hl : NumsIs t l) (hs : Small l) :
    Calls Tryd.prog 83 #[.pointer (some ⟨bs, 0, none⟩), .int .u8 66] w (SPost bs bg g N w (doneR s l 66) t (.tuple #[])) := by
  have HP : Hid (PrAt w bs bg g N s t) := h
  have Hok : Hid s.Ok := ok
  have hn := small_one (hs 0).1 (hs 0).2
  have hf := hl.nm 0 (by omega)
  have hpk : pickI (t.nm 0) 1 = one1 (l.getD 0 0) := by rw [hf]; rfl
  have x0 := ok.x0
  have x1 := ok.x1
  have y0 := ok.y0
  have y1 := ok.y1
  have w2 := ok.w2
  have h2 := ok.h2
  have HDn : Hid (doneR s l 66 = goesR s s.x (s.y + (one1 (l.getD 0 0)))) := by
    show _ = _
    simp [doneR]
  have Hq : Hid (t.nm 0 = l.getD 0 0) := hf
  clear hf hl hs ok h
  generalize one1 (l.getD 0 0) = n at *
  obtain ⟨n1, n9⟩ := hn
  have wr1 : IntKind.i64.wrap (s.y - n) = s.y - n := wrap_id _ (by omega) (by omega)
  have wr2 : IntKind.i64.wrap (s.y + n) = s.y + n := wrap_id _ (by omega) (by omega)
  have wr3 : IntKind.i64.wrap (s.x - n) = s.x - n := wrap_id _ (by omega) (by omega)
  have wr4 : IntKind.i64.wrap (s.x + n) = s.x + n := wrap_id _ (by omega) (by omega)
  have c1 := HP.out.f1
  have c2 := HP.out.f2
  go_enter Tryd.func83, Tryd.ntmps83
  go_wp2_with (first | (go_at_call 93; refine (qCounted bs bg g N s t 0 1 _ HP.out (by omega)).mono ?_; rintro e w' ⟨rfl, hw'⟩; replace hw' := hw'.symm; subst hw'; rw [hpk]))
  go_region_with (first | (go_at_call 45; refine (sGoTo bs bg g N s t s.x (s.y + n) _ HP.out.drew).mono ?_; rintro e w5 ⟨rfl, R5, K5⟩))
  all_goals
    go_end0
    refine ⟨rfl, ?_, ((Keep.refl _ w).drew).trans K5 (fun _ _ h => h)⟩
    rw [HDn.out]
    exact R5
set_option maxRecDepth 10000 in
set_option maxHeartbeats 2000000 in
theorem sDoC (bs bg g N : Nat) (s : Rs) (t : Pt) (l : List Int) (w : World) (h : PrAt w bs bg g N s t) (ok : s.Ok) (hl : NumsIs t l) (hs : Small l) :
    Calls Tryd.prog 83 #[.pointer (some ⟨bs, 0, none⟩), .int .u8 67] w (SPost bs bg g N w (doneR s l 67) t (.tuple #[])) := by
  have HP : Hid (PrAt w bs bg g N s t) := h
  have Hok : Hid s.Ok := ok
  have hn := small_one (hs 0).1 (hs 0).2
  have hf := hl.nm 0 (by omega)
  have hpk : pickI (t.nm 0) 1 = one1 (l.getD 0 0) := by rw [hf]; rfl
  have x0 := ok.x0
  have x1 := ok.x1
  have y0 := ok.y0
  have y1 := ok.y1
  have w2 := ok.w2
  have h2 := ok.h2
  have HDn : Hid (doneR s l 67 = goesR s (s.x + (one1 (l.getD 0 0))) s.y) := by
    show _ = _
    simp [doneR]
  have Hq : Hid (t.nm 0 = l.getD 0 0) := hf
  clear hf hl hs ok h
  generalize one1 (l.getD 0 0) = n at *
  obtain ⟨n1, n9⟩ := hn
  have wr1 : IntKind.i64.wrap (s.y - n) = s.y - n := wrap_id _ (by omega) (by omega)
  have wr2 : IntKind.i64.wrap (s.y + n) = s.y + n := wrap_id _ (by omega) (by omega)
  have wr3 : IntKind.i64.wrap (s.x - n) = s.x - n := wrap_id _ (by omega) (by omega)
  have wr4 : IntKind.i64.wrap (s.x + n) = s.x + n := wrap_id _ (by omega) (by omega)
  have c1 := HP.out.f1
  have c2 := HP.out.f2
  go_enter Tryd.func83, Tryd.ntmps83
  go_wp2_with (first | (go_at_call 93; refine (qCounted bs bg g N s t 0 1 _ HP.out (by omega)).mono ?_; rintro e w' ⟨rfl, hw'⟩; replace hw' := hw'.symm; subst hw'; rw [hpk]))
  go_region_with (first | (go_at_call 45; refine (sGoTo bs bg g N s t (s.x + n) s.y _ HP.out.drew).mono ?_; rintro e w5 ⟨rfl, R5, K5⟩))
  all_goals
    go_end0
    refine ⟨rfl, ?_, ((Keep.refl _ w).drew).trans K5 (fun _ _ h => h)⟩
    rw [HDn.out]
    exact R5
set_option maxRecDepth 10000 in
set_option maxHeartbeats 2000000 in
theorem sDoD (bs bg g N : Nat) (s : Rs) (t : Pt) (l : List Int) (w : World) (h : PrAt w bs bg g N s t) (ok : s.Ok) (hl : NumsIs t l) (hs : Small l) :
    Calls Tryd.prog 83 #[.pointer (some ⟨bs, 0, none⟩), .int .u8 68] w (SPost bs bg g N w (doneR s l 68) t (.tuple #[])) := by
  have HP : Hid (PrAt w bs bg g N s t) := h
  have Hok : Hid s.Ok := ok
  have hn := small_one (hs 0).1 (hs 0).2
  have hf := hl.nm 0 (by omega)
  have hpk : pickI (t.nm 0) 1 = one1 (l.getD 0 0) := by rw [hf]; rfl
  have x0 := ok.x0
  have x1 := ok.x1
  have y0 := ok.y0
  have y1 := ok.y1
  have w2 := ok.w2
  have h2 := ok.h2
  have HDn : Hid (doneR s l 68 = goesR s (s.x - (one1 (l.getD 0 0))) s.y) := by
    show _ = _
    simp [doneR]
  have Hq : Hid (t.nm 0 = l.getD 0 0) := hf
  clear hf hl hs ok h
  generalize one1 (l.getD 0 0) = n at *
  obtain ⟨n1, n9⟩ := hn
  have wr1 : IntKind.i64.wrap (s.y - n) = s.y - n := wrap_id _ (by omega) (by omega)
  have wr2 : IntKind.i64.wrap (s.y + n) = s.y + n := wrap_id _ (by omega) (by omega)
  have wr3 : IntKind.i64.wrap (s.x - n) = s.x - n := wrap_id _ (by omega) (by omega)
  have wr4 : IntKind.i64.wrap (s.x + n) = s.x + n := wrap_id _ (by omega) (by omega)
  have c1 := HP.out.f1
  have c2 := HP.out.f2
  go_enter Tryd.func83, Tryd.ntmps83
  go_wp2_with (first | (go_at_call 93; refine (qCounted bs bg g N s t 0 1 _ HP.out (by omega)).mono ?_; rintro e w' ⟨rfl, hw'⟩; replace hw' := hw'.symm; subst hw'; rw [hpk]))
  go_region_with (first | (go_at_call 45; refine (sGoTo bs bg g N s t (s.x - n) s.y _ HP.out.drew).mono ?_; rintro e w5 ⟨rfl, R5, K5⟩))
  all_goals
    go_end0
    refine ⟨rfl, ?_, ((Keep.refl _ w).drew).trans K5 (fun _ _ h => h)⟩
    rw [HDn.out]
    exact R5
end Go.Proofs.YtknhohbepkapdaaDoor
