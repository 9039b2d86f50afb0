/- Texts of the proof, one behind the other: PsF, PsG, PsH. -/
import Derived.Test.YtknhohbepkapdaaDoorK10
/- The program's screen: the sequence. -/
namespace Go.Proofs.YtknhohbepkapdaaDoor
open Go.RowKit
attribute [local go_sem ↓] Go.wp_at_zero Go.wp_at_succ
def pickI (n v : Int) : Int := if n = 0 then v else n
theorem qCounted (bs bg g N : Nat) (s : Rs) (t : Pt) (i : Nat) (v : Int) (w : World) (h : PrAt w bs bg g N s t) (hi : i < 8) :
    Calls Tryd.prog 93 #[.pointer (some ⟨bs, 17, none⟩), .int .i64 i, .int .i64 v] w fun e w' => e = .returned (.int .i64 (pickI (t.nm i) v)) ∧ w' = w := by
  have c := h.num i hi
  clear h
  by_cases h0 : t.nm i = 0
  · rw [show pickI (t.nm i) v = v from if_pos h0]
    rw [h0] at c
    go_enter Tryd.func93, Tryd.ntmps93
    go_wp2
    go_ret
    exact ⟨rfl, rfl⟩
  · rw [show pickI (t.nm i) v = t.nm i from if_neg h0]
    go_enter Tryd.func93, Tryd.ntmps93
    go_wp2
    go_ret
    exact ⟨rfl, rfl⟩
theorem qAll (bs bg g N : Nat) (s : Rs) (t : Pt) (w : World) (h : PrAt w bs bg g N s t) (c : Nat) (hc : t.cn = c) (hc8 : c ≤ 8) :
    Calls Tryd.prog 99 #[.pointer (some ⟨bs, 17, none⟩)] w fun e w' => e = .returned (.slice (some ⟨bs, 17, none⟩) (if c = 0 then 1 else c) 8) ∧ Below w.heap.size w w' := by
  have c25 := h.f25
  rw [hc] at c25
  obtain ⟨m, hm⟩ : ∃ m : Nat, (if c = 0 then 1 else c) = m := ⟨_, rfl⟩
  have hg : greatestI c 1 = m := by unfold greatestI; split at hm <;> split <;> omega
  have hm8 : m ≤ 8 := by split at hm <;> omega
  rw [hm]
  have hm9 : (m : Int) ≤ 8 := by omega
  have hm0 : (0 : Int) ≤ m := by omega
  clear h hm
  go_enter Tryd.func99, Tryd.ntmps99
  go_wp2_with fail
  go_quiet ((go_at_call 90; exact Calls.quiet_of_same (pGreatest _ _ _)))
  go_wp2_with fail
  go_ret
  exact ⟨rfl, below_drewN _ _⟩
def maxI1 (c : Int) : Int := if c < 1 then 1 else c
def digT (t : Pt) (d : Int) : Pt := if t.bad = true then t else { t with cn := maxI1 t.cn, nm := updI t.nm ((maxI1 t.cn).toNat - 1) (capN (t.nm ((maxI1 t.cn).toNat - 1) * 10 + d)) }
def sepT (t : Pt) : Pt := if t.bad = true then t else { t with cn := maxI1 t.cn + 1, bad := decide (8 < maxI1 t.cn + 1) }
theorem cap_least (n : Int) : leastI n 9999 = capN n := by unfold leastI capN; rfl
theorem max_greatest (c : Int) : greatestI c 1 = maxI1 c := by unfold greatestI maxI1; rfl
set_option maxHeartbeats 1000000 in
theorem qDigit (bs bg g N : Nat) (s : Rs) (t : Pt) (d : Int) (w : World) (h : PrAt w bs bg g N s t) (hcn : t.bad = false → 0 ≤ t.cn ∧ t.cn ≤ 8) (hn : t.bad = false → ∀ i, i < 8 → 0 ≤ t.nm i ∧ t.nm i ≤ 9999) (d0 : 0 ≤ d) (d9 : d ≤ 9) :
    Calls Tryd.prog 81 #[.pointer (some ⟨bs, 17, none⟩), .int .i64 d] w (SPost bs bg g N w s (digT t d) (.tuple #[])) := by
  have HP : Hid (PrAt w bs bg g N s t) := h
  have f26 := h.f26
  have f25 := h.f25
  have fz := h.free
  clear h
  cases hb : t.bad with
  | true =>
    rw [hb] at f26
    rw [show digT t d = t from if_pos hb]
    go_enter Tryd.func81, Tryd.ntmps81
    go_wp2_with fail
    exact bodyPost_ret (v := .tuple #[]) (by simp [results, Tryd.results81, go_sem]) rfl ⟨rfl, HP.out, Keep.refl _ _⟩
  | false =>
    rw [hb] at f26
    obtain ⟨c0, c8⟩ := hcn hb
    have hn := hn hb
    obtain ⟨i, hi⟩ : ∃ i : Nat, maxI1 t.cn = (i : Int) + 1 := ⟨(maxI1 t.cn - 1).toNat, by unfold maxI1; split <;> omega⟩
    have hi8 : i < 8 := by unfold maxI1 at hi; split at hi <;> omega
    have HT : Hid (digT t d = { t with cn := (i : Int) + 1, nm := updI t.nm i (capN (t.nm i * 10 + d)) }) := by
      show digT t d = _
      unfold digT
      rw [if_neg (by rw [hb]; decide), hi, show ((i : Int) + 1).toNat - 1 = i by omega]
    have hmg : greatestI t.cn 1 = (i : Int) + 1 := by rw [max_greatest, hi]
    obtain ⟨n0, n9⟩ := hn i hi8
    have hnum := HP.out.num i hi8
    have HP1 : Hid (PrAt (w.setCell ⟨bs, 25, none⟩ (.int .i64 ((i : Int) + 1))) bs bg g N s { t with cn := (i : Int) + 1 } ) := HP.out.setCn _
    have hcap := cap_least (t.nm i * 10 + d)
    have hoff : ¬ 25 = 17 + i := by omega
    generalize hnn : t.nm i = n at *
    have HN : Hid (t.nm i = n) := hnn
    clear hnn
    go_enter Tryd.func81, Tryd.ntmps81
    go_wp2_with (first | (go_at_call 90; refine (pGreatest _ _ _).mono ?_; rintro e w' ⟨rfl, hw'⟩; replace hw' := hw'.symm; subst hw') | (go_at_call 66; refine (pLeast _ _ _).mono ?_; rintro e w' ⟨rfl, hw'⟩; replace hw' := hw'.symm; subst hw'))
    clear HP f25 f26 fz hnum
    have K1 : Keep (fun i => i = bs ∨ i = bg ∨ i = g) w (w.setCell ⟨bs, 25, none⟩ (.int .i64 ((i : Int) + 1))) := (Keep.refl _ w).setCell ⟨bs, 25, none⟩ _ (fun _ => Or.inl rfl)
    generalize w.setCell ⟨bs, 25, none⟩ (.int .i64 ((i : Int) + 1)) = wa at *
    have f25 : wa.cell? ⟨bs, 25, none⟩ = some (.int .i64 ((i : Int) + 1)) := HP1.out.f25
    have wi : IntKind.i64.wrap ((i : Int) + 1 - 1) = i := by rw [wrap_id _ (by omega) (by omega)]; omega
    have i0 : (0 : Int) ≤ i := by omega
    have i8 : (i : Int) < 8 := by omega
    go_quiet (fail)
    have HP2 : Hid (PrAt (wa.drewN nq) bs bg g N s { t with cn := (i : Int) + 1 }) := HP1.out.drewN nq
    have K2 : Keep (fun i => i = bs ∨ i = bg ∨ i = g) w (wa.drewN nq) := K1.drewN nq
    generalize wa.drewN nq = wb at *
    clear HP1 K1 f25
    have fi : wb.cell? ⟨bs, 17 + i, none⟩ = some (.int .i64 n) := by rw [← HN.out]; exact HP2.out.num i hi8
    have fz := HP2.out.free
    go_wp2_with (first | (go_at_call 66; refine (pLeast _ _ _).mono ?_; rintro e w' ⟨rfl, hw'⟩; replace hw' := hw'.symm; subst hw'))
    go_end0
    refine ⟨rfl, ?_, K2.setCell ⟨bs, 17 + i, none⟩ _ (fun _ => Or.inl rfl)⟩
    rw [HT.out]
    exact HP2.out.setNum i hi8 _
set_option maxHeartbeats 1000000 in
theorem qSeparate (bs bg g N : Nat) (s : Rs) (t : Pt) (w : World) (h : PrAt w bs bg g N s t) (hcn : t.bad = false → 0 ≤ t.cn ∧ t.cn ≤ 8) :
    Calls Tryd.prog 82 #[.pointer (some ⟨bs, 17, none⟩)] w (SPost bs bg g N w s (sepT t) (.tuple #[])) := by
  have HP : Hid (PrAt w bs bg g N s t) := h
  have f26 := h.f26
  have f25 := h.f25
  have fz := h.free
  clear h
  cases hb : t.bad with
  | true =>
    rw [hb] at f26
    rw [show sepT t = t from if_pos hb]
    go_enter Tryd.func82, Tryd.ntmps82
    go_wp2_with fail
    exact bodyPost_ret (v := .tuple #[]) (by simp [results, Tryd.results82, go_sem]) rfl ⟨rfl, HP.out, Keep.refl _ _⟩
  | false =>
    rw [hb] at f26
    obtain ⟨c0, c8⟩ := hcn hb
    obtain ⟨m, hm⟩ : ∃ m : Int, maxI1 t.cn = m := ⟨_, rfl⟩
    have hm8 : m ≤ 8 := by unfold maxI1 at hm; split at hm <;> omega
    have hm0 : 0 ≤ m := by unfold maxI1 at hm; split at hm <;> omega
    have HT : Hid (sepT t = { t with cn := m + 1, bad := decide (8 < m + 1) }) := by
      show sepT t = _
      unfold sepT
      rw [if_neg (by rw [hb]; decide), hm]
    have hmg : greatestI t.cn 1 = m := by rw [max_greatest, hm]
    go_enter Tryd.func82, Tryd.ntmps82
    go_wp2_with (first | (go_at_call 90; refine (pGreatest _ _ _).mono ?_; rintro e w' ⟨rfl, hw'⟩; replace hw' := hw'.symm; subst hw'))
    go_end0
    refine ⟨rfl, ?_, ((Keep.refl _ w).setCell ⟨bs, 25, none⟩ _ (fun _ => Or.inl rfl)).setCell ⟨bs, 26, none⟩ _ (fun _ => Or.inl rfl)⟩
    rw [HT.out]
    exact (HP.out.setCn _).setBad _
end Go.Proofs.YtknhohbepkapdaaDoor

/- The program's screen: pens, erasing of lines, margins. -/
namespace Go.Proofs.YtknhohbepkapdaaDoor
open Go.RowKit
attribute [local go_sem ↓] Go.wp_at_zero Go.wp_at_succ
theorem PrAt.setPenF {w : World} {bs bg g N : Nat} {s : Rs} {t : Pt} (h : PrAt w bs bg g N s t) (v : Int) : PrAt (w.setCell ⟨bs, 4, none⟩ (.int .i64 v)) bs bg g N { s with pen := { s.pen with f := v } } t := h.store 4 _ _ _ rfl rfl rfl rfl
theorem PrAt.setPenB {w : World} {bs bg g N : Nat} {s : Rs} {t : Pt} (h : PrAt w bs bg g N s t) (v : Int) : PrAt (w.setCell ⟨bs, 5, none⟩ (.int .i64 v)) bs bg g N { s with pen := { s.pen with b := v } } t := h.store 5 _ _ _ rfl rfl rfl rfl
theorem PrAt.setPenO {w : World} {bs bg g N : Nat} {s : Rs} {t : Pt} (h : PrAt w bs bg g N s t) (v : Bool) : PrAt (w.setCell ⟨bs, 6, none⟩ (.bool v)) bs bg g N { s with pen := { s.pen with bo := v } } t := h.store 6 _ _ _ rfl rfl rfl rfl
theorem PrAt.setPenU {w : World} {bs bg g N : Nat} {s : Rs} {t : Pt} (h : PrAt w bs bg g N s t) (v : Bool) : PrAt (w.setCell ⟨bs, 7, none⟩ (.bool v)) bs bg g N { s with pen := { s.pen with un := v } } t := h.store 7 _ _ _ rfl rfl rfl rfl
theorem PrAt.setPenR {w : World} {bs bg g N : Nat} {s : Rs} {t : Pt} (h : PrAt w bs bg g N s t) (v : Bool) : PrAt (w.setCell ⟨bs, 8, none⟩ (.bool v)) bs bg g N { s with pen := { s.pen with re := v } } t := h.store 8 _ _ _ rfl rfl rfl rfl
set_option maxHeartbeats 4000000 in
theorem sChangePen (bs bg g N : Nat) (s : Rs) (t : Pt) (n : Int) (w : World) (h : PrAt w bs bg g N s t) :
    Calls Tryd.prog 100 #[.pointer (some ⟨bs, 4, none⟩), .int .i64 n] w (SPost bs bg g N w (penR s n) t (.tuple #[])) := by
  have f4 := h.f4
  have f5 := h.f5
  have f6 := h.f6
  have f7 := h.f7
  have f8 := h.f8
  have fr := h.free
  have HR : Hid (PrAt w bs bg g N s t) := h
  clear h
  by_cases h0 : n = 0
  · subst h0
    go_enter Tryd.func100, Tryd.ntmps100
    go_wp2_with (first | (go_at_call 43; refine (pWithin _ _ _ _).mono ?_; rintro e w' ⟨rfl, hw'⟩; replace hw' := hw'.symm; subst hw'))
    go_end0
    exact ⟨rfl, ((((HR.out.setPenF 0).setPenB 0).setPenO false).setPenU false).setPenR false, (((((Keep.refl _ w).setCell ⟨bs, 4, none⟩ _ (fun _ => Or.inl rfl)).setCell ⟨bs, 5, none⟩ _ (fun _ => Or.inl rfl)).setCell ⟨bs, 6, none⟩ _ (fun _ => Or.inl rfl)).setCell ⟨bs, 7, none⟩ _ (fun _ => Or.inl rfl)).setCell ⟨bs, 8, none⟩ _ (fun _ => Or.inl rfl)⟩
  by_cases h1 : n = 1
  · subst h1
    go_enter Tryd.func100, Tryd.ntmps100
    go_wp2_with (first | (go_at_call 43; refine (pWithin _ _ _ _).mono ?_; rintro e w' ⟨rfl, hw'⟩; replace hw' := hw'.symm; subst hw'))
    go_end0
    exact ⟨rfl, HR.out.setPenO true, (Keep.refl _ w).setCell ⟨bs, 6, none⟩ _ (fun _ => Or.inl rfl)⟩
  by_cases h22 : n = 22
  · subst h22
    go_enter Tryd.func100, Tryd.ntmps100
    go_wp2_with (first | (go_at_call 43; refine (pWithin _ _ _ _).mono ?_; rintro e w' ⟨rfl, hw'⟩; replace hw' := hw'.symm; subst hw'))
    go_end0
    exact ⟨rfl, HR.out.setPenO false, (Keep.refl _ w).setCell ⟨bs, 6, none⟩ _ (fun _ => Or.inl rfl)⟩
  by_cases h4 : n = 4
  · subst h4
    go_enter Tryd.func100, Tryd.ntmps100
    go_wp2_with (first | (go_at_call 43; refine (pWithin _ _ _ _).mono ?_; rintro e w' ⟨rfl, hw'⟩; replace hw' := hw'.symm; subst hw'))
    go_end0
    exact ⟨rfl, HR.out.setPenU true, (Keep.refl _ w).setCell ⟨bs, 7, none⟩ _ (fun _ => Or.inl rfl)⟩
  by_cases h24 : n = 24
  · subst h24
    go_enter Tryd.func100, Tryd.ntmps100
    go_wp2_with (first | (go_at_call 43; refine (pWithin _ _ _ _).mono ?_; rintro e w' ⟨rfl, hw'⟩; replace hw' := hw'.symm; subst hw'))
    go_end0
    exact ⟨rfl, HR.out.setPenU false, (Keep.refl _ w).setCell ⟨bs, 7, none⟩ _ (fun _ => Or.inl rfl)⟩
  by_cases h7 : n = 7
  · subst h7
    go_enter Tryd.func100, Tryd.ntmps100
    go_wp2_with (first | (go_at_call 43; refine (pWithin _ _ _ _).mono ?_; rintro e w' ⟨rfl, hw'⟩; replace hw' := hw'.symm; subst hw'))
    go_end0
    exact ⟨rfl, HR.out.setPenR true, (Keep.refl _ w).setCell ⟨bs, 8, none⟩ _ (fun _ => Or.inl rfl)⟩
  by_cases h27 : n = 27
  · subst h27
    go_enter Tryd.func100, Tryd.ntmps100
    go_wp2_with (first | (go_at_call 43; refine (pWithin _ _ _ _).mono ?_; rintro e w' ⟨rfl, hw'⟩; replace hw' := hw'.symm; subst hw'))
    go_end0
    exact ⟨rfl, HR.out.setPenR false, (Keep.refl _ w).setCell ⟨bs, 8, none⟩ _ (fun _ => Or.inl rfl)⟩
  by_cases h39 : n = 39
  · subst h39
    go_enter Tryd.func100, Tryd.ntmps100
    go_wp2_with (first | (go_at_call 43; refine (pWithin _ _ _ _).mono ?_; rintro e w' ⟨rfl, hw'⟩; replace hw' := hw'.symm; subst hw'))
    go_end0
    exact ⟨rfl, HR.out.setPenF 0, (Keep.refl _ w).setCell ⟨bs, 4, none⟩ _ (fun _ => Or.inl rfl)⟩
  by_cases h49 : n = 49
  · subst h49
    go_enter Tryd.func100, Tryd.ntmps100
    go_wp2_with (first | (go_at_call 43; refine (pWithin _ _ _ _).mono ?_; rintro e w' ⟨rfl, hw'⟩; replace hw' := hw'.symm; subst hw'))
    go_end0
    exact ⟨rfl, HR.out.setPenB 0, (Keep.refl _ w).setCell ⟨bs, 5, none⟩ _ (fun _ => Or.inl rfl)⟩
  by_cases hr30 : 30 ≤ n ∧ n ≤ 37
  · have HP : Hid (penR s n = { s with pen := { s.pen with f := n - 29 } }) := by
      show penR s n = _
      unfold penR penN
      rw [if_neg h0, if_neg h1, if_neg h22, if_neg h4, if_neg h24, if_neg h7, if_neg h27, if_neg h39, if_neg h49, if_pos hr30]
    have r0 := hr30.1
    have r1 := hr30.2
    have b30 : Wd.inB n 30 37 = true := by simp [Wd.inB, r0, r1]
    go_enter Tryd.func100, Tryd.ntmps100
    go_wp2_with (first | (go_at_call 43; refine (pWithin _ _ _ _).mono ?_; rintro e w' ⟨rfl, hw'⟩; replace hw' := hw'.symm; subst hw'))
    go_end0
    refine ⟨rfl, ?_, (Keep.refl _ w).setCell ⟨bs, 4, none⟩ _ (fun _ => Or.inl rfl)⟩
    rw [HP.out]
    exact HR.out.setPenF _
  by_cases hr40 : 40 ≤ n ∧ n ≤ 47
  · have HP : Hid (penR s n = { s with pen := { s.pen with b := n - 39 } }) := by
      show penR s n = _
      unfold penR penN
      rw [if_neg h0, if_neg h1, if_neg h22, if_neg h4, if_neg h24, if_neg h7, if_neg h27, if_neg h39, if_neg h49, if_neg hr30, if_pos hr40]
    have r0 := hr40.1
    have r1 := hr40.2
    have b30 : Wd.inB n 30 37 = false := by simp [Wd.inB]; omega
    have b40 : Wd.inB n 40 47 = true := by simp [Wd.inB, r0, r1]
    go_enter Tryd.func100, Tryd.ntmps100
    go_wp2_with (first | (go_at_call 43; refine (pWithin _ _ _ _).mono ?_; rintro e w' ⟨rfl, hw'⟩; replace hw' := hw'.symm; subst hw'))
    go_end0
    refine ⟨rfl, ?_, (Keep.refl _ w).setCell ⟨bs, 5, none⟩ _ (fun _ => Or.inl rfl)⟩
    rw [HP.out]
    exact HR.out.setPenB _
  have HP : Hid (penR s n = s) := by
    show penR s n = _
    unfold penR penN
    rw [if_neg h0, if_neg h1, if_neg h22, if_neg h4, if_neg h24, if_neg h7, if_neg h27, if_neg h39, if_neg h49, if_neg hr30, if_neg hr40]
  have b30 : Wd.inB n 30 37 = false := by simp [Wd.inB]; omega
  have b40 : Wd.inB n 40 47 = false := by simp [Wd.inB]; omega
  go_enter Tryd.func100, Tryd.ntmps100
  go_wp2_with (first | (go_at_call 43; refine (pWithin _ _ _ _).mono ?_; rintro e w' ⟨rfl, hw'⟩; replace hw' := hw'.symm; subst hw'))
  go_end0
  refine ⟨rfl, ?_, Keep.refl _ w⟩
  rw [HP.out]
  exact HR.out
end Go.Proofs.YtknhohbepkapdaaDoor

/- The program's screen: erasing of lines. -/
namespace Go.Proofs.YtknhohbepkapdaaDoor
open Go.RowKit
attribute [local go_sem ↓] Go.wp_at_zero Go.wp_at_succ
theorem era_line {s : Rs} (hw : Wf s.W s.H s.G) {x0 x1 how : Int} {Y : Nat} (hY : s.y = Y) (h : ∀ a : Nat, a < s.W → (eraB how false s.x s.y a Y = true ↔ x0 ≤ a ∧ (a : Int) < x1)) :
    EqOn s.W s.H (eraseX s.W x0 x1 Y (backR s) s.G) (eraR s how false).G := by
  unfold eraseX eraR
  refine wr_dom hw (fun a b ha hb => ?_) (fun _ _ _ _ _ => rfl)
  by_cases e : b = Y
  · subst e
    have := h a ha
    rw [Bool.eq_iff_iff, this]
    simp [ha]
  · have e' : ¬ (b : Int) = s.y := by omega
    simp [eraB, e, e']
set_option maxHeartbeats 1000000 in
theorem sEraseLine0 (bs bg g N : Nat) (s : Rs) (t : Pt) (w : World) (h : PrAt w bs bg g N s t) (ok : s.Ok) :
    Calls Tryd.prog 94 #[.pointer (some ⟨bs, 0, none⟩), .int .i64 0] w (SPost bs bg g N w (eraR s 0 false) t (.tuple #[])) := by
  have HP : Hid (PrAt w bs bg g N s t) := h
  obtain ⟨Y, hY⟩ : ∃ Y : Nat, s.y = Y := ⟨s.y.toNat, by have := ok.y0; omega⟩
  have hYH : Y < s.H := by have := ok.y1; omega
  have HE : Hid (EqOn s.W s.H (eraseX s.W s.x (s.W : Int) Y (backR s) s.G) (eraR s 0 false).G) := era_line ok.wf hY (fun a ha => by
    have hY' : (Y : Int) = s.y := hY.symm
    simp [eraB, hY']; omega)
  have Hwf : Hid (Wf s.W s.H s.G) := ok.wf
  have c0 := h.f0
  have c1 := h.f1
  have c2 := h.f2
  rw [hY] at c2
  have x0 := ok.x0
  have x1 := ok.x1
  have w2 := ok.w2
  have wx : IntKind.i64.wrap (s.x + 1) = s.x + 1 := wrap_id _ (by omega) (by omega)
  have HY : Hid (s.y = Y) := hY
  clear h ok hY
  go_enter Tryd.func94, Tryd.ntmps94
  go_wp2_with (first | (go_at_call 46; refine (pWidth bg g s.W s.H N s.G _ HP.out.gr).mono ?_; rintro e w' ⟨rfl, hw'⟩; replace hw' := hw'.symm; subst hw'))
  have HD : Hid (PrAt w.drew bs bg g N s t) := HP.out.drew
  go_region_held3 (fun w' => w'.cell? ⟨bs, 1, none⟩ = some (.int .i64 s.x) ∧ w'.cell? ⟨bs, 2, none⟩ = some (.int .i64 (Y : Int))) (simp [*]) (first | (go_at_call 96; refine (sErase bs bg g N s t s.x (s.W : Int) Y _ HD.out Hwf.out hYH).mono ?_; rintro e w3 ⟨rfl, P3, K3⟩; have e1 := P3.f1; have e2 := P3.f2; simp only [HY.out] at e2))
  go_wp2_with fail
  go_end0
  exact ⟨rfl, P3.congr _ rfl rfl rfl HE.out, ((Keep.refl _ w).drew).trans K3 (fun _ _ h => h)⟩
set_option maxHeartbeats 1000000 in
theorem sEraseLine1 (bs bg g N : Nat) (s : Rs) (t : Pt) (w : World) (h : PrAt w bs bg g N s t) (ok : s.Ok) :
    Calls Tryd.prog 94 #[.pointer (some ⟨bs, 0, none⟩), .int .i64 1] w (SPost bs bg g N w (eraR s 1 false) t (.tuple #[])) := by
  have HP : Hid (PrAt w bs bg g N s t) := h
  obtain ⟨Y, hY⟩ : ∃ Y : Nat, s.y = Y := ⟨s.y.toNat, by have := ok.y0; omega⟩
  have hYH : Y < s.H := by have := ok.y1; omega
  have HE : Hid (EqOn s.W s.H (eraseX s.W 0 (s.x + 1) Y (backR s) s.G) (eraR s 1 false).G) := era_line ok.wf hY (fun a ha => by
    have hY' : (Y : Int) = s.y := hY.symm
    simp [eraB, hY']; omega)
  have Hwf : Hid (Wf s.W s.H s.G) := ok.wf
  have c0 := h.f0
  have c1 := h.f1
  have c2 := h.f2
  rw [hY] at c2
  have x0 := ok.x0
  have x1 := ok.x1
  have w2 := ok.w2
  have wx : IntKind.i64.wrap (s.x + 1) = s.x + 1 := wrap_id _ (by omega) (by omega)
  have HY : Hid (s.y = Y) := hY
  clear h ok hY
  go_enter Tryd.func94, Tryd.ntmps94
  go_wp2_with (first | (go_at_call 46; refine (pWidth bg g s.W s.H N s.G _ HP.out.gr).mono ?_; rintro e w' ⟨rfl, hw'⟩; replace hw' := hw'.symm; subst hw'))
  have HD : Hid (PrAt w.drew bs bg g N s t) := HP.out.drew
  go_region_held3 (fun w' => w'.cell? ⟨bs, 1, none⟩ = some (.int .i64 s.x) ∧ w'.cell? ⟨bs, 2, none⟩ = some (.int .i64 (Y : Int))) (simp [*]) (first | (go_at_call 96; refine (sErase bs bg g N s t 0 (s.x + 1) Y _ HD.out Hwf.out hYH).mono ?_; rintro e w3 ⟨rfl, P3, K3⟩; have e1 := P3.f1; have e2 := P3.f2; simp only [HY.out] at e2))
  go_wp2_with fail
  go_end0
  exact ⟨rfl, P3.congr _ rfl rfl rfl HE.out, ((Keep.refl _ w).drew).trans K3 (fun _ _ h => h)⟩
set_option maxHeartbeats 1000000 in
theorem sEraseLine2 (bs bg g N : Nat) (s : Rs) (t : Pt) (w : World) (h : PrAt w bs bg g N s t) (ok : s.Ok) :
    Calls Tryd.prog 94 #[.pointer (some ⟨bs, 0, none⟩), .int .i64 2] w (SPost bs bg g N w (eraR s 2 false) t (.tuple #[])) := by
  have HP : Hid (PrAt w bs bg g N s t) := h
  obtain ⟨Y, hY⟩ : ∃ Y : Nat, s.y = Y := ⟨s.y.toNat, by have := ok.y0; omega⟩
  have hYH : Y < s.H := by have := ok.y1; omega
  have HE : Hid (EqOn s.W s.H (eraseX s.W 0 (s.W : Int) Y (backR s) s.G) (eraR s 2 false).G) := era_line ok.wf hY (fun a ha => by
    have hY' : (Y : Int) = s.y := hY.symm
    simp [eraB, hY']; omega)
  have Hwf : Hid (Wf s.W s.H s.G) := ok.wf
  have c0 := h.f0
  have c1 := h.f1
  have c2 := h.f2
  rw [hY] at c2
  have x0 := ok.x0
  have x1 := ok.x1
  have w2 := ok.w2
  have wx : IntKind.i64.wrap (s.x + 1) = s.x + 1 := wrap_id _ (by omega) (by omega)
  have HY : Hid (s.y = Y) := hY
  clear h ok hY
  go_enter Tryd.func94, Tryd.ntmps94
  go_wp2_with (first | (go_at_call 46; refine (pWidth bg g s.W s.H N s.G _ HP.out.gr).mono ?_; rintro e w' ⟨rfl, hw'⟩; replace hw' := hw'.symm; subst hw'))
  go_at_call 96
  refine (sErase bs bg g N s t 0 (s.W : Int) Y _ HP.out Hwf.out hYH).mono ?_
  rintro e w3 ⟨rfl, P3, K3⟩
  go_wp2_with fail
  go_end0
  exact ⟨rfl, P3.congr _ rfl rfl rfl HE.out, K3⟩
theorem sEraseLineN (bs bg g N : Nat) (s : Rs) (t : Pt) (how : Int) (w : World) (h : PrAt w bs bg g N s t) (h0 : ¬ how = 0) (h1 : ¬ how = 1) (h2 : ¬ how = 2) :
    Calls Tryd.prog 94 #[.pointer (some ⟨bs, 0, none⟩), .int .i64 how] w (SPost bs bg g N w (eraR s how false) t (.tuple #[])) := by
  have HP : Hid (PrAt w bs bg g N s t) := h
  have HE : Hid (eraR s how false = s) := by
    show eraR s how false = s
    unfold eraR
    rw [wr_none _ _ _ (fun a b => by simp [eraB, h0, h1, h2])]
  have c0 := h.f0
  clear h
  go_enter Tryd.func94, Tryd.ntmps94
  go_wp2_with (first | (go_at_call 46; refine (pWidth bg g s.W s.H N s.G _ HP.out.gr).mono ?_; rintro e w' ⟨rfl, hw'⟩; replace hw' := hw'.symm; subst hw'))
  go_end0
  refine ⟨rfl, ?_, Keep.refl _ w⟩
  rw [HE.out]
  exact HP.out
theorem sEraseLine (bs bg g N : Nat) (s : Rs) (t : Pt) (how : Int) (w : World) (h : PrAt w bs bg g N s t) (ok : s.Ok) :
    Calls Tryd.prog 94 #[.pointer (some ⟨bs, 0, none⟩), .int .i64 how] w (SPost bs bg g N w (eraR s how false) t (.tuple #[])) := by
  by_cases h0 : how = 0
  · subst h0; exact sEraseLine0 bs bg g N s t w h ok
  by_cases h1 : how = 1
  · subst h1; exact sEraseLine1 bs bg g N s t w h ok
  by_cases h2 : how = 2
  · subst h2; exact sEraseLine2 bs bg g N s t w h ok
  exact sEraseLineN bs bg g N s t how w h h0 h1 h2
end Go.Proofs.YtknhohbepkapdaaDoor
