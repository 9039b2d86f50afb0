/- Texts of the proof, one behind the other: PuG, PuH, PuI, PuJ. -/
import Derived.Test.YtknhohbepkapdaaDoorK11
/- The program's screen: bytes in a sequence. -/
namespace Go.Proofs.YtknhohbepkapdaaDoor
open Go.RowKit Go.Lib
attribute [local go_sem ↓] Go.wp_at_zero Go.wp_at_succ
theorem sDo (bs bg g N : Nat) (s : Rs) (t : Pt) (l : List Int) (c : Int) (w : World) (h : PrAt w bs bg g N s t) (ok : s.Ok) (hl : NumsIs t l) (hs : Small l) :
    Calls Tryd.prog 83 #[.pointer (some ⟨bs, 0, none⟩), .int .u8 c] w (SPost bs bg g N w (doneR s l c) t (.tuple #[])) := by
  by_cases h65 : c = 65
  · subst h65; exact sDoA bs bg g N s t l w h ok hl hs
  by_cases h66 : c = 66
  · subst h66; exact sDoB bs bg g N s t l w h ok hl hs
  by_cases h67 : c = 67
  · subst h67; exact sDoC bs bg g N s t l w h ok hl hs
  by_cases h68 : c = 68
  · subst h68; exact sDoD bs bg g N s t l w h ok hl hs
  by_cases h72 : c = 72
  · subst h72; exact sDoH bs bg g N s t l w h ok hl hs
  by_cases h75 : c = 75
  · subst h75; exact sDoK bs bg g N s t l w h ok hl hs
  by_cases h74 : c = 74
  · subst h74; exact sDoJ bs bg g N s t l w h ok hl hs
  by_cases h88 : c = 88
  · subst h88; exact sDoX bs bg g N s t l w h ok hl hs
  by_cases h83 : c = 83
  · subst h83; exact sDoS bs bg g N s t l w h ok hl hs
  by_cases h84 : c = 84
  · subst h84; exact sDoT bs bg g N s t l w h ok hl hs
  by_cases h114 : c = 114
  · subst h114; exact sDoR bs bg g N s t l w h ok hl hs
  by_cases h109 : c = 109
  · subst h109; exact sDoM bs bg g N s t l w h hl
  exact sDoN bs bg g N s t l c w h ⟨h65, h66, h67, h68, h72, h75, h74, h88, h83, h84, h114, h109⟩
set_option maxHeartbeats 2000000 in
theorem sSeqDigit (bs bg g N : Nat) (s : Rs) (t : Pt) (c : Int) (w : World) (h : PrAt w bs bg g N s t) (hcn : t.bad = false → 0 ≤ t.cn ∧ t.cn ≤ 8) (hn : t.bad = false → ∀ i, i < 8 → 0 ≤ t.nm i ∧ t.nm i ≤ 9999) (c0 : 48 ≤ c) (c9 : c ≤ 57) :
    Calls Tryd.prog 62 #[.pointer (some ⟨bs, 0, none⟩), .int .u8 c] w (SPost bs bg g N w s (digT t (c - 48)) (.tuple #[])) := by
  have HP : Hid (PrAt w bs bg g N s t) := h
  have f11 := h.f11
  have f26 := h.f26
  have fz := h.free
  have b1 : Wd.inB c 48 57 = true := by simp [Wd.inB, c0, c9]
  have wc : IntKind.u8.wrap (c - 48) = c - 48 := by unfold IntKind.wrap; simp [IntKind.bits, IntKind.signed]; omega
  clear h
  go_enter Tryd.func62, Tryd.ntmps62
  go_wp2_with (first | (go_at_call 80; refine (pWithinByte _ _ _ _).mono ?_; rintro e w' ⟨rfl, hw'⟩; replace hw' := hw'.symm; subst hw'))
  go_at_call 81
  refine (qDigit bs bg g N s t (c - 48) _ HP.out hcn hn (by omega) (by omega)).mono ?_
  rintro e wa ⟨rfl, P1, K1⟩
  go_wp2_with fail
  go_end0
  exact ⟨rfl, P1, K1⟩
set_option maxHeartbeats 2000000 in
theorem sSeqSep (bs bg g N : Nat) (s : Rs) (t : Pt) (w : World) (h : PrAt w bs bg g N s t) (hcn : t.bad = false → 0 ≤ t.cn ∧ t.cn ≤ 8) :
    Calls Tryd.prog 62 #[.pointer (some ⟨bs, 0, none⟩), .int .u8 59] w (SPost bs bg g N w s (sepT t) (.tuple #[])) := by
  have HP : Hid (PrAt w bs bg g N s t) := h
  have f11 := h.f11
  have f26 := h.f26
  have fz := h.free
  have b1 : Wd.inB 59 48 57 = false := by decide
  clear h
  go_enter Tryd.func62, Tryd.ntmps62
  go_wp2_with (first | (go_at_call 80; refine (pWithinByte _ _ _ _).mono ?_; rintro e w' ⟨rfl, hw'⟩; replace hw' := hw'.symm; subst hw'))
  go_at_call 82
  refine (qSeparate bs bg g N s t _ HP.out hcn).mono ?_
  rintro e wa ⟨rfl, P1, K1⟩
  go_wp2_with fail
  go_end0
  exact ⟨rfl, P1, K1⟩
set_option maxHeartbeats 2000000 in
theorem sSeqBad (bs bg g N : Nat) (s : Rs) (t : Pt) (c : Int) (w : World) (h : PrAt w bs bg g N s t) (c0 : 64 ≤ c) (c9 : c ≤ 126) (hb : t.bad = true) :
    Calls Tryd.prog 62 #[.pointer (some ⟨bs, 0, none⟩), .int .u8 c] w (SPost bs bg g N w s { t with mode := 0 } (.tuple #[])) := by
  have HP : Hid (PrAt w bs bg g N s t) := h
  have f11 := h.f11
  have f26 := h.f26
  have fz := h.free
  have b1 : Wd.inB c 48 57 = false := by simp [Wd.inB]; omega
  have b2 : Wd.inB c 64 126 = true := by simp [Wd.inB]; omega
  have b3 : ¬ c = 59 := by omega
  rw [hb] at f26
  clear h
  go_enter Tryd.func62, Tryd.ntmps62
  go_wp2_with (first | (go_at_call 80; refine (pWithinByte _ _ _ _).mono ?_; rintro e w' ⟨rfl, hw'⟩; replace hw' := hw'.symm; subst hw'))
  go_end0
  exact ⟨rfl, HP.out.setMode 0, (Keep.refl _ w).setCell ⟨bs, 11, none⟩ _ (fun _ => Or.inl rfl)⟩
set_option maxHeartbeats 2000000 in
theorem sSeqDone (bs bg g N : Nat) (s : Rs) (t : Pt) (l : List Int) (c : Int) (w : World) (h : PrAt w bs bg g N s t) (ok : s.Ok) (hl : NumsIs t l) (hs : Small l) (c0 : 64 ≤ c) (c9 : c ≤ 126) (hb : t.bad = false) :
    Calls Tryd.prog 62 #[.pointer (some ⟨bs, 0, none⟩), .int .u8 c] w (SPost bs bg g N w (doneR s l c) { t with mode := 0 } (.tuple #[])) := by
  have HP : Hid (PrAt w bs bg g N s t) := h
  have f11 := h.f11
  have f26 := h.f26
  have fz := h.free
  have b1 : Wd.inB c 48 57 = false := by simp [Wd.inB]; omega
  have b2 : Wd.inB c 64 126 = true := by simp [Wd.inB]; omega
  have b3 : ¬ c = 59 := by omega
  rw [hb] at f26
  clear h
  go_enter Tryd.func62, Tryd.ntmps62
  go_wp2_with (first | (go_at_call 80; refine (pWithinByte _ _ _ _).mono ?_; rintro e w' ⟨rfl, hw'⟩; replace hw' := hw'.symm; subst hw'))
  go_at_call 83
  refine (sDo bs bg g N s { t with mode := 0 } l c _ (HP.out.setMode 0) ok ⟨hl.cn, hl.le, hl.nm⟩ hs).mono ?_
  rintro e wa ⟨rfl, P1, K1⟩
  go_wp2_with fail
  go_end0
  exact ⟨rfl, P1, ((Keep.refl _ w).setCell ⟨bs, 11, none⟩ _ (fun _ => Or.inl rfl)).trans K1 (fun _ _ h => h)⟩
set_option maxHeartbeats 2000000 in
theorem sSeqEsc (bs bg g N : Nat) (s : Rs) (t : Pt) (w : World) (h : PrAt w bs bg g N s t)  :
    Calls Tryd.prog 62 #[.pointer (some ⟨bs, 0, none⟩), .int .u8 27] w (SPost bs bg g N w s { t with mode := 1 } (.tuple #[])) := by
  have HP : Hid (PrAt w bs bg g N s t) := h
  have f11 := h.f11
  have f26 := h.f26
  have fz := h.free
  have b1 : Wd.inB 27 48 57 = false := by decide
  have b2 : Wd.inB 27 64 126 = false := by decide
  clear h
  go_enter Tryd.func62, Tryd.ntmps62
  go_wp2_with (first | (go_at_call 80; refine (pWithinByte _ _ _ _).mono ?_; rintro e w' ⟨rfl, hw'⟩; replace hw' := hw'.symm; subst hw'))
  go_end0
  exact ⟨rfl, HP.out.setMode 1, (Keep.refl _ w).setCell ⟨bs, 11, none⟩ _ (fun _ => Or.inl rfl)⟩
set_option maxHeartbeats 2000000 in
theorem sSeqOther (bs bg g N : Nat) (s : Rs) (t : Pt) (c : Int) (w : World) (h : PrAt w bs bg g N s t) (h1 : ¬ (48 ≤ c ∧ c ≤ 57)) (h2 : ¬ c = 59) (h3 : ¬ (64 ≤ c ∧ c ≤ 126)) (h4 : ¬ c = 27) :
    Calls Tryd.prog 62 #[.pointer (some ⟨bs, 0, none⟩), .int .u8 c] w (SPost bs bg g N w s { t with bad := true } (.tuple #[])) := by
  have HP : Hid (PrAt w bs bg g N s t) := h
  have f11 := h.f11
  have f26 := h.f26
  have fz := h.free
  have b1 : Wd.inB c 48 57 = false := by simp [Wd.inB]; omega
  have b2 : Wd.inB c 64 126 = false := by simp [Wd.inB]; omega
  clear h
  go_enter Tryd.func62, Tryd.ntmps62
  go_wp2_with (first | (go_at_call 80; refine (pWithinByte _ _ _ _).mono ?_; rintro e w' ⟨rfl, hw'⟩; replace hw' := hw'.symm; subst hw'))
  go_end0
  exact ⟨rfl, HP.out.setBad true, (Keep.refl _ w).setCell ⟨bs, 26, none⟩ _ (fun _ => Or.inl rfl)⟩
end Go.Proofs.YtknhohbepkapdaaDoor

/- The program's screen: bytes in the ground state. -/
namespace Go.Proofs.YtknhohbepkapdaaDoor
open Go.RowKit Go.Lib
attribute [local go_sem ↓] Go.wp_at_zero Go.wp_at_succ
set_option maxHeartbeats 2000000 in
theorem sGrE13 (bs bg g N : Nat) (s : Rs) (t : Pt) (w : World) (h : PrAt w bs bg g N s t) (h0 : t.bn = 0) :
    Calls Tryd.prog 63 #[.pointer (some ⟨bs, 0, none⟩), .int .u8 13] w (SPost bs bg g N w (goesR s 0 s.y) t (.tuple #[])) := by
  have hem : decide (t.bn = 0) = true := by simp [h0]
  have HP1 : Hid (PrAt w bs bg g N s t) := h
  have K1 : Keep (fun i => i = bs ∨ i = bg ∨ i = g) w w := Keep.refl _ w
  clear h
  go_enter Tryd.func63, Tryd.ntmps63
  go_wp2_with fail
  go_at_call 48
  refine (lEmpty bs bg g N s t _ HP1.out).mono ?_
  rintro e w' ⟨rfl, hw'⟩
  replace hw' := hw'.symm
  subst hw'
  rw [hem]
  have c2 := HP1.out.f2
  go_wp2_with fail
  go_at_call 45
  refine (sGoTo bs bg g N s t 0 s.y _ HP1.out).mono ?_
  rintro e wb ⟨rfl, P2, K2⟩
  go_wp2_with fail
  go_end0
  exact ⟨rfl, P2, K1.trans K2 (fun _ _ h => h)⟩
set_option maxHeartbeats 2000000 in
theorem sGrE10 (bs bg g N : Nat) (s : Rs) (t : Pt) (w : World) (h : PrAt w bs bg g N s t) (h0 : t.bn = 0) (ok : Rs.Ok { s with pend := false }) :
    Calls Tryd.prog 63 #[.pointer (some ⟨bs, 0, none⟩), .int .u8 10] w (SPost bs bg g N w (linefeedR s) t (.tuple #[])) := by
  have hem : decide (t.bn = 0) = true := by simp [h0]
  have HP1 : Hid (PrAt w bs bg g N s t) := h
  have K1 : Keep (fun i => i = bs ∨ i = bg ∨ i = g) w w := Keep.refl _ w
  clear h
  go_enter Tryd.func63, Tryd.ntmps63
  go_wp2_with fail
  go_at_call 48
  refine (lEmpty bs bg g N s t _ HP1.out).mono ?_
  rintro e w' ⟨rfl, hw'⟩
  replace hw' := hw'.symm
  subst hw'
  rw [hem]
  go_wp2_with fail
  go_at_call 85
  refine (sLineFeed bs bg g N s t _ HP1.out ok).mono ?_
  rintro e wb ⟨rfl, P2, K2⟩
  go_wp2_with fail
  go_end0
  exact ⟨rfl, P2, K1.trans K2 (fun _ _ h => h)⟩
set_option maxHeartbeats 2000000 in
theorem sGrE8 (bs bg g N : Nat) (s : Rs) (t : Pt) (w : World) (h : PrAt w bs bg g N s t) (h0 : t.bn = 0) (ok : s.Ok) :
    Calls Tryd.prog 63 #[.pointer (some ⟨bs, 0, none⟩), .int .u8 8] w (SPost bs bg g N w (goesR s (s.x - 1) s.y) t (.tuple #[])) := by
  have hem : decide (t.bn = 0) = true := by simp [h0]
  have HP1 : Hid (PrAt w bs bg g N s t) := h
  have K1 : Keep (fun i => i = bs ∨ i = bg ∨ i = g) w w := Keep.refl _ w
  clear h
  go_enter Tryd.func63, Tryd.ntmps63
  go_wp2_with fail
  go_at_call 48
  refine (lEmpty bs bg g N s t _ HP1.out).mono ?_
  rintro e w' ⟨rfl, hw'⟩
  replace hw' := hw'.symm
  subst hw'
  rw [hem]
  have c1 := HP1.out.f1
  have c2 := HP1.out.f2
  have x0 := ok.x0
  have x1 := ok.x1
  have w2 := ok.w2
  have wx : IntKind.i64.wrap (s.x - 1) = s.x - 1 := wrap_id _ (by omega) (by omega)
  go_wp2_with fail
  go_region_with (first | (go_at_call 45; refine (sGoTo bs bg g N s t (s.x - 1) s.y _ HP1.out.drew).mono ?_; rintro e wb ⟨rfl, P2, K2⟩))
  all_goals
    go_end0
    exact ⟨rfl, P2, (K1.drew).trans K2 (fun _ _ h => h)⟩
set_option maxHeartbeats 2000000 in
theorem sGrE27 (bs bg g N : Nat) (s : Rs) (t : Pt) (w : World) (h : PrAt w bs bg g N s t) (h0 : t.bn = 0) :
    Calls Tryd.prog 63 #[.pointer (some ⟨bs, 0, none⟩), .int .u8 27] w (SPost bs bg g N w s { t with mode := 1 } (.tuple #[])) := by
  have hem : decide (t.bn = 0) = true := by simp [h0]
  have HP1 : Hid (PrAt w bs bg g N s t) := h
  have K1 : Keep (fun i => i = bs ∨ i = bg ∨ i = g) w w := Keep.refl _ w
  clear h
  go_enter Tryd.func63, Tryd.ntmps63
  go_wp2_with fail
  go_at_call 48
  refine (lEmpty bs bg g N s t _ HP1.out).mono ?_
  rintro e w' ⟨rfl, hw'⟩
  replace hw' := hw'.symm
  subst hw'
  rw [hem]
  have c11 := HP1.out.f11
  have fz := HP1.out.free
  go_wp2_with fail
  go_end0
  exact ⟨rfl, HP1.out.setMode 1, K1.setCell ⟨bs, 11, none⟩ _ (fun _ => Or.inl rfl)⟩
set_option maxHeartbeats 2000000 in
theorem sGrEPut (bs bg g N : Nat) (s : Rs) (t : Pt) (c : Int) (w : World) (h : PrAt w bs bg g N s t) (h0 : t.bn = 0) (ok : s.Ok) (c0 : 0 ≤ c) (c1 : c < 128) (h1 : ¬ c = 13) (h2 : ¬ c = 10) (h3 : ¬ c = 8) (h4 : ¬ c = 27) :
    Calls Tryd.prog 63 #[.pointer (some ⟨bs, 0, none⟩), .int .u8 c] w (SPost bs bg g N w (putR s c) t (.tuple #[])) := by
  have hem : decide (t.bn = 0) = true := by simp [h0]
  have HP1 : Hid (PrAt w bs bg g N s t) := h
  have K1 : Keep (fun i => i = bs ∨ i = bg ∨ i = g) w w := Keep.refl _ w
  clear h
  go_enter Tryd.func63, Tryd.ntmps63
  go_wp2_with fail
  go_at_call 48
  refine (lEmpty bs bg g N s t _ HP1.out).mono ?_
  rintro e w' ⟨rfl, hw'⟩
  replace hw' := hw'.symm
  subst hw'
  rw [hem]
  go_wp2_with fail
  go_at_call 86
  refine (sPut bs bg g N s t c _ HP1.out ok).mono ?_
  rintro e wb ⟨rfl, P2, K2⟩
  go_wp2_with fail
  go_end0
  exact ⟨rfl, P2, K1.trans K2 (fun _ _ h => h)⟩
set_option maxHeartbeats 2000000 in
theorem sGrEHigh (bs bg g N : Nat) (s : Rs) (t : Pt) (s2 : Rs) (t2 : Pt) (c : Int) (bo : Bool) (w : World) (h : PrAt w bs bg g N s t) (h0 : t.bn = 0) (c0 : 128 ≤ c) (hG2 : ∀ w1, PrAt w1 bs bg g N s t → Keep (fun i => i = bs ∨ i = bg ∨ i = g) w w1 → Calls Tryd.prog 84 #[.pointer (some ⟨bs, 0, none⟩), .int .u8 c] w1 (SPost bs bg g N w1 s2 t2 (.bool bo))) :
    Calls Tryd.prog 63 #[.pointer (some ⟨bs, 0, none⟩), .int .u8 c] w (SPost bs bg g N w s2 t2 (.tuple #[])) := by
  have HG2 : Hid (∀ w1, PrAt w1 bs bg g N s t → Keep (fun i => i = bs ∨ i = bg ∨ i = g) w w1 → Calls Tryd.prog 84 #[.pointer (some ⟨bs, 0, none⟩), .int .u8 c] w1 (SPost bs bg g N w1 s2 t2 (.bool bo))) := hG2
  clear hG2
  have hem : decide (t.bn = 0) = true := by simp [h0]
  have HP1 : Hid (PrAt w bs bg g N s t) := h
  have K1 : Keep (fun i => i = bs ∨ i = bg ∨ i = g) w w := Keep.refl _ w
  clear h
  go_enter Tryd.func63, Tryd.ntmps63
  go_wp2_with fail
  go_at_call 48
  refine (lEmpty bs bg g N s t _ HP1.out).mono ?_
  rintro e w' ⟨rfl, hw'⟩
  replace hw' := hw'.symm
  subst hw'
  rw [hem]
  have h1 : ¬ c = 13 := by omega
  have h2 : ¬ c = 10 := by omega
  have h3 : ¬ c = 8 := by omega
  have h4 : ¬ c = 27 := by omega
  have h5 : ¬ c < 128 := by omega
  go_wp2_with fail
  go_at_call 84
  refine (HG2.out _ HP1.out K1).mono ?_
  rintro e wb ⟨rfl, P2, K2⟩
  go_wp2_with fail
  go_end0
  exact ⟨rfl, P2, K1.trans K2 (fun _ _ h => h)⟩
set_option maxHeartbeats 2000000 in
theorem sGrR13 (bs bg g N : Nat) (s : Rs) (t t1 : Pt) (w : World) (h : PrAt w bs bg g N s t) (h0 : ¬ t.bn = 0) (hG : Calls Tryd.prog 84 #[.pointer (some ⟨bs, 0, none⟩), .int .u8 13] w (SPost bs bg g N w s t1 (.bool false))) :
    Calls Tryd.prog 63 #[.pointer (some ⟨bs, 0, none⟩), .int .u8 13] w (SPost bs bg g N w (goesR s 0 s.y) t1 (.tuple #[])) := by
  have hem : decide (t.bn = 0) = false := by simp [h0]
  have HP : Hid (PrAt w bs bg g N s t) := h
  have HG : Hid (Calls Tryd.prog 84 #[.pointer (some ⟨bs, 0, none⟩), .int .u8 13] w (SPost bs bg g N w s t1 (.bool false))) := hG
  clear h hG
  go_enter Tryd.func63, Tryd.ntmps63
  go_wp2_with fail
  go_at_call 48
  refine (lEmpty bs bg g N s t _ HP.out).mono ?_
  rintro e w' ⟨rfl, hw'⟩
  replace hw' := hw'.symm
  subst hw'
  rw [hem]
  go_wp2_with fail
  go_at_call 84
  refine HG.out.mono ?_
  rintro e wa ⟨rfl, P1, K1⟩
  have HP1 : Hid (PrAt wa bs bg g N s t1) := P1
  clear P1 HP HG
  have c2 := HP1.out.f2
  go_wp2_with fail
  go_at_call 45
  refine (sGoTo bs bg g N s t1 0 s.y _ HP1.out).mono ?_
  rintro e wb ⟨rfl, P2, K2⟩
  go_wp2_with fail
  go_end0
  exact ⟨rfl, P2, K1.trans K2 (fun _ _ h => h)⟩
set_option maxHeartbeats 2000000 in
theorem sGrR10 (bs bg g N : Nat) (s : Rs) (t t1 : Pt) (w : World) (h : PrAt w bs bg g N s t) (h0 : ¬ t.bn = 0) (hG : Calls Tryd.prog 84 #[.pointer (some ⟨bs, 0, none⟩), .int .u8 10] w (SPost bs bg g N w s t1 (.bool false))) (ok : Rs.Ok { s with pend := false }) :
    Calls Tryd.prog 63 #[.pointer (some ⟨bs, 0, none⟩), .int .u8 10] w (SPost bs bg g N w (linefeedR s) t1 (.tuple #[])) := by
  have hem : decide (t.bn = 0) = false := by simp [h0]
  have HP : Hid (PrAt w bs bg g N s t) := h
  have HG : Hid (Calls Tryd.prog 84 #[.pointer (some ⟨bs, 0, none⟩), .int .u8 10] w (SPost bs bg g N w s t1 (.bool false))) := hG
  clear h hG
  go_enter Tryd.func63, Tryd.ntmps63
  go_wp2_with fail
  go_at_call 48
  refine (lEmpty bs bg g N s t _ HP.out).mono ?_
  rintro e w' ⟨rfl, hw'⟩
  replace hw' := hw'.symm
  subst hw'
  rw [hem]
  go_wp2_with fail
  go_at_call 84
  refine HG.out.mono ?_
  rintro e wa ⟨rfl, P1, K1⟩
  have HP1 : Hid (PrAt wa bs bg g N s t1) := P1
  clear P1 HP HG
  go_wp2_with fail
  go_at_call 85
  refine (sLineFeed bs bg g N s t1 _ HP1.out ok).mono ?_
  rintro e wb ⟨rfl, P2, K2⟩
  go_wp2_with fail
  go_end0
  exact ⟨rfl, P2, K1.trans K2 (fun _ _ h => h)⟩
set_option maxHeartbeats 2000000 in
theorem sGrR8 (bs bg g N : Nat) (s : Rs) (t t1 : Pt) (w : World) (h : PrAt w bs bg g N s t) (h0 : ¬ t.bn = 0) (hG : Calls Tryd.prog 84 #[.pointer (some ⟨bs, 0, none⟩), .int .u8 8] w (SPost bs bg g N w s t1 (.bool false))) (ok : s.Ok) :
    Calls Tryd.prog 63 #[.pointer (some ⟨bs, 0, none⟩), .int .u8 8] w (SPost bs bg g N w (goesR s (s.x - 1) s.y) t1 (.tuple #[])) := by
  have hem : decide (t.bn = 0) = false := by simp [h0]
  have HP : Hid (PrAt w bs bg g N s t) := h
  have HG : Hid (Calls Tryd.prog 84 #[.pointer (some ⟨bs, 0, none⟩), .int .u8 8] w (SPost bs bg g N w s t1 (.bool false))) := hG
  clear h hG
  go_enter Tryd.func63, Tryd.ntmps63
  go_wp2_with fail
  go_at_call 48
  refine (lEmpty bs bg g N s t _ HP.out).mono ?_
  rintro e w' ⟨rfl, hw'⟩
  replace hw' := hw'.symm
  subst hw'
  rw [hem]
  go_wp2_with fail
  go_at_call 84
  refine HG.out.mono ?_
  rintro e wa ⟨rfl, P1, K1⟩
  have HP1 : Hid (PrAt wa bs bg g N s t1) := P1
  clear P1 HP HG
  have c1 := HP1.out.f1
  have c2 := HP1.out.f2
  have x0 := ok.x0
  have x1 := ok.x1
  have w2 := ok.w2
  have wx : IntKind.i64.wrap (s.x - 1) = s.x - 1 := wrap_id _ (by omega) (by omega)
  go_wp2_with fail
  go_region_with (first | (go_at_call 45; refine (sGoTo bs bg g N s t1 (s.x - 1) s.y _ HP1.out.drew).mono ?_; rintro e wb ⟨rfl, P2, K2⟩))
  all_goals
    go_end0
    exact ⟨rfl, P2, (K1.drew).trans K2 (fun _ _ h => h)⟩
set_option maxHeartbeats 2000000 in
theorem sGrR27 (bs bg g N : Nat) (s : Rs) (t t1 : Pt) (w : World) (h : PrAt w bs bg g N s t) (h0 : ¬ t.bn = 0) (hG : Calls Tryd.prog 84 #[.pointer (some ⟨bs, 0, none⟩), .int .u8 27] w (SPost bs bg g N w s t1 (.bool false))) :
    Calls Tryd.prog 63 #[.pointer (some ⟨bs, 0, none⟩), .int .u8 27] w (SPost bs bg g N w s { t1 with mode := 1 } (.tuple #[])) := by
  have hem : decide (t.bn = 0) = false := by simp [h0]
  have HP : Hid (PrAt w bs bg g N s t) := h
  have HG : Hid (Calls Tryd.prog 84 #[.pointer (some ⟨bs, 0, none⟩), .int .u8 27] w (SPost bs bg g N w s t1 (.bool false))) := hG
  clear h hG
  go_enter Tryd.func63, Tryd.ntmps63
  go_wp2_with fail
  go_at_call 48
  refine (lEmpty bs bg g N s t _ HP.out).mono ?_
  rintro e w' ⟨rfl, hw'⟩
  replace hw' := hw'.symm
  subst hw'
  rw [hem]
  go_wp2_with fail
  go_at_call 84
  refine HG.out.mono ?_
  rintro e wa ⟨rfl, P1, K1⟩
  have HP1 : Hid (PrAt wa bs bg g N s t1) := P1
  clear P1 HP HG
  have c11 := HP1.out.f11
  have fz := HP1.out.free
  go_wp2_with fail
  go_end0
  exact ⟨rfl, HP1.out.setMode 1, K1.setCell ⟨bs, 11, none⟩ _ (fun _ => Or.inl rfl)⟩
set_option maxHeartbeats 2000000 in
theorem sGrRPut (bs bg g N : Nat) (s : Rs) (t t1 : Pt) (c : Int) (w : World) (h : PrAt w bs bg g N s t) (h0 : ¬ t.bn = 0) (hG : Calls Tryd.prog 84 #[.pointer (some ⟨bs, 0, none⟩), .int .u8 c] w (SPost bs bg g N w s t1 (.bool false))) (ok : s.Ok) (c0 : 0 ≤ c) (c1 : c < 128) (h1 : ¬ c = 13) (h2 : ¬ c = 10) (h3 : ¬ c = 8) (h4 : ¬ c = 27) :
    Calls Tryd.prog 63 #[.pointer (some ⟨bs, 0, none⟩), .int .u8 c] w (SPost bs bg g N w (putR s c) t1 (.tuple #[])) := by
  have hem : decide (t.bn = 0) = false := by simp [h0]
  have HP : Hid (PrAt w bs bg g N s t) := h
  have HG : Hid (Calls Tryd.prog 84 #[.pointer (some ⟨bs, 0, none⟩), .int .u8 c] w (SPost bs bg g N w s t1 (.bool false))) := hG
  clear h hG
  go_enter Tryd.func63, Tryd.ntmps63
  go_wp2_with fail
  go_at_call 48
  refine (lEmpty bs bg g N s t _ HP.out).mono ?_
  rintro e w' ⟨rfl, hw'⟩
  replace hw' := hw'.symm
  subst hw'
  rw [hem]
  go_wp2_with fail
  go_at_call 84
  refine HG.out.mono ?_
  rintro e wa ⟨rfl, P1, K1⟩
  have HP1 : Hid (PrAt wa bs bg g N s t1) := P1
  clear P1 HP HG
  go_wp2_with fail
  go_at_call 86
  refine (sPut bs bg g N s t1 c _ HP1.out ok).mono ?_
  rintro e wb ⟨rfl, P2, K2⟩
  go_wp2_with fail
  go_end0
  exact ⟨rfl, P2, K1.trans K2 (fun _ _ h => h)⟩
set_option maxHeartbeats 2000000 in
theorem sGrRHigh (bs bg g N : Nat) (s : Rs) (t t1 : Pt) (s2 : Rs) (t2 : Pt) (c : Int) (bo : Bool) (w : World) (h : PrAt w bs bg g N s t) (h0 : ¬ t.bn = 0) (hG : Calls Tryd.prog 84 #[.pointer (some ⟨bs, 0, none⟩), .int .u8 c] w (SPost bs bg g N w s t1 (.bool false))) (c0 : 128 ≤ c) (hG2 : ∀ w1, PrAt w1 bs bg g N s t1 → Keep (fun i => i = bs ∨ i = bg ∨ i = g) w w1 → Calls Tryd.prog 84 #[.pointer (some ⟨bs, 0, none⟩), .int .u8 c] w1 (SPost bs bg g N w1 s2 t2 (.bool bo))) :
    Calls Tryd.prog 63 #[.pointer (some ⟨bs, 0, none⟩), .int .u8 c] w (SPost bs bg g N w s2 t2 (.tuple #[])) := by
  have HG2 : Hid (∀ w1, PrAt w1 bs bg g N s t1 → Keep (fun i => i = bs ∨ i = bg ∨ i = g) w w1 → Calls Tryd.prog 84 #[.pointer (some ⟨bs, 0, none⟩), .int .u8 c] w1 (SPost bs bg g N w1 s2 t2 (.bool bo))) := hG2
  clear hG2
  have hem : decide (t.bn = 0) = false := by simp [h0]
  have HP : Hid (PrAt w bs bg g N s t) := h
  have HG : Hid (Calls Tryd.prog 84 #[.pointer (some ⟨bs, 0, none⟩), .int .u8 c] w (SPost bs bg g N w s t1 (.bool false))) := hG
  clear h hG
  go_enter Tryd.func63, Tryd.ntmps63
  go_wp2_with fail
  go_at_call 48
  refine (lEmpty bs bg g N s t _ HP.out).mono ?_
  rintro e w' ⟨rfl, hw'⟩
  replace hw' := hw'.symm
  subst hw'
  rw [hem]
  go_wp2_with fail
  go_at_call 84
  refine HG.out.mono ?_
  rintro e wa ⟨rfl, P1, K1⟩
  have HP1 : Hid (PrAt wa bs bg g N s t1) := P1
  clear P1 HP HG
  have h1 : ¬ c = 13 := by omega
  have h2 : ¬ c = 10 := by omega
  have h3 : ¬ c = 8 := by omega
  have h4 : ¬ c = 27 := by omega
  have h5 : ¬ c < 128 := by omega
  go_wp2_with fail
  go_at_call 84
  refine (HG2.out _ HP1.out K1).mono ?_
  rintro e wb ⟨rfl, P2, K2⟩
  go_wp2_with fail
  go_end0
  exact ⟨rfl, P2, K1.trans K2 (fun _ _ h => h)⟩
set_option maxHeartbeats 2000000 in
theorem sGrOn (bs bg g N : Nat) (s s1 : Rs) (t t1 : Pt) (c : Int) (w : World) (h : PrAt w bs bg g N s t) (h0 : ¬ t.bn = 0) (hG : Calls Tryd.prog 84 #[.pointer (some ⟨bs, 0, none⟩), .int .u8 c] w (SPost bs bg g N w s1 t1 (.bool true))) :
    Calls Tryd.prog 63 #[.pointer (some ⟨bs, 0, none⟩), .int .u8 c] w (SPost bs bg g N w s1 t1 (.tuple #[])) := by
  have hem : decide (t.bn = 0) = false := by simp [h0]
  have HP : Hid (PrAt w bs bg g N s t) := h
  have HG : Hid (Calls Tryd.prog 84 #[.pointer (some ⟨bs, 0, none⟩), .int .u8 c] w (SPost bs bg g N w s1 t1 (.bool true))) := hG
  clear h hG
  go_enter Tryd.func63, Tryd.ntmps63
  go_wp2_with fail
  go_at_call 48
  refine (lEmpty bs bg g N s t _ HP.out).mono ?_
  rintro e w' ⟨rfl, hw'⟩
  replace hw' := hw'.symm
  subst hw'
  rw [hem]
  go_wp2_with fail
  go_at_call 84
  refine HG.out.mono ?_
  rintro e wa ⟨rfl, P1, K1⟩
  have HP1 : Hid (PrAt wa bs bg g N s1 t1) := P1
  clear P1 HP HG
  go_wp2_with fail
  refine bodyPost_ret (v := .tuple #[]) (by simp [results, Tryd.results63, go_sem]) rfl ⟨rfl, HP1.out, K1⟩
end Go.Proofs.YtknhohbepkapdaaDoor

/- The program's screen: what it knows against what has come. -/
namespace Go.Proofs.YtknhohbepkapdaaDoor
open Go.RowKit Go.Lib
/-- The numbers of a sequence of which l has come. -/
def SeqIs (t : Pt) (l : List UInt8) : Prop :=
  (∃ L, numsTo l [] = some L ∧ t.bad = false ∧ NumsIs t L) ∨ (t.bad = true ∧ (numsTo l [] = none ∨ ∃ L, numsTo l [] = some L ∧ 8 < L.length))
/-- What the program knows is what has come. -/
def Tie (B : ByteArray) (t : Pt) : Prop :=
  (B = ⟨#[]⟩ ∧ t.mode = 0 ∧ t.bn = 0) ∨ (B = ⟨#[27]⟩ ∧ t.mode = 1 ∧ t.bn = 0) ∨ (∃ l : List UInt8, B = ⟨(27 :: 91 :: l).toArray⟩ ∧ t.mode = 2 ∧ t.bn = 0 ∧ SeqIs t l)
  ∨ (∃ a : UInt8, B = ⟨#[a]⟩ ∧ t.mode = 0 ∧ t.bn = 1 ∧ t.by4 0 = a.toNat ∧ 194 ≤ a.toNat ∧ a.toNat ≤ 244)
  ∨ (∃ a b : UInt8, B = ⟨#[a, b]⟩ ∧ t.mode = 0 ∧ t.bn = 2 ∧ t.by4 0 = a.toNat ∧ t.by4 1 = b.toNat ∧ 224 ≤ a.toNat ∧ a.toNat ≤ 244 ∧ lowR a.toNat ≤ b.toNat ∧ (b.toNat : Int) ≤ highR a.toNat)
  ∨ (∃ a b d : UInt8, B = ⟨#[a, b, d]⟩ ∧ t.mode = 0 ∧ t.bn = 3 ∧ t.by4 0 = a.toNat ∧ t.by4 1 = b.toNat ∧ t.by4 2 = d.toNat ∧ 240 ≤ a.toNat ∧ a.toNat ≤ 244 ∧ lowR a.toNat ≤ b.toNat ∧ (b.toNat : Int) ≤ highR a.toNat ∧ 128 ≤ d.toNat ∧ d.toNat ≤ 191)
/-- What a byte leaves. -/
def TPost (bs bg g N : Nat) (w : World) (s : Rs) (e : Ending) (w' : World) : Prop :=
  e = .returned (.tuple #[]) ∧ (∃ t, PrAt w' bs bg g N s t ∧ Tie s.B t) ∧ Keep (fun i => i = bs ∨ i = bg ∨ i = g) w w'
theorem call_tp {bs bg g N : Nat} {w : World} {s s' : Rs} {t : Pt} {f : Nat} {args : Array Value} (h : Calls Tryd.prog f args w (SPost bs bg g N w s t (.tuple #[]))) (hs : prArr bg s' t = prArr bg s t) (hW : s'.W = s.W) (hH : s'.H = s.H) (hG : s'.G = s.G) (tie : Tie s'.B t) :
    Calls Tryd.prog f args w (TPost bs bg g N w s') := by
  refine h.mono ?_
  rintro e w' ⟨rfl, P, K⟩
  exact ⟨rfl, ⟨t, P.congr s' hs hW hH (fun _ _ _ _ => by rw [hG]), tie⟩, K⟩
theorem wd_ctl {c : Int} (h : c < 32 ∨ c = 127) : Wd.wd c = 0 := by
  unfold Wd.wd
  rw [if_pos]
  simp [Wd.zeroB, Wd.inB]
  omega
theorem put_odd {s : Rs} {c : Int} (h : Wd.wd c = 0) : putR s c = oddR s := by unfold putR oddR; rw [if_pos h]
theorem tie0 {t : Pt} (h1 : t.mode = 0) (h2 : t.bn = 0) : Tie ⟨#[]⟩ t := .inl ⟨rfl, h1, h2⟩
section
variable {w : World} {bs bg g N : Nat} {s : Rs} {t : Pt}
theorem sGroundE (c : UInt8) (h : PrAt w bs bg g N s t) (ok : s.Ok) (T : Tabs w) (hB : s.B = ⟨#[]⟩) (hm : t.mode = 0) (h0 : t.bn = 0) (n0 : ¬ bs = 0) (n1 : ¬ bs = 1) (m0 : ¬ bg = 0) (m1 : ¬ bg = 1) (k0 : ¬ g = 0) (k1 : ¬ g = 1) :
    Calls Tryd.prog 63 #[.pointer (some ⟨bs, 0, none⟩), .int .u8 c.toNat] w (TPost bs bg g N w (groundR s c)) := by
  have tie : Tie s.B t := by rw [hB]; exact tie0 hm h0
  have c256 := c.toNat_lt
  unfold groundR
  by_cases e13 : (c.toNat : Int) = 13
  · rw [if_pos e13]
    rw [e13]
    exact call_tp (sGrE13 bs bg g N s t w h h0) rfl rfl rfl rfl tie
  rw [if_neg e13]
  by_cases e10 : (c.toNat : Int) = 10
  · rw [if_pos e10]
    rw [e10]
    exact call_tp (sGrE10 bs bg g N s t w h h0 (ok_pend ok)) rfl rfl rfl rfl (by rw [lf_B]; exact tie)
  rw [if_neg e10]
  by_cases e8 : (c.toNat : Int) = 8
  · rw [if_pos e8]
    rw [e8]
    exact call_tp (sGrE8 bs bg g N s t w h h0 ok) rfl rfl rfl rfl tie
  rw [if_neg e8]
  by_cases e27 : (c.toNat : Int) = 27
  · rw [if_pos e27]
    rw [e27]
    exact call_tp (sGrE27 bs bg g N s t w h h0) rfl rfl rfl rfl (.inr (.inl ⟨rfl, rfl, h0⟩))
  rw [if_neg e27]
  by_cases e128 : (c.toNat : Int) < 128
  · have P := sGrEPut bs bg g N s t c.toNat w h h0 ok (by omega) e128 e13 e10 e8 e27
    by_cases ep : 32 ≤ (c.toNat : Int) ∧ (c.toNat : Int) ≤ 126
    · rw [if_pos ep]
      exact call_tp P rfl rfl rfl rfl (by rw [put_B]; exact tie)
    · have q := longR_val c.toNat
      rw [if_neg ep, if_neg (by omega)]
      rw [put_odd (wd_ctl (by omega))] at P
      exact call_tp P rfl rfl rfl rfl tie
  rw [if_neg (by omega)]
  have q := longR_val c.toNat
  by_cases el : 0 < longR c.toNat
  · rw [if_pos el]
    refine call_tp (sGrEHigh bs bg g N s t s (addT t 0 c.toNat) c.toNat true w h h0 (by omega) (fun w1 P K => ?_)) rfl rfl rfl rfl (.inr (.inr (.inr (.inl ⟨c, rfl, hm, rfl, rfl, by omega, by omega⟩))))
    exact sGoesOnOpen bs bg g N s _ c.toNat w1 (lAdd1 c P (T.keep K (by omega) (by omega)) n0 n1 h0 (by omega) (by omega))
  · rw [if_neg el]
    refine call_tp (sGrEHigh bs bg g N s t s { addT t 0 c.toNat with bn := 0 } c.toNat false w h h0 (by omega) (fun w1 P K => ?_)) rfl rfl rfl rfl (by show Tie s.B _; rw [hB]; exact tie0 hm rfl)
    exact sGoesOnRef bs bg g N s _ c.toNat w1 (lAdd1bad c P (T.keep K (by omega) (by omega)) n0 n1 h0 (by omega) (by omega))
theorem sGroundR (t1 : Pt) (c : UInt8) (h : PrAt w bs bg g N s t) (ok : s.Ok) (T : Tabs w) (hB : s.B = ⟨#[]⟩) (h0 : ¬ t.bn = 0) (hm : t1.mode = 0) (h1 : t1.bn = 0) (hG : Calls Tryd.prog 84 #[.pointer (some ⟨bs, 0, none⟩), .int .u8 c.toNat] w (SPost bs bg g N w s t1 (.bool false))) (n0 : ¬ bs = 0) (n1 : ¬ bs = 1) (m0 : ¬ bg = 0) (m1 : ¬ bg = 1) (k0 : ¬ g = 0) (k1 : ¬ g = 1) :
    Calls Tryd.prog 63 #[.pointer (some ⟨bs, 0, none⟩), .int .u8 c.toNat] w (TPost bs bg g N w (groundR s c)) := by
  have tie : Tie s.B t1 := by rw [hB]; exact tie0 hm h1
  have c256 := c.toNat_lt
  unfold groundR
  by_cases e13 : (c.toNat : Int) = 13
  · rw [if_pos e13]
    rw [e13] at hG ⊢
    exact call_tp (sGrR13 bs bg g N s t t1 w h h0 hG) rfl rfl rfl rfl tie
  rw [if_neg e13]
  by_cases e10 : (c.toNat : Int) = 10
  · rw [if_pos e10]
    rw [e10] at hG ⊢
    exact call_tp (sGrR10 bs bg g N s t t1 w h h0 hG (ok_pend ok)) rfl rfl rfl rfl (by rw [lf_B]; exact tie)
  rw [if_neg e10]
  by_cases e8 : (c.toNat : Int) = 8
  · rw [if_pos e8]
    rw [e8] at hG ⊢
    exact call_tp (sGrR8 bs bg g N s t t1 w h h0 hG ok) rfl rfl rfl rfl tie
  rw [if_neg e8]
  by_cases e27 : (c.toNat : Int) = 27
  · rw [if_pos e27]
    rw [e27] at hG ⊢
    exact call_tp (sGrR27 bs bg g N s t t1 w h h0 hG) rfl rfl rfl rfl (.inr (.inl ⟨rfl, rfl, h1⟩))
  rw [if_neg e27]
  by_cases e128 : (c.toNat : Int) < 128
  · have P := sGrRPut bs bg g N s t t1 c.toNat w h h0 hG ok (by omega) e128 e13 e10 e8 e27
    by_cases ep : 32 ≤ (c.toNat : Int) ∧ (c.toNat : Int) ≤ 126
    · rw [if_pos ep]
      exact call_tp P rfl rfl rfl rfl (by rw [put_B]; exact tie)
    · have q := longR_val c.toNat
      rw [if_neg ep, if_neg (by omega)]
      rw [put_odd (wd_ctl (by omega))] at P
      exact call_tp P rfl rfl rfl rfl tie
  rw [if_neg (by omega)]
  have q := longR_val c.toNat
  by_cases el : 0 < longR c.toNat
  · rw [if_pos el]
    refine call_tp (sGrRHigh bs bg g N s t t1 s (addT t1 0 c.toNat) c.toNat true w h h0 hG (by omega) (fun w1 P K => ?_)) rfl rfl rfl rfl (.inr (.inr (.inr (.inl ⟨c, rfl, hm, rfl, rfl, by omega, by omega⟩))))
    exact sGoesOnOpen bs bg g N s _ c.toNat w1 (lAdd1 c P (T.keep K (by omega) (by omega)) n0 n1 h1 (by omega) (by omega))
  · rw [if_neg el]
    refine call_tp (sGrRHigh bs bg g N s t t1 s { addT t1 0 c.toNat with bn := 0 } c.toNat false w h h0 hG (by omega) (fun w1 P K => ?_)) rfl rfl rfl rfl (by show Tie s.B _; rw [hB]; exact tie0 hm rfl)
    exact sGoesOnRef bs bg g N s _ c.toNat w1 (lAdd1bad c P (T.keep K (by omega) (by omega)) n0 n1 h1 (by omega) (by omega))
end
end Go.Proofs.YtknhohbepkapdaaDoor

/- The numbers of a sequence: the program's against the document's. -/
namespace Go.Proofs.YtknhohbepkapdaaDoor
theorem begun_getD (l : List Int) (i : Nat) : (begunL l).getD i 0 = l.getD i 0 := by
  unfold begunL
  split
  · rename_i e; subst e
    cases i <;> simp
  · rfl
theorem max_len (l : List Int) : maxI1 (l.length : Int) = (begunL l).length := by
  rw [begun_length]
  unfold maxI1
  split <;> split <;> omega
theorem setLast_len (l : List Int) (v : Int) : (setLast l v).length = l.length := by unfold setLast; simp
theorem setLast_getD (l : List Int) (v : Int) (i : Nat) (h : 0 < l.length) : (setLast l v).getD i 0 = if i = l.length - 1 then v else l.getD i 0 := by
  unfold setLast
  simp only [List.getD_eq_getElem?_getD, List.getElem?_set]
  by_cases e : i = l.length - 1
  · subst e; rw [if_pos rfl, if_pos rfl, if_pos (by omega)]; rfl
  · rw [if_neg (fun q => e q.symm), if_neg e]
theorem begun_pos (l : List Int) : 0 < (begunL l).length := by rw [begun_length]; split <;> omega
theorem nums_digit {t : Pt} {L : List Int} (h : NumsIs t L) (hb : t.bad = false) (d : Int) : NumsIs (digT t d) (setLast (begunL L) (capN (10 * lastOf (begunL L) + d))) ∧ (digT t d).bad = false := by
  have hp := begun_pos L
  have hle := h.le
  have hlen := begun_length L
  have hl8 : (begunL L).length ≤ 8 := by rw [hlen]; split <;> omega
  have hT : digT t d = { t with cn := (begunL L).length, nm := updI t.nm ((begunL L).length - 1) (capN (t.nm ((begunL L).length - 1) * 10 + d)) } := by
    unfold digT
    rw [if_neg (by rw [hb]; decide), h.cn, max_len]
    simp
  rw [hT]
  refine ⟨⟨by rw [setLast_len], by rw [setLast_len]; exact hl8, fun i hi => ?_⟩, hb⟩
  show updI t.nm _ _ i = _
  rw [setLast_getD _ _ _ hp]
  unfold updI
  split
  · have e : t.nm ((begunL L).length - 1) = lastOf (begunL L) := by
      rw [h.nm _ (by omega)]; unfold lastOf; rw [begun_getD]
    rw [e, Int.mul_comm]
  · rw [h.nm i hi, begun_getD]
theorem nums_sep {t : Pt} {L : List Int} (h : NumsIs t L) (hb : t.bad = false) : (8 < (begunL L ++ [0]).length ∧ (sepT t).bad = true) ∨ (NumsIs (sepT t) (begunL L ++ [0]) ∧ (sepT t).bad = false) := by
  have hT : sepT t = { t with cn := ((begunL L).length : Int) + 1, bad := decide (8 < ((begunL L).length : Int) + 1) } := by
    unfold sepT
    rw [if_neg (by rw [hb]; decide), h.cn, max_len]
  rw [hT]
  by_cases h8 : 8 < (begunL L).length + 1
  · left; exact ⟨by simpa using h8, by show decide _ = true; simp; omega⟩
  · right
    refine ⟨⟨by simp, by simp; omega, fun i hi => ?_⟩, by show decide _ = false; simp; omega⟩
    show t.nm i = _
    rw [h.nm i hi, ← begun_getD]
    simp only [List.getD_eq_getElem?_getD]
    by_cases e : i < (begunL L).length
    · rw [List.getElem?_append_left e]
    · rw [List.getElem?_append_right (by omega), List.getElem?_eq_none (by omega)]
      cases i - (begunL L).length <;> simp
theorem bad_stays {l : List UInt8} (h : numsTo l [] = none ∨ ∃ L, numsTo l [] = some L ∧ 8 < L.length) (c : UInt8) : numsTo (l ++ [c]) [] = none ∨ ∃ L, numsTo (l ++ [c]) [] = some L ∧ 8 < L.length := by
  rcases h with h | ⟨L, h, h8⟩
  · left; rw [numsTo_append, h]
  · rw [numsTo_snoc _ _ _ _ h]
    have hl := begun_length L
    rw [if_neg (by omega)] at hl
    unfold numStep
    split
    · right; exact ⟨_, rfl, by simp; omega⟩
    · split
      · right; exact ⟨_, rfl, by rw [setLast_len]; omega⟩
      · left; rfl
theorem seq_digit {t : Pt} {l : List UInt8} (h : SeqIs t l) (c : UInt8) (c0 : 48 ≤ (c.toNat : Int)) (c9 : (c.toNat : Int) ≤ 57) : SeqIs (digT t (c.toNat - 48)) (l ++ [c]) := by
  rcases h with ⟨L, e, hb, hn⟩ | ⟨hb, e⟩
  · left
    have q := nums_digit hn hb ((c.toNat : Int) - 48)
    refine ⟨_, ?_, q.2, q.1⟩
    rw [numsTo_snoc _ _ _ _ e]
    unfold numStep
    rw [if_neg (by omega), if_pos ⟨c0, c9⟩]
  · right
    rw [show digT t (c.toNat - 48) = t from if_pos hb]
    exact ⟨hb, bad_stays e c⟩
theorem seq_sep {t : Pt} {l : List UInt8} (h : SeqIs t l) (c : UInt8) (hc : (c.toNat : Int) = 59) : SeqIs (sepT t) (l ++ [c]) := by
  rcases h with ⟨L, e, hb, hn⟩ | ⟨hb, e⟩
  · have e' : numsTo (l ++ [c]) [] = some (begunL L ++ [0]) := by
      rw [numsTo_snoc _ _ _ _ e]
      unfold numStep
      rw [if_pos hc]
    rcases nums_sep hn hb with ⟨q1, q2⟩ | ⟨q1, q2⟩
    · right; exact ⟨q2, .inr ⟨_, e', q1⟩⟩
    · left; exact ⟨_, e', q2, q1⟩
  · right
    rw [show sepT t = t from if_pos hb]
    exact ⟨hb, bad_stays e c⟩
theorem seq_other {t : Pt} {l : List UInt8} (h : SeqIs t l) (c : UInt8) (h1 : ¬ (48 ≤ (c.toNat : Int) ∧ (c.toNat : Int) ≤ 57)) (h2 : ¬ (c.toNat : Int) = 59) : SeqIs { t with bad := true } (l ++ [c]) := by
  right
  refine ⟨rfl, ?_⟩
  rcases h with ⟨L, e, hb, hn⟩ | ⟨hb, e⟩
  · left
    rw [numsTo_snoc _ _ _ _ e]
    unfold numStep
    rw [if_neg h2, if_neg h1]
  · exact bad_stays e c
theorem digT_mode (t : Pt) (d : Int) : (digT t d).mode = t.mode ∧ (digT t d).bn = t.bn := by unfold digT; split <;> exact ⟨rfl, rfl⟩
theorem sepT_mode (t : Pt) : (sepT t).mode = t.mode ∧ (sepT t).bn = t.bn := by unfold sepT; split <;> exact ⟨rfl, rfl⟩
theorem SeqIs.cn {t : Pt} {l : List UInt8} (h : SeqIs t l) : t.bad = false → 0 ≤ t.cn ∧ t.cn ≤ 8 := by
  intro hb
  rcases h with ⟨L, _, _, hn⟩ | ⟨hb', _⟩
  · have := hn.le; rw [hn.cn]; omega
  · rw [hb] at hb'; cases hb'
theorem SeqIs.small {t : Pt} {l : List UInt8} (h : SeqIs t l) : t.bad = false → ∀ i, i < 8 → 0 ≤ t.nm i ∧ t.nm i ≤ 9999 := by
  intro hb i hi
  rcases h with ⟨L, e, _, hn⟩ | ⟨hb', _⟩
  · rw [hn.nm i hi]; exact numsTo_small l [] L small_nil e i
  · rw [hb] at hb'; cases hb'
end Go.Proofs.YtknhohbepkapdaaDoor
