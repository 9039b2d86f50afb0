/- Texts of the proof, one behind the other: PuG, PuH. -/
import Derived.Test.YtknhohbepkapdaaDoorK17
/- The program's screen: bytes in a sequence. -/
namespace Go.Proofs.YtknhohbepkapdaaDoor
open Go.RowKit Go.Lib
attribute [local go_sem ↓] Go.wp_at_zero Go.wp_at_succ
theorem sDo (bs bg g N : Nat) (s : Rs) (t : Pt) (l : List Int) (c : Int) (w : World) (h : PrAt w bs bg g N s t) (ok : s.Ok) (hl : NumsIs t l) (hs : Small l) :
    Calls Tryd.prog 83 #[.pointer (some ⟨bs, 0, none⟩), .int .u8 c] w (SPost bs bg g N w (doneR s l c) t (.tuple #[])) := by
  by_cases h65 : c = 65
  · subst h65; exact sDoA bs bg g N s t l w h ok hl hs
  by_cases h66 : c = 66
  · subst h66; exact sDoB bs bg g N s t l w h ok hl hs
  by_cases h67 : c = 67
  · subst h67; exact sDoC bs bg g N s t l w h ok hl hs
  by_cases h68 : c = 68
  · subst h68; exact sDoD bs bg g N s t l w h ok hl hs
  by_cases h72 : c = 72
  · subst h72; exact sDoH bs bg g N s t l w h ok hl hs
  by_cases h75 : c = 75
  · subst h75; exact sDoK bs bg g N s t l w h ok hl hs
  by_cases h74 : c = 74
  · subst h74; exact sDoJ bs bg g N s t l w h ok hl hs
  by_cases h88 : c = 88
  · subst h88; exact sDoX bs bg g N s t l w h ok hl hs
  by_cases h83 : c = 83
  · subst h83; exact sDoS bs bg g N s t l w h ok hl hs
  by_cases h84 : c = 84
  · subst h84; exact sDoT bs bg g N s t l w h ok hl hs
  by_cases h114 : c = 114
  · subst h114; exact sDoR bs bg g N s t l w h ok hl hs
  by_cases h109 : c = 109
  · subst h109; exact sDoM bs bg g N s t l w h hl
  exact sDoN bs bg g N s t l c w h ⟨h65, h66, h67, h68, h72, h75, h74, h88, h83, h84, h114, h109⟩
set_option maxHeartbeats 2000000 in
theorem sSeqDigit (bs bg g N : Nat) (s : Rs) (t : Pt) (c : Int) (w : World) (h : PrAt w bs bg g N s t) (hcn : t.bad = false → 0 ≤ t.cn ∧ t.cn ≤ 8) (hn : t.bad = false → ∀ i, i < 8 → 0 ≤ t.nm i ∧ t.nm i ≤ 9999) (c0 : 48 ≤ c) (c9 : c ≤ 57) :
    Calls Tryd.prog 62 #[.pointer (some ⟨bs, 0, none⟩), .int .u8 c] w (SPost bs bg g N w s (digT t (c - 48)) (.tuple #[])) := by
  have HP : Hid (PrAt w bs bg g N s t) := h
  have f11 := h.f11
  have f26 := h.f26
  have fz := h.free
  have b1 : Wd.inB c 48 57 = true := by simp [Wd.inB, c0, c9]
  have wc : IntKind.u8.wrap (c - 48) = c - 48 := by unfold IntKind.wrap; simp [IntKind.bits, IntKind.signed]; omega
  clear h
  go_enter Tryd.func62, Tryd.ntmps62
  go_wp2_with (first | (go_at_call 80; refine (pWithinByte _ _ _ _).mono ?_; rintro e w' ⟨rfl, hw'⟩; replace hw' := hw'.symm; subst hw'))
  go_at_call 81
  refine (qDigit bs bg g N s t (c - 48) _ HP.out hcn hn (by omega) (by omega)).mono ?_
  rintro e wa ⟨rfl, P1, K1⟩
  go_wp2_with fail
  go_end0
  exact ⟨rfl, P1, K1⟩
set_option maxHeartbeats 2000000 in
theorem sSeqSep (bs bg g N : Nat) (s : Rs) (t : Pt) (w : World) (h : PrAt w bs bg g N s t) (hcn : t.bad = false → 0 ≤ t.cn ∧ t.cn ≤ 8) :
    Calls Tryd.prog 62 #[.pointer (some ⟨bs, 0, none⟩), .int .u8 59] w (SPost bs bg g N w s (sepT t) (.tuple #[])) := by
  have HP : Hid (PrAt w bs bg g N s t) := h
  have f11 := h.f11
  have f26 := h.f26
  have fz := h.free
  have b1 : Wd.inB 59 48 57 = false := by decide
  clear h
  go_enter Tryd.func62, Tryd.ntmps62
  go_wp2_with (first | (go_at_call 80; refine (pWithinByte _ _ _ _).mono ?_; rintro e w' ⟨rfl, hw'⟩; replace hw' := hw'.symm; subst hw'))
  go_at_call 82
  refine (qSeparate bs bg g N s t _ HP.out hcn).mono ?_
  rintro e wa ⟨rfl, P1, K1⟩
  go_wp2_with fail
  go_end0
  exact ⟨rfl, P1, K1⟩
set_option maxHeartbeats 2000000 in
theorem sSeqBad (bs bg g N : Nat) (s : Rs) (t : Pt) (c : Int) (w : World) (h : PrAt w bs bg g N s t) (c0 : 64 ≤ c) (c9 : c ≤ 126) (hb : t.bad = true) :
    Calls Tryd.prog 62 #[.pointer (some ⟨bs, 0, none⟩), .int .u8 c] w (SPost bs bg g N w s { t with mode := 0 } (.tuple #[])) := by
  have HP : Hid (PrAt w bs bg g N s t) := h
  have f11 := h.f11
  have f26 := h.f26
  have fz := h.free
  have b1 : Wd.inB c 48 57 = false := by simp [Wd.inB]; omega
  have b2 : Wd.inB c 64 126 = true := by simp [Wd.inB]; omega
  have b3 : ¬ c = 59 := by omega
  rw [hb] at f26
  clear h
  go_enter Tryd.func62, Tryd.ntmps62
  go_wp2_with (first | (go_at_call 80; refine (pWithinByte _ _ _ _).mono ?_; rintro e w' ⟨rfl, hw'⟩; replace hw' := hw'.symm; subst hw'))
  go_end0
  exact ⟨rfl, HP.out.setMode 0, (Keep.refl _ w).setCell ⟨bs, 11, none⟩ _ (fun _ => Or.inl rfl)⟩
set_option maxHeartbeats 2000000 in
theorem sSeqDone (bs bg g N : Nat) (s : Rs) (t : Pt) (l : List Int) (c : Int) (w : World) (h : PrAt w bs bg g N s t) (ok : s.Ok) (hl : NumsIs t l) (hs : Small l) (c0 : 64 ≤ c) (c9 : c ≤ 126) (hb : t.bad = false) :
    Calls Tryd.prog 62 #[.pointer (some ⟨bs, 0, none⟩), .int .u8 c] w (SPost bs bg g N w (doneR s l c) { t with mode := 0 } (.tuple #[])) := by
  have HP : Hid (PrAt w bs bg g N s t) := h
  have f11 := h.f11
  have f26 := h.f26
  have fz := h.free
  have b1 : Wd.inB c 48 57 = false := by simp [Wd.inB]; omega
  have b2 : Wd.inB c 64 126 = true := by simp [Wd.inB]; omega
  have b3 : ¬ c = 59 := by omega
  rw [hb] at f26
  clear h
  go_enter Tryd.func62, Tryd.ntmps62
  go_wp2_with (first | (go_at_call 80; refine (pWithinByte _ _ _ _).mono ?_; rintro e w' ⟨rfl, hw'⟩; replace hw' := hw'.symm; subst hw'))
  go_at_call 83
  refine (sDo bs bg g N s { t with mode := 0 } l c _ (HP.out.setMode 0) ok ⟨hl.cn, hl.le, hl.nm⟩ hs).mono ?_
  rintro e wa ⟨rfl, P1, K1⟩
  go_wp2_with fail
  go_end0
  exact ⟨rfl, P1, ((Keep.refl _ w).setCell ⟨bs, 11, none⟩ _ (fun _ => Or.inl rfl)).trans K1 (fun _ _ h => h)⟩
set_option maxHeartbeats 2000000 in
theorem sSeqEsc (bs bg g N : Nat) (s : Rs) (t : Pt) (w : World) (h : PrAt w bs bg g N s t)  :
    Calls Tryd.prog 62 #[.pointer (some ⟨bs, 0, none⟩), .int .u8 27] w (SPost bs bg g N w s { t with mode := 1 } (.tuple #[])) := by
  have HP : Hid (PrAt w bs bg g N s t) := h
  have f11 := h.f11
  have f26 := h.f26
  have fz := h.free
  have b1 : Wd.inB 27 48 57 = false := by decide
  have b2 : Wd.inB 27 64 126 = false := by decide
  clear h
  go_enter Tryd.func62, Tryd.ntmps62
  go_wp2_with (first | (go_at_call 80; refine (pWithinByte _ _ _ _).mono ?_; rintro e w' ⟨rfl, hw'⟩; replace hw' := hw'.symm; subst hw'))
  go_end0
  exact ⟨rfl, HP.out.setMode 1, (Keep.refl _ w).setCell ⟨bs, 11, none⟩ _ (fun _ => Or.inl rfl)⟩
set_option maxHeartbeats 2000000 in
theorem sSeqOther (bs bg g N : Nat) (s : Rs) (t : Pt) (c : Int) (w : World) (h : PrAt w bs bg g N s t) (h1 : ¬ (48 ≤ c ∧ c ≤ 57)) (h2 : ¬ c = 59) (h3 : ¬ (64 ≤ c ∧ c ≤ 126)) (h4 : ¬ c = 27) :
    Calls Tryd.prog 62 #[.pointer (some ⟨bs, 0, none⟩), .int .u8 c] w (SPost bs bg g N w s { t with bad := true } (.tuple #[])) := by
  have HP : Hid (PrAt w bs bg g N s t) := h
  have f11 := h.f11
  have f26 := h.f26
  have fz := h.free
  have b1 : Wd.inB c 48 57 = false := by simp [Wd.inB]; omega
  have b2 : Wd.inB c 64 126 = false := by simp [Wd.inB]; omega
  clear h
  go_enter Tryd.func62, Tryd.ntmps62
  go_wp2_with (first | (go_at_call 80; refine (pWithinByte _ _ _ _).mono ?_; rintro e w' ⟨rfl, hw'⟩; replace hw' := hw'.symm; subst hw'))
  go_end0
  exact ⟨rfl, HP.out.setBad true, (Keep.refl _ w).setCell ⟨bs, 26, none⟩ _ (fun _ => Or.inl rfl)⟩
end Go.Proofs.YtknhohbepkapdaaDoor

/- The program's screen: bytes in the ground state. -/
namespace Go.Proofs.YtknhohbepkapdaaDoor
open Go.RowKit Go.Lib
attribute [local go_sem ↓] Go.wp_at_zero Go.wp_at_succ
set_option maxHeartbeats 2000000 in
theorem sGrE13 (bs bg g N : Nat) (s : Rs) (t : Pt) (w : World) (h : PrAt w bs bg g N s t) (h0 : t.bn = 0) :
    Calls Tryd.prog 63 #[.pointer (some ⟨bs, 0, none⟩), .int .u8 13] w (SPost bs bg g N w (goesR s 0 s.y) t (.tuple #[])) := by
  have hem : decide (t.bn = 0) = true := by simp [h0]
  have HP1 : Hid (PrAt w bs bg g N s t) := h
  have K1 : Keep (fun i => i = bs ∨ i = bg ∨ i = g) w w := Keep.refl _ w
  clear h
  go_enter Tryd.func63, Tryd.ntmps63
  go_wp2_with fail
  go_at_call 48
  refine (lEmpty bs bg g N s t _ HP1.out).mono ?_
  rintro e w' ⟨rfl, hw'⟩
  replace hw' := hw'.symm
  subst hw'
  rw [hem]
  have c2 := HP1.out.f2
  go_wp2_with fail
  go_at_call 45
  refine (sGoTo bs bg g N s t 0 s.y _ HP1.out).mono ?_
  rintro e wb ⟨rfl, P2, K2⟩
  go_wp2_with fail
  go_end0
  exact ⟨rfl, P2, K1.trans K2 (fun _ _ h => h)⟩
set_option maxHeartbeats 2000000 in
theorem sGrE10 (bs bg g N : Nat) (s : Rs) (t : Pt) (w : World) (h : PrAt w bs bg g N s t) (h0 : t.bn = 0) (ok : Rs.Ok { s with pend := false }) :
    Calls Tryd.prog 63 #[.pointer (some ⟨bs, 0, none⟩), .int .u8 10] w (SPost bs bg g N w (linefeedR s) t (.tuple #[])) := by
  have hem : decide (t.bn = 0) = true := by simp [h0]
  have HP1 : Hid (PrAt w bs bg g N s t) := h
  have K1 : Keep (fun i => i = bs ∨ i = bg ∨ i = g) w w := Keep.refl _ w
  clear h
  go_enter Tryd.func63, Tryd.ntmps63
  go_wp2_with fail
  go_at_call 48
  refine (lEmpty bs bg g N s t _ HP1.out).mono ?_
  rintro e w' ⟨rfl, hw'⟩
  replace hw' := hw'.symm
  subst hw'
  rw [hem]
  go_wp2_with fail
  go_at_call 85
  refine (sLineFeed bs bg g N s t _ HP1.out ok).mono ?_
  rintro e wb ⟨rfl, P2, K2⟩
  go_wp2_with fail
  go_end0
  exact ⟨rfl, P2, K1.trans K2 (fun _ _ h => h)⟩
set_option maxHeartbeats 2000000 in
theorem sGrE8 (bs bg g N : Nat) (s : Rs) (t : Pt) (w : World) (h : PrAt w bs bg g N s t) (h0 : t.bn = 0) (ok : s.Ok) :
    Calls Tryd.prog 63 #[.pointer (some ⟨bs, 0, none⟩), .int .u8 8] w (SPost bs bg g N w (goesR s (s.x - 1) s.y) t (.tuple #[])) := by
  have hem : decide (t.bn = 0) = true := by simp [h0]
  have HP1 : Hid (PrAt w bs bg g N s t) := h
  have K1 : Keep (fun i => i = bs ∨ i = bg ∨ i = g) w w := Keep.refl _ w
  clear h
  go_enter Tryd.func63, Tryd.ntmps63
  go_wp2_with fail
  go_at_call 48
  refine (lEmpty bs bg g N s t _ HP1.out).mono ?_
  rintro e w' ⟨rfl, hw'⟩
  replace hw' := hw'.symm
  subst hw'
  rw [hem]
  have c1 := HP1.out.f1
  have c2 := HP1.out.f2
  have x0 := ok.x0
  have x1 := ok.x1
  have w2 := ok.w2
  have wx : IntKind.i64.wrap (s.x - 1) = s.x - 1 := wrap_id _ (by omega) (by omega)
  go_wp2_with fail
  go_region_with (first | (go_at_call 45; refine (sGoTo bs bg g N s t (s.x - 1) s.y _ HP1.out.drew).mono ?_; rintro e wb ⟨rfl, P2, K2⟩))
  all_goals
    go_end0
    exact ⟨rfl, P2, (K1.drew).trans K2 (fun _ _ h => h)⟩
set_option maxHeartbeats 2000000 in
theorem sGrE27 (bs bg g N : Nat) (s : Rs) (t : Pt) (w : World) (h : PrAt w bs bg g N s t) (h0 : t.bn = 0) :
    Calls Tryd.prog 63 #[.pointer (some ⟨bs, 0, none⟩), .int .u8 27] w (SPost bs bg g N w s { t with mode := 1 } (.tuple #[])) := by
  have hem : decide (t.bn = 0) = true := by simp [h0]
  have HP1 : Hid (PrAt w bs bg g N s t) := h
  have K1 : Keep (fun i => i = bs ∨ i = bg ∨ i = g) w w := Keep.refl _ w
  clear h
  go_enter Tryd.func63, Tryd.ntmps63
  go_wp2_with fail
  go_at_call 48
  refine (lEmpty bs bg g N s t _ HP1.out).mono ?_
  rintro e w' ⟨rfl, hw'⟩
  replace hw' := hw'.symm
  subst hw'
  rw [hem]
  have c11 := HP1.out.f11
  have fz := HP1.out.free
  go_wp2_with fail
  go_end0
  exact ⟨rfl, HP1.out.setMode 1, K1.setCell ⟨bs, 11, none⟩ _ (fun _ => Or.inl rfl)⟩
set_option maxHeartbeats 2000000 in
theorem sGrEPut (bs bg g N : Nat) (s : Rs) (t : Pt) (c : Int) (w : World) (h : PrAt w bs bg g N s t) (h0 : t.bn = 0) (ok : s.Ok) (c0 : 0 ≤ c) (c1 : c < 128) (h1 : ¬ c = 13) (h2 : ¬ c = 10) (h3 : ¬ c = 8) (h4 : ¬ c = 27) :
    Calls Tryd.prog 63 #[.pointer (some ⟨bs, 0, none⟩), .int .u8 c] w (SPost bs bg g N w (putR s c) t (.tuple #[])) := by
  have hem : decide (t.bn = 0) = true := by simp [h0]
  have HP1 : Hid (PrAt w bs bg g N s t) := h
  have K1 : Keep (fun i => i = bs ∨ i = bg ∨ i = g) w w := Keep.refl _ w
  clear h
  go_enter Tryd.func63, Tryd.ntmps63
  go_wp2_with fail
  go_at_call 48
  refine (lEmpty bs bg g N s t _ HP1.out).mono ?_
  rintro e w' ⟨rfl, hw'⟩
  replace hw' := hw'.symm
  subst hw'
  rw [hem]
  go_wp2_with fail
  go_at_call 86
  refine (sPut bs bg g N s t c _ HP1.out ok).mono ?_
  rintro e wb ⟨rfl, P2, K2⟩
  go_wp2_with fail
  go_end0
  exact ⟨rfl, P2, K1.trans K2 (fun _ _ h => h)⟩
set_option maxHeartbeats 2000000 in
theorem sGrEHigh (bs bg g N : Nat) (s : Rs) (t : Pt) (s2 : Rs) (t2 : Pt) (c : Int) (bo : Bool) (w : World) (h : PrAt w bs bg g N s t) (h0 : t.bn = 0) (c0 : 128 ≤ c) (hG2 : ∀ w1, PrAt w1 bs bg g N s t → Keep (fun i => i = bs ∨ i = bg ∨ i = g) w w1 → Calls Tryd.prog 84 #[.pointer (some ⟨bs, 0, none⟩), .int .u8 c] w1 (SPost bs bg g N w1 s2 t2 (.bool bo))) :
    Calls Tryd.prog 63 #[.pointer (some ⟨bs, 0, none⟩), .int .u8 c] w (SPost bs bg g N w s2 t2 (.tuple #[])) := by
  have HG2 : Hid (∀ w1, PrAt w1 bs bg g N s t → Keep (fun i => i = bs ∨ i = bg ∨ i = g) w w1 → Calls Tryd.prog 84 #[.pointer (some ⟨bs, 0, none⟩), .int .u8 c] w1 (SPost bs bg g N w1 s2 t2 (.bool bo))) := hG2
  clear hG2
  have hem : decide (t.bn = 0) = true := by simp [h0]
  have HP1 : Hid (PrAt w bs bg g N s t) := h
  have K1 : Keep (fun i => i = bs ∨ i = bg ∨ i = g) w w := Keep.refl _ w
  clear h
  go_enter Tryd.func63, Tryd.ntmps63
  go_wp2_with fail
  go_at_call 48
  refine (lEmpty bs bg g N s t _ HP1.out).mono ?_
  rintro e w' ⟨rfl, hw'⟩
  replace hw' := hw'.symm
  subst hw'
  rw [hem]
  have h1 : ¬ c = 13 := by omega
  have h2 : ¬ c = 10 := by omega
  have h3 : ¬ c = 8 := by omega
  have h4 : ¬ c = 27 := by omega
  have h5 : ¬ c < 128 := by omega
  go_wp2_with fail
  go_at_call 84
  refine (HG2.out _ HP1.out K1).mono ?_
  rintro e wb ⟨rfl, P2, K2⟩
  go_wp2_with fail
  go_end0
  exact ⟨rfl, P2, K1.trans K2 (fun _ _ h => h)⟩
set_option maxHeartbeats 2000000 in
theorem sGrR13 (bs bg g N : Nat) (s : Rs) (t t1 : Pt) (w : World) (h : PrAt w bs bg g N s t) (h0 : ¬ t.bn = 0) (hG : Calls Tryd.prog 84 #[.pointer (some ⟨bs, 0, none⟩), .int .u8 13] w (SPost bs bg g N w s t1 (.bool false))) :
    Calls Tryd.prog 63 #[.pointer (some ⟨bs, 0, none⟩), .int .u8 13] w (SPost bs bg g N w (goesR s 0 s.y) t1 (.tuple #[])) := by
  have hem : decide (t.bn = 0) = false := by simp [h0]
  have HP : Hid (PrAt w bs bg g N s t) := h
  have HG : Hid (Calls Tryd.prog 84 #[.pointer (some ⟨bs, 0, none⟩), .int .u8 13] w (SPost bs bg g N w s t1 (.bool false))) := hG
  clear h hG
  go_enter Tryd.func63, Tryd.ntmps63
  go_wp2_with fail
  go_at_call 48
  refine (lEmpty bs bg g N s t _ HP.out).mono ?_
  rintro e w' ⟨rfl, hw'⟩
  replace hw' := hw'.symm
  subst hw'
  rw [hem]
  go_wp2_with fail
  go_at_call 84
  refine HG.out.mono ?_
  rintro e wa ⟨rfl, P1, K1⟩
  have HP1 : Hid (PrAt wa bs bg g N s t1) := P1
  clear P1 HP HG
  have c2 := HP1.out.f2
  go_wp2_with fail
  go_at_call 45
  refine (sGoTo bs bg g N s t1 0 s.y _ HP1.out).mono ?_
  rintro e wb ⟨rfl, P2, K2⟩
  go_wp2_with fail
  go_end0
  exact ⟨rfl, P2, K1.trans K2 (fun _ _ h => h)⟩
set_option maxHeartbeats 2000000 in
theorem sGrR10 (bs bg g N : Nat) (s : Rs) (t t1 : Pt) (w : World) (h : PrAt w bs bg g N s t) (h0 : ¬ t.bn = 0) (hG : Calls Tryd.prog 84 #[.pointer (some ⟨bs, 0, none⟩), .int .u8 10] w (SPost bs bg g N w s t1 (.bool false))) (ok : Rs.Ok { s with pend := false }) :
    Calls Tryd.prog 63 #[.pointer (some ⟨bs, 0, none⟩), .int .u8 10] w (SPost bs bg g N w (linefeedR s) t1 (.tuple #[])) := by
  have hem : decide (t.bn = 0) = false := by simp [h0]
  have HP : Hid (PrAt w bs bg g N s t) := h
  have HG : Hid (Calls Tryd.prog 84 #[.pointer (some ⟨bs, 0, none⟩), .int .u8 10] w (SPost bs bg g N w s t1 (.bool false))) := hG
  clear h hG
  go_enter Tryd.func63, Tryd.ntmps63
  go_wp2_with fail
  go_at_call 48
  refine (lEmpty bs bg g N s t _ HP.out).mono ?_
  rintro e w' ⟨rfl, hw'⟩
  replace hw' := hw'.symm
  subst hw'
  rw [hem]
  go_wp2_with fail
  go_at_call 84
  refine HG.out.mono ?_
  rintro e wa ⟨rfl, P1, K1⟩
  have HP1 : Hid (PrAt wa bs bg g N s t1) := P1
  clear P1 HP HG
  go_wp2_with fail
  go_at_call 85
  refine (sLineFeed bs bg g N s t1 _ HP1.out ok).mono ?_
  rintro e wb ⟨rfl, P2, K2⟩
  go_wp2_with fail
  go_end0
  exact ⟨rfl, P2, K1.trans K2 (fun _ _ h => h)⟩
set_option maxHeartbeats 2000000 in
theorem sGrR8 (bs bg g N : Nat) (s : Rs) (t t1 : Pt) (w : World) (h : PrAt w bs bg g N s t) (h0 : ¬ t.bn = 0) (hG : Calls Tryd.prog 84 #[.pointer (some ⟨bs, 0, none⟩), .int .u8 8] w (SPost bs bg g N w s t1 (.bool false))) (ok : s.Ok) :
    Calls Tryd.prog 63 #[.pointer (some ⟨bs, 0, none⟩), .int .u8 8] w (SPost bs bg g N w (goesR s (s.x - 1) s.y) t1 (.tuple #[])) := by
  have hem : decide (t.bn = 0) = false := by simp [h0]
  have HP : Hid (PrAt w bs bg g N s t) := h
  have HG : Hid (Calls Tryd.prog 84 #[.pointer (some ⟨bs, 0, none⟩), .int .u8 8] w (SPost bs bg g N w s t1 (.bool false))) := hG
  clear h hG
  go_enter Tryd.func63, Tryd.ntmps63
  go_wp2_with fail
  go_at_call 48
  refine (lEmpty bs bg g N s t _ HP.out).mono ?_
  rintro e w' ⟨rfl, hw'⟩
  replace hw' := hw'.symm
  subst hw'
  rw [hem]
  go_wp2_with fail
  go_at_call 84
  refine HG.out.mono ?_
  rintro e wa ⟨rfl, P1, K1⟩
  have HP1 : Hid (PrAt wa bs bg g N s t1) := P1
  clear P1 HP HG
  have c1 := HP1.out.f1
  have c2 := HP1.out.f2
  have x0 := ok.x0
  have x1 := ok.x1
  have w2 := ok.w2
  have wx : IntKind.i64.wrap (s.x - 1) = s.x - 1 := wrap_id _ (by omega) (by omega)
  go_wp2_with fail
  go_region_with (first | (go_at_call 45; refine (sGoTo bs bg g N s t1 (s.x - 1) s.y _ HP1.out.drew).mono ?_; rintro e wb ⟨rfl, P2, K2⟩))
  all_goals
    go_end0
    exact ⟨rfl, P2, (K1.drew).trans K2 (fun _ _ h => h)⟩
set_option maxHeartbeats 2000000 in
theorem sGrR27 (bs bg g N : Nat) (s : Rs) (t t1 : Pt) (w : World) (h : PrAt w bs bg g N s t) (h0 : ¬ t.bn = 0) (hG : Calls Tryd.prog 84 #[.pointer (some ⟨bs, 0, none⟩), .int .u8 27] w (SPost bs bg g N w s t1 (.bool false))) :
    Calls Tryd.prog 63 #[.pointer (some ⟨bs, 0, none⟩), .int .u8 27] w (SPost bs bg g N w s { t1 with mode := 1 } (.tuple #[])) := by
  have hem : decide (t.bn = 0) = false := by simp [h0]
  have HP : Hid (PrAt w bs bg g N s t) := h
  have HG : Hid (Calls Tryd.prog 84 #[.pointer (some ⟨bs, 0, none⟩), .int .u8 27] w (SPost bs bg g N w s t1 (.bool false))) := hG
  clear h hG
  go_enter Tryd.func63, Tryd.ntmps63
  go_wp2_with fail
  go_at_call 48
  refine (lEmpty bs bg g N s t _ HP.out).mono ?_
  rintro e w' ⟨rfl, hw'⟩
  replace hw' := hw'.symm
  subst hw'
  rw [hem]
  go_wp2_with fail
  go_at_call 84
  refine HG.out.mono ?_
  rintro e wa ⟨rfl, P1, K1⟩
  have HP1 : Hid (PrAt wa bs bg g N s t1) := P1
  clear P1 HP HG
  have c11 := HP1.out.f11
  have fz := HP1.out.free
  go_wp2_with fail
  go_end0
  exact ⟨rfl, HP1.out.setMode 1, K1.setCell ⟨bs, 11, none⟩ _ (fun _ => Or.inl rfl)⟩
set_option maxHeartbeats 2000000 in
theorem sGrRPut (bs bg g N : Nat) (s : Rs) (t t1 : Pt) (c : Int) (w : World) (h : PrAt w bs bg g N s t) (h0 : ¬ t.bn = 0) (hG : Calls Tryd.prog 84 #[.pointer (some ⟨bs, 0, none⟩), .int .u8 c] w (SPost bs bg g N w s t1 (.bool false))) (ok : s.Ok) (c0 : 0 ≤ c) (c1 : c < 128) (h1 : ¬ c = 13) (h2 : ¬ c = 10) (h3 : ¬ c = 8) (h4 : ¬ c = 27) :
    Calls Tryd.prog 63 #[.pointer (some ⟨bs, 0, none⟩), .int .u8 c] w (SPost bs bg g N w (putR s c) t1 (.tuple #[])) := by
  have hem : decide (t.bn = 0) = false := by simp [h0]
  have HP : Hid (PrAt w bs bg g N s t) := h
  have HG : Hid (Calls Tryd.prog 84 #[.pointer (some ⟨bs, 0, none⟩), .int .u8 c] w (SPost bs bg g N w s t1 (.bool false))) := hG
  clear h hG
  go_enter Tryd.func63, Tryd.ntmps63
  go_wp2_with fail
  go_at_call 48
  refine (lEmpty bs bg g N s t _ HP.out).mono ?_
  rintro e w' ⟨rfl, hw'⟩
  replace hw' := hw'.symm
  subst hw'
  rw [hem]
  go_wp2_with fail
  go_at_call 84
  refine HG.out.mono ?_
  rintro e wa ⟨rfl, P1, K1⟩
  have HP1 : Hid (PrAt wa bs bg g N s t1) := P1
  clear P1 HP HG
  go_wp2_with fail
  go_at_call 86
  refine (sPut bs bg g N s t1 c _ HP1.out ok).mono ?_
  rintro e wb ⟨rfl, P2, K2⟩
  go_wp2_with fail
  go_end0
  exact ⟨rfl, P2, K1.trans K2 (fun _ _ h => h)⟩
set_option maxHeartbeats 2000000 in
theorem sGrRHigh (bs bg g N : Nat) (s : Rs) (t t1 : Pt) (s2 : Rs) (t2 : Pt) (c : Int) (bo : Bool) (w : World) (h : PrAt w bs bg g N s t) (h0 : ¬ t.bn = 0) (hG : Calls Tryd.prog 84 #[.pointer (some ⟨bs, 0, none⟩), .int .u8 c] w (SPost bs bg g N w s t1 (.bool false))) (c0 : 128 ≤ c) (hG2 : ∀ w1, PrAt w1 bs bg g N s t1 → Keep (fun i => i = bs ∨ i = bg ∨ i = g) w w1 → Calls Tryd.prog 84 #[.pointer (some ⟨bs, 0, none⟩), .int .u8 c] w1 (SPost bs bg g N w1 s2 t2 (.bool bo))) :
    Calls Tryd.prog 63 #[.pointer (some ⟨bs, 0, none⟩), .int .u8 c] w (SPost bs bg g N w s2 t2 (.tuple #[])) := by
  have HG2 : Hid (∀ w1, PrAt w1 bs bg g N s t1 → Keep (fun i => i = bs ∨ i = bg ∨ i = g) w w1 → Calls Tryd.prog 84 #[.pointer (some ⟨bs, 0, none⟩), .int .u8 c] w1 (SPost bs bg g N w1 s2 t2 (.bool bo))) := hG2
  clear hG2
  have hem : decide (t.bn = 0) = false := by simp [h0]
  have HP : Hid (PrAt w bs bg g N s t) := h
  have HG : Hid (Calls Tryd.prog 84 #[.pointer (some ⟨bs, 0, none⟩), .int .u8 c] w (SPost bs bg g N w s t1 (.bool false))) := hG
  clear h hG
  go_enter Tryd.func63, Tryd.ntmps63
  go_wp2_with fail
  go_at_call 48
  refine (lEmpty bs bg g N s t _ HP.out).mono ?_
  rintro e w' ⟨rfl, hw'⟩
  replace hw' := hw'.symm
  subst hw'
  rw [hem]
  go_wp2_with fail
  go_at_call 84
  refine HG.out.mono ?_
  rintro e wa ⟨rfl, P1, K1⟩
  have HP1 : Hid (PrAt wa bs bg g N s t1) := P1
  clear P1 HP HG
  have h1 : ¬ c = 13 := by omega
  have h2 : ¬ c = 10 := by omega
  have h3 : ¬ c = 8 := by omega
  have h4 : ¬ c = 27 := by omega
  have h5 : ¬ c < 128 := by omega
  go_wp2_with fail
  go_at_call 84
  refine (HG2.out _ HP1.out K1).mono ?_
  rintro e wb ⟨rfl, P2, K2⟩
  go_wp2_with fail
  go_end0
  exact ⟨rfl, P2, K1.trans K2 (fun _ _ h => h)⟩
set_option maxHeartbeats 2000000 in
theorem sGrOn (bs bg g N : Nat) (s s1 : Rs) (t t1 : Pt) (c : Int) (w : World) (h : PrAt w bs bg g N s t) (h0 : ¬ t.bn = 0) (hG : Calls Tryd.prog 84 #[.pointer (some ⟨bs, 0, none⟩), .int .u8 c] w (SPost bs bg g N w s1 t1 (.bool true))) :
    Calls Tryd.prog 63 #[.pointer (some ⟨bs, 0, none⟩), .int .u8 c] w (SPost bs bg g N w s1 t1 (.tuple #[])) := by
  have hem : decide (t.bn = 0) = false := by simp [h0]
  have HP : Hid (PrAt w bs bg g N s t) := h
  have HG : Hid (Calls Tryd.prog 84 #[.pointer (some ⟨bs, 0, none⟩), .int .u8 c] w (SPost bs bg g N w s1 t1 (.bool true))) := hG
  clear h hG
  go_enter Tryd.func63, Tryd.ntmps63
  go_wp2_with fail
  go_at_call 48
  refine (lEmpty bs bg g N s t _ HP.out).mono ?_
  rintro e w' ⟨rfl, hw'⟩
  replace hw' := hw'.symm
  subst hw'
  rw [hem]
  go_wp2_with fail
  go_at_call 84
  refine HG.out.mono ?_
  rintro e wa ⟨rfl, P1, K1⟩
  have HP1 : Hid (PrAt wa bs bg g N s1 t1) := P1
  clear P1 HP HG
  go_wp2_with fail
  refine bodyPost_ret (v := .tuple #[]) (by simp [results, Tryd.results63, go_sem]) rfl ⟨rfl, HP1.out, K1⟩
end Go.Proofs.YtknhohbepkapdaaDoor
