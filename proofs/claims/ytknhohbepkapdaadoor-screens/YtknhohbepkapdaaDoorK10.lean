/- Texts of the proof, one behind the other: PsE. -/
import Derived.Test.YtknhohbepkapdaaDoorK09
/- The program's screen: put. -/
namespace Go.Proofs.YtknhohbepkapdaaDoor
open Go.RowKit
open Wd (wd)
attribute [local go_sem ↓] Go.wp_at_zero Go.wp_at_succ
theorem step_eq {s : Rs} {k : Int} (hp : s.pend = false) (hx : s.x + k ≤ s.W) : stepR s k = { s with pend := (s.x + k == (s.W : Int)), x := leastI (s.x + k) ((s.W : Int) - 1) } := by
  unfold stepR leastI
  by_cases h : (s.W : Int) ≤ s.x + k
  · have e : s.x + k = s.W := by omega
    rw [if_pos h, if_pos (by omega), e]; simp
  · have e : ¬ s.x + k = s.W := by omega
    rw [if_neg h, if_neg (by omega)]
    have : (s.x + k == (s.W : Int)) = false := by simpa using e
    rw [this, ← hp]
theorem putR_A {s : Rs} {r k : Int} (hk : wd r = k) (hk1 : k = 1 ∨ k = 2) (hkW : k ≤ s.W) : putR s r = stepR (writeR (brokenR s k) r) k := by
  unfold putR effW effR
  rw [if_neg (by omega), if_neg (by omega), if_neg (by omega), hk]
theorem putR_B {s : Rs} {r : Int} (hk : wd r = 2) (hW : s.W = 1) : putR s r = stepR (writeR (brokenR s 1) 32) 1 := by
  unfold putR effW effR
  rw [if_neg (by omega), if_pos ⟨hk, hW⟩, if_pos ⟨hk, hW⟩]
set_option maxHeartbeats 2000000 in
theorem sPutAN (bs bg g N : Nat) (s : Rs) (t : Pt) (r k : Int) (w : World) (h : PrAt w bs bg g N s t) (ok : s.Ok) (hk : wd r = k) (hk1 : k = 1 ∨ k = 2) (hkW : k ≤ s.W) (hp : s.pend = false) (hx : s.x + k ≤ s.W) :
    Calls Tryd.prog 86 #[.pointer (some ⟨bs, 0, none⟩), .int .i32 r] w (SPost bs bg g N w (stepR (writeR s r) k) t (.tuple #[])) := by
  have HP : Hid (PrAt w bs bg g N s t) := h
  have Hok : Hid s.Ok := ok
  have c0 := h.f0
  have c1 := h.f1
  have c3 := h.f3
  have fz := h.free
  have w2 := ok.w2
  have w1 := ok.w1
  have x0 := ok.x0
  have x1 := ok.x1
  rw [hp] at c3
  have hk0 : ¬ k = 0 := by omega
  have hkW' : ¬ (s.W : Int) < k := by omega
  have hx' : ¬ (s.W : Int) < s.x + k := by omega
  clear h ok
  go_enter Tryd.func86, Tryd.ntmps86
  go_wp2_with (first | (go_at_call 42; refine (Wd.lettersWidth _ _).mono ?_; rintro e w' ⟨rfl, hw'⟩; replace hw' := hw'.symm; subst hw') | (go_at_call 46; refine (pWidth bg g s.W s.H N s.G _ HP.out.gr).mono ?_; rintro e w' ⟨rfl, hw'⟩; replace hw' := hw'.symm; subst hw'))
  have K1 : Keep (fun i => i = bs ∨ i = bg ∨ i = g) w w := Keep.refl _ _
  have HP1 : Hid (PrAt w bs bg g N s t) := HP.out
  have Hok1 : Hid s.Ok := Hok.out
  clear c0 c1 c3 fz HP
  have Hr : Hid ((wd r = 1 ∧ s.x < s.W) ∨ (wd r = 2 ∧ s.x + 2 ≤ s.W)) := by
    show _ ∨ _
    omega
  have x0 := Hok1.out.x0
  have c0 := HP1.out.f0
  have c1 := HP1.out.f1
  have c2 := HP1.out.f2
  have c4 := HP1.out.f4
  have c5 := HP1.out.f5
  have c6 := HP1.out.f6
  have c7 := HP1.out.f7
  have c8 := HP1.out.f8
  have HD : Hid (PrAt w.drew bs bg g N s t) := HP1.out.drew
  have lt : bs < w.heap.size := HP1.out.lt
  have ng : ¬ bs = g := HP1.out.ne2
  go_region_held3 (fun w' => w'.cell? ⟨bs, 0, none⟩ = some (.pointer (some ⟨bg, 0, none⟩)) ∧ w'.cell? ⟨bs, 1, none⟩ = some (.int .i64 s.x) ∧ w'.cell? ⟨bs, 2, none⟩ = some (.int .i64 s.y) ∧ w'.cell? ⟨bs, 4, none⟩ = some (.int .i64 s.pen.f) ∧ w'.cell? ⟨bs, 5, none⟩ = some (.int .i64 s.pen.b) ∧ w'.cell? ⟨bs, 6, none⟩ = some (.bool s.pen.bo) ∧ w'.cell? ⟨bs, 7, none⟩ = some (.bool s.pen.un) ∧ w'.cell? ⟨bs, 8, none⟩ = some (.bool s.pen.re)) (simp [*]) (first | (go_at_call 102; refine (pPutG bg g s.W s.H N s.G s.x s.y r s.pen _ HD.out.gr Hok1.out.wf x0 Hok1.out.y0 Hok1.out.y1 Hr.out).mono ?_; rintro e w3 ⟨rfl, G3, K3⟩; have e2 := keepC K3 lt ng))
  have HP3 : Hid (PrAt w3 bs bg g N (writeR s r) t) := HD.out.cells _ (K3.block _ lt ng) G3 rfl ng
  have K4 : Keep (fun i => i = bs ∨ i = bg ∨ i = g) w w3 := (K1.drew).trans K3 (fun _ _ h => Or.inr (Or.inr h))
  clear HD HP1 e2 G3 K3 K1 lt c0 c1 c2 c4 c5 c6 c7 c8
  have c1 : w3.cell? ⟨bs, 1, none⟩ = some (.int .i64 s.x) := HP3.out.f1
  have c3 : w3.cell? ⟨bs, 3, none⟩ = some (.bool s.pend) := HP3.out.f3
  have fz := HP3.out.free
  have x40 := Hok1.out.w2
  have Hst : Hid (stepR (writeR s r) k = { writeR s r with pend := (s.x + k == (s.W : Int)), x := leastI (s.x + k) ((s.W : Int) - 1) }) := by
    show _ = _
    exact step_eq hp hx
  go_wp2_with (first | (go_at_call 66; refine (pLeast _ _ _).mono ?_; rintro e w' ⟨rfl, hw'⟩; replace hw' := hw'.symm; subst hw'))
  go_end0
  refine ⟨rfl, ?_, (K4.setCell ⟨bs, 3, none⟩ _ (fun _ => Or.inl rfl)).setCell ⟨bs, 1, none⟩ _ (fun _ => Or.inl rfl)⟩
  rw [Hst.out]
  exact (HP3.out.setPend _).setX _
set_option maxHeartbeats 2000000 in
theorem sPutAP (bs bg g N : Nat) (s : Rs) (t : Pt) (r k : Int) (w : World) (h : PrAt w bs bg g N s t) (ok : s.Ok) (hk : wd r = k) (hk1 : k = 1 ∨ k = 2) (hkW : k ≤ s.W) (hp : s.pend = true) :
    Calls Tryd.prog 86 #[.pointer (some ⟨bs, 0, none⟩), .int .i32 r] w (SPost bs bg g N w (stepR (writeR (linefeedR { s with x := 0 }) r) k) t (.tuple #[])) := by
  have HP : Hid (PrAt w bs bg g N s t) := h
  have Hok : Hid s.Ok := ok
  have c0 := h.f0
  have c1 := h.f1
  have c3 := h.f3
  have fz := h.free
  have w2 := ok.w2
  have w1 := ok.w1
  have x0 := ok.x0
  have x1 := ok.x1
  rw [hp] at c3
  have hk0 : ¬ k = 0 := by omega
  have hkW' : ¬ (s.W : Int) < k := by omega
  clear h ok
  go_enter Tryd.func86, Tryd.ntmps86
  go_wp2_with (first | (go_at_call 42; refine (Wd.lettersWidth _ _).mono ?_; rintro e w' ⟨rfl, hw'⟩; replace hw' := hw'.symm; subst hw') | (go_at_call 46; refine (pWidth bg g s.W s.H N s.G _ HP.out.gr).mono ?_; rintro e w' ⟨rfl, hw'⟩; replace hw' := hw'.symm; subst hw'))
  go_at_call 85
  refine (sLineFeed bs bg g N { s with x := 0 } t _ (HP.out.setX 0) (ok_x0' Hok.out)).mono ?_
  rintro e wa ⟨rfl, P1, K0⟩
  have K1 : Keep (fun i => i = bs ∨ i = bg ∨ i = g) w wa := ((Keep.refl _ w).setCell ⟨bs, 1, none⟩ _ (fun _ => Or.inl rfl)).trans K0 (fun _ _ h => h)
  have ok1 : (linefeedR { s with x := 0 }).Ok := ok_lf Hok.out
  have hW1' : (linefeedR { s with x := 0 }).W = s.W := lf_W _
  have hp1 : (linefeedR { s with x := 0 }).pend = false := lf_pend _
  have hx1' : (linefeedR { s with x := 0 }).x = 0 := by
    rcases lf_x { s with x := 0 } with e | e
    · exact e
    · rw [e]; exact clamp_id (Int.le_refl 0) (by show (0 : Int) < s.W; omega)
  generalize linefeedR { s with x := 0 } = s1 at *
  have HP1 : Hid (PrAt wa bs bg g N s1 t) := P1
  have Hok1 : Hid s1.Ok := ok1
  have Hx1 : Hid (s1.x = 0) := hx1'
  have HW1 : Hid (s1.W = s.W) := hW1'
  clear c0 c1 c3 fz HP K0 P1 ok1 hx1' hW1'
  go_wp2_with fail
  have Hr : Hid ((wd r = 1 ∧ s1.x < s1.W) ∨ (wd r = 2 ∧ s1.x + 2 ≤ s1.W)) := by
    show _ ∨ _
    have a := Hx1.out
    have b := HW1.out
    omega
  clear x0 x1
  have x0 := Hok1.out.x0
  have x1 := Hok1.out.x1
  have c0 := HP1.out.f0
  have c1 := HP1.out.f1
  have c2 := HP1.out.f2
  have c4 := HP1.out.f4
  have c5 := HP1.out.f5
  have c6 := HP1.out.f6
  have c7 := HP1.out.f7
  have c8 := HP1.out.f8
  have HD : Hid (PrAt wa.drew bs bg g N s1 t) := HP1.out.drew
  have lt : bs < wa.heap.size := HP1.out.lt
  have ng : ¬ bs = g := HP1.out.ne2
  go_region_held3 (fun w' => w'.cell? ⟨bs, 0, none⟩ = some (.pointer (some ⟨bg, 0, none⟩)) ∧ w'.cell? ⟨bs, 1, none⟩ = some (.int .i64 s1.x) ∧ w'.cell? ⟨bs, 2, none⟩ = some (.int .i64 s1.y) ∧ w'.cell? ⟨bs, 4, none⟩ = some (.int .i64 s1.pen.f) ∧ w'.cell? ⟨bs, 5, none⟩ = some (.int .i64 s1.pen.b) ∧ w'.cell? ⟨bs, 6, none⟩ = some (.bool s1.pen.bo) ∧ w'.cell? ⟨bs, 7, none⟩ = some (.bool s1.pen.un) ∧ w'.cell? ⟨bs, 8, none⟩ = some (.bool s1.pen.re)) (simp [*]) (first | (go_at_call 102; refine (pPutG bg g s1.W s1.H N s1.G s1.x s1.y r s1.pen _ HD.out.gr Hok1.out.wf Hok1.out.x0 Hok1.out.y0 Hok1.out.y1 Hr.out).mono ?_; rintro e w3 ⟨rfl, G3, K3⟩; have e2 := keepC K3 lt ng))
  have HP3 : Hid (PrAt w3 bs bg g N (writeR s1 r) t) := HD.out.cells _ (K3.block _ lt ng) G3 rfl ng
  have K4 : Keep (fun i => i = bs ∨ i = bg ∨ i = g) w w3 := (K1.drew).trans K3 (fun _ _ h => Or.inr (Or.inr h))
  clear HD HP1 e2 G3 K3 K1 lt c0 c1 c2 c4 c5 c6 c7 c8
  have c1 : w3.cell? ⟨bs, 1, none⟩ = some (.int .i64 s1.x) := HP3.out.f1
  have c3 : w3.cell? ⟨bs, 3, none⟩ = some (.bool s1.pend) := HP3.out.f3
  have fz := HP3.out.free
  have x40 := Hok1.out.w2
  have Hst : Hid (stepR (writeR s1 r) k = { writeR s1 r with pend := (s1.x + k == (s.W : Int)), x := leastI (s1.x + k) ((s.W : Int) - 1) }) := by
    show _ = _
    have b := HW1.out
    have a := Hx1.out
    rw [← b]
    exact step_eq (s := writeR s1 r) hp1 (by show s1.x + k ≤ s1.W; omega)
  go_wp2_with (first | (go_at_call 66; refine (pLeast _ _ _).mono ?_; rintro e w' ⟨rfl, hw'⟩; replace hw' := hw'.symm; subst hw'))
  go_end0
  refine ⟨rfl, ?_, (K4.setCell ⟨bs, 3, none⟩ _ (fun _ => Or.inl rfl)).setCell ⟨bs, 1, none⟩ _ (fun _ => Or.inl rfl)⟩
  rw [Hst.out]
  exact (HP3.out.setPend _).setX _
set_option maxHeartbeats 2000000 in
theorem sPutAX (bs bg g N : Nat) (s : Rs) (t : Pt) (r k : Int) (w : World) (h : PrAt w bs bg g N s t) (ok : s.Ok) (hk : wd r = k) (hk1 : k = 1 ∨ k = 2) (hkW : k ≤ s.W) (hp : s.pend = false) (hx : (s.W : Int) < s.x + k) :
    Calls Tryd.prog 86 #[.pointer (some ⟨bs, 0, none⟩), .int .i32 r] w (SPost bs bg g N w (stepR (writeR (linefeedR { s with x := 0 }) r) k) t (.tuple #[])) := by
  have HP : Hid (PrAt w bs bg g N s t) := h
  have Hok : Hid s.Ok := ok
  have c0 := h.f0
  have c1 := h.f1
  have c3 := h.f3
  have fz := h.free
  have w2 := ok.w2
  have w1 := ok.w1
  have x0 := ok.x0
  have x1 := ok.x1
  rw [hp] at c3
  have hk0 : ¬ k = 0 := by omega
  have hkW' : ¬ (s.W : Int) < k := by omega
  clear h ok
  go_enter Tryd.func86, Tryd.ntmps86
  go_wp2_with (first | (go_at_call 42; refine (Wd.lettersWidth _ _).mono ?_; rintro e w' ⟨rfl, hw'⟩; replace hw' := hw'.symm; subst hw') | (go_at_call 46; refine (pWidth bg g s.W s.H N s.G _ HP.out.gr).mono ?_; rintro e w' ⟨rfl, hw'⟩; replace hw' := hw'.symm; subst hw'))
  go_at_call 85
  refine (sLineFeed bs bg g N { s with x := 0 } t _ (HP.out.setX 0) (ok_x0' Hok.out)).mono ?_
  rintro e wa ⟨rfl, P1, K0⟩
  have K1 : Keep (fun i => i = bs ∨ i = bg ∨ i = g) w wa := ((Keep.refl _ w).setCell ⟨bs, 1, none⟩ _ (fun _ => Or.inl rfl)).trans K0 (fun _ _ h => h)
  have ok1 : (linefeedR { s with x := 0 }).Ok := ok_lf Hok.out
  have hW1' : (linefeedR { s with x := 0 }).W = s.W := lf_W _
  have hp1 : (linefeedR { s with x := 0 }).pend = false := lf_pend _
  have hx1' : (linefeedR { s with x := 0 }).x = 0 := by
    rcases lf_x { s with x := 0 } with e | e
    · exact e
    · rw [e]; exact clamp_id (Int.le_refl 0) (by show (0 : Int) < s.W; omega)
  generalize linefeedR { s with x := 0 } = s1 at *
  have HP1 : Hid (PrAt wa bs bg g N s1 t) := P1
  have Hok1 : Hid s1.Ok := ok1
  have Hx1 : Hid (s1.x = 0) := hx1'
  have HW1 : Hid (s1.W = s.W) := hW1'
  clear c0 c1 c3 fz HP K0 P1 ok1 hx1' hW1'
  go_wp2_with fail
  have Hr : Hid ((wd r = 1 ∧ s1.x < s1.W) ∨ (wd r = 2 ∧ s1.x + 2 ≤ s1.W)) := by
    show _ ∨ _
    have a := Hx1.out
    have b := HW1.out
    omega
  clear x0 x1
  have x0 := Hok1.out.x0
  have x1 := Hok1.out.x1
  have c0 := HP1.out.f0
  have c1 := HP1.out.f1
  have c2 := HP1.out.f2
  have c4 := HP1.out.f4
  have c5 := HP1.out.f5
  have c6 := HP1.out.f6
  have c7 := HP1.out.f7
  have c8 := HP1.out.f8
  have HD : Hid (PrAt wa.drew bs bg g N s1 t) := HP1.out.drew
  have lt : bs < wa.heap.size := HP1.out.lt
  have ng : ¬ bs = g := HP1.out.ne2
  go_region_held3 (fun w' => w'.cell? ⟨bs, 0, none⟩ = some (.pointer (some ⟨bg, 0, none⟩)) ∧ w'.cell? ⟨bs, 1, none⟩ = some (.int .i64 s1.x) ∧ w'.cell? ⟨bs, 2, none⟩ = some (.int .i64 s1.y) ∧ w'.cell? ⟨bs, 4, none⟩ = some (.int .i64 s1.pen.f) ∧ w'.cell? ⟨bs, 5, none⟩ = some (.int .i64 s1.pen.b) ∧ w'.cell? ⟨bs, 6, none⟩ = some (.bool s1.pen.bo) ∧ w'.cell? ⟨bs, 7, none⟩ = some (.bool s1.pen.un) ∧ w'.cell? ⟨bs, 8, none⟩ = some (.bool s1.pen.re)) (simp [*]) (first | (go_at_call 102; refine (pPutG bg g s1.W s1.H N s1.G s1.x s1.y r s1.pen _ HD.out.gr Hok1.out.wf Hok1.out.x0 Hok1.out.y0 Hok1.out.y1 Hr.out).mono ?_; rintro e w3 ⟨rfl, G3, K3⟩; have e2 := keepC K3 lt ng))
  have HP3 : Hid (PrAt w3 bs bg g N (writeR s1 r) t) := HD.out.cells _ (K3.block _ lt ng) G3 rfl ng
  have K4 : Keep (fun i => i = bs ∨ i = bg ∨ i = g) w w3 := (K1.drew).trans K3 (fun _ _ h => Or.inr (Or.inr h))
  clear HD HP1 e2 G3 K3 K1 lt c0 c1 c2 c4 c5 c6 c7 c8
  have c1 : w3.cell? ⟨bs, 1, none⟩ = some (.int .i64 s1.x) := HP3.out.f1
  have c3 : w3.cell? ⟨bs, 3, none⟩ = some (.bool s1.pend) := HP3.out.f3
  have fz := HP3.out.free
  have x40 := Hok1.out.w2
  have Hst : Hid (stepR (writeR s1 r) k = { writeR s1 r with pend := (s1.x + k == (s.W : Int)), x := leastI (s1.x + k) ((s.W : Int) - 1) }) := by
    show _ = _
    have b := HW1.out
    have a := Hx1.out
    rw [← b]
    exact step_eq (s := writeR s1 r) hp1 (by show s1.x + k ≤ s1.W; omega)
  go_wp2_with (first | (go_at_call 66; refine (pLeast _ _ _).mono ?_; rintro e w' ⟨rfl, hw'⟩; replace hw' := hw'.symm; subst hw'))
  go_end0
  refine ⟨rfl, ?_, (K4.setCell ⟨bs, 3, none⟩ _ (fun _ => Or.inl rfl)).setCell ⟨bs, 1, none⟩ _ (fun _ => Or.inl rfl)⟩
  rw [Hst.out]
  exact (HP3.out.setPend _).setX _
set_option maxHeartbeats 2000000 in
theorem sPutBN (bs bg g N : Nat) (s : Rs) (t : Pt) (r : Int) (w : World) (h : PrAt w bs bg g N s t) (ok : s.Ok) (hk : wd r = 2) (hW : s.W = 1) (hp : s.pend = false) :
    Calls Tryd.prog 86 #[.pointer (some ⟨bs, 0, none⟩), .int .i32 r] w (SPost bs bg g N w (stepR (writeR s 32) 1) t (.tuple #[])) := by
  have HP : Hid (PrAt w bs bg g N s t) := h
  have Hok : Hid s.Ok := ok
  have c0 := h.f0
  have c1 := h.f1
  have c3 := h.f3
  have fz := h.free
  have w2 := ok.w2
  have w1 := ok.w1
  have x0 := ok.x0
  have x1 := ok.x1
  rw [hp] at c3
  have hx0 : s.x = 0 := by omega
  have Hx0 : Hid (s.x = 0) := hx0
  have HW : Hid (s.W = 1) := hW
  have hW1 : (s.W : Int) < 2 := by omega
  have hx1 : s.x + 1 ≤ s.W := by omega
  clear hx0 hW
  have hx' : ¬ (s.W : Int) < s.x + 1 := by omega
  clear h ok
  go_enter Tryd.func86, Tryd.ntmps86
  go_wp2_with (first | (go_at_call 42; refine (Wd.lettersWidth _ _).mono ?_; rintro e w' ⟨rfl, hw'⟩; replace hw' := hw'.symm; subst hw') | (go_at_call 46; refine (pWidth bg g s.W s.H N s.G _ HP.out.gr).mono ?_; rintro e w' ⟨rfl, hw'⟩; replace hw' := hw'.symm; subst hw'))
  have K1 : Keep (fun i => i = bs ∨ i = bg ∨ i = g) w w := Keep.refl _ _
  have HP1 : Hid (PrAt w bs bg g N s t) := HP.out
  have Hok1 : Hid s.Ok := Hok.out
  clear c0 c1 c3 fz HP
  have Hr : Hid ((wd 32 = 1 ∧ s.x < s.W) ∨ (wd 32 = 2 ∧ s.x + 2 ≤ s.W)) := by
    show _ ∨ _
    exact Or.inl ⟨wd_32, x1⟩
  have x0 := Hok1.out.x0
  have c0 := HP1.out.f0
  have c1 := HP1.out.f1
  have c2 := HP1.out.f2
  have c4 := HP1.out.f4
  have c5 := HP1.out.f5
  have c6 := HP1.out.f6
  have c7 := HP1.out.f7
  have c8 := HP1.out.f8
  have HD : Hid (PrAt w.drew bs bg g N s t) := HP1.out.drew
  have lt : bs < w.heap.size := HP1.out.lt
  have ng : ¬ bs = g := HP1.out.ne2
  go_region_held3 (fun w' => w'.cell? ⟨bs, 0, none⟩ = some (.pointer (some ⟨bg, 0, none⟩)) ∧ w'.cell? ⟨bs, 1, none⟩ = some (.int .i64 s.x) ∧ w'.cell? ⟨bs, 2, none⟩ = some (.int .i64 s.y) ∧ w'.cell? ⟨bs, 4, none⟩ = some (.int .i64 s.pen.f) ∧ w'.cell? ⟨bs, 5, none⟩ = some (.int .i64 s.pen.b) ∧ w'.cell? ⟨bs, 6, none⟩ = some (.bool s.pen.bo) ∧ w'.cell? ⟨bs, 7, none⟩ = some (.bool s.pen.un) ∧ w'.cell? ⟨bs, 8, none⟩ = some (.bool s.pen.re)) (simp [*]) (first | (go_at_call 102; refine (pPutG bg g s.W s.H N s.G s.x s.y 32 s.pen _ HD.out.gr Hok1.out.wf x0 Hok1.out.y0 Hok1.out.y1 Hr.out).mono ?_; rintro e w3 ⟨rfl, G3, K3⟩; have e2 := keepC K3 lt ng))
  have HP3 : Hid (PrAt w3 bs bg g N (writeR s 32) t) := HD.out.cells _ (K3.block _ lt ng) G3 rfl ng
  have K4 : Keep (fun i => i = bs ∨ i = bg ∨ i = g) w w3 := (K1.drew).trans K3 (fun _ _ h => Or.inr (Or.inr h))
  clear HD HP1 e2 G3 K3 K1 lt c0 c1 c2 c4 c5 c6 c7 c8
  have c1 : w3.cell? ⟨bs, 1, none⟩ = some (.int .i64 s.x) := HP3.out.f1
  have c3 : w3.cell? ⟨bs, 3, none⟩ = some (.bool s.pend) := HP3.out.f3
  have fz := HP3.out.free
  have x40 := Hok1.out.w2
  have Hst : Hid (stepR (writeR s 32) 1 = { writeR s 32 with pend := (s.x + 1 == (s.W : Int)), x := leastI (s.x + 1) ((s.W : Int) - 1) }) := by
    show _ = _
    exact step_eq hp hx1
  go_wp2_with (first | (go_at_call 66; refine (pLeast _ _ _).mono ?_; rintro e w' ⟨rfl, hw'⟩; replace hw' := hw'.symm; subst hw'))
  go_end0
  refine ⟨rfl, ?_, (K4.setCell ⟨bs, 3, none⟩ _ (fun _ => Or.inl rfl)).setCell ⟨bs, 1, none⟩ _ (fun _ => Or.inl rfl)⟩
  rw [Hst.out]
  exact (HP3.out.setPend _).setX _
set_option maxHeartbeats 2000000 in
theorem sPutBP (bs bg g N : Nat) (s : Rs) (t : Pt) (r : Int) (w : World) (h : PrAt w bs bg g N s t) (ok : s.Ok) (hk : wd r = 2) (hW : s.W = 1) (hp : s.pend = true) :
    Calls Tryd.prog 86 #[.pointer (some ⟨bs, 0, none⟩), .int .i32 r] w (SPost bs bg g N w (stepR (writeR (linefeedR { s with x := 0 }) 32) 1) t (.tuple #[])) := by
  have HP : Hid (PrAt w bs bg g N s t) := h
  have Hok : Hid s.Ok := ok
  have c0 := h.f0
  have c1 := h.f1
  have c3 := h.f3
  have fz := h.free
  have w2 := ok.w2
  have w1 := ok.w1
  have x0 := ok.x0
  have x1 := ok.x1
  rw [hp] at c3
  have hx0 : s.x = 0 := by omega
  have Hx0 : Hid (s.x = 0) := hx0
  have HW : Hid (s.W = 1) := hW
  have hW1 : (s.W : Int) < 2 := by omega
  have hx1 : s.x + 1 ≤ s.W := by omega
  clear hx0 hW
  clear h ok
  go_enter Tryd.func86, Tryd.ntmps86
  go_wp2_with (first | (go_at_call 42; refine (Wd.lettersWidth _ _).mono ?_; rintro e w' ⟨rfl, hw'⟩; replace hw' := hw'.symm; subst hw') | (go_at_call 46; refine (pWidth bg g s.W s.H N s.G _ HP.out.gr).mono ?_; rintro e w' ⟨rfl, hw'⟩; replace hw' := hw'.symm; subst hw'))
  go_at_call 85
  refine (sLineFeed bs bg g N { s with x := 0 } t _ (HP.out.setX 0) (ok_x0' Hok.out)).mono ?_
  rintro e wa ⟨rfl, P1, K0⟩
  have K1 : Keep (fun i => i = bs ∨ i = bg ∨ i = g) w wa := ((Keep.refl _ w).setCell ⟨bs, 1, none⟩ _ (fun _ => Or.inl rfl)).trans K0 (fun _ _ h => h)
  have ok1 : (linefeedR { s with x := 0 }).Ok := ok_lf Hok.out
  have hW1' : (linefeedR { s with x := 0 }).W = s.W := lf_W _
  have hp1 : (linefeedR { s with x := 0 }).pend = false := lf_pend _
  have hx1' : (linefeedR { s with x := 0 }).x = 0 := by
    rcases lf_x { s with x := 0 } with e | e
    · exact e
    · rw [e]; exact clamp_id (Int.le_refl 0) (by show (0 : Int) < s.W; omega)
  generalize linefeedR { s with x := 0 } = s1 at *
  have HP1 : Hid (PrAt wa bs bg g N s1 t) := P1
  have Hok1 : Hid s1.Ok := ok1
  have Hx1 : Hid (s1.x = 0) := hx1'
  have HW1 : Hid (s1.W = s.W) := hW1'
  clear c0 c1 c3 fz HP K0 P1 ok1 hx1' hW1'
  go_wp2_with fail
  have Hr : Hid ((wd 32 = 1 ∧ s1.x < s1.W) ∨ (wd 32 = 2 ∧ s1.x + 2 ≤ s1.W)) := by
    show _ ∨ _
    exact Or.inl ⟨wd_32, Hok1.out.x1⟩
  clear x0 x1
  have x0 := Hok1.out.x0
  have x1 := Hok1.out.x1
  have c0 := HP1.out.f0
  have c1 := HP1.out.f1
  have c2 := HP1.out.f2
  have c4 := HP1.out.f4
  have c5 := HP1.out.f5
  have c6 := HP1.out.f6
  have c7 := HP1.out.f7
  have c8 := HP1.out.f8
  have HD : Hid (PrAt wa.drew bs bg g N s1 t) := HP1.out.drew
  have lt : bs < wa.heap.size := HP1.out.lt
  have ng : ¬ bs = g := HP1.out.ne2
  go_region_held3 (fun w' => w'.cell? ⟨bs, 0, none⟩ = some (.pointer (some ⟨bg, 0, none⟩)) ∧ w'.cell? ⟨bs, 1, none⟩ = some (.int .i64 s1.x) ∧ w'.cell? ⟨bs, 2, none⟩ = some (.int .i64 s1.y) ∧ w'.cell? ⟨bs, 4, none⟩ = some (.int .i64 s1.pen.f) ∧ w'.cell? ⟨bs, 5, none⟩ = some (.int .i64 s1.pen.b) ∧ w'.cell? ⟨bs, 6, none⟩ = some (.bool s1.pen.bo) ∧ w'.cell? ⟨bs, 7, none⟩ = some (.bool s1.pen.un) ∧ w'.cell? ⟨bs, 8, none⟩ = some (.bool s1.pen.re)) (simp [*]) (first | (go_at_call 102; refine (pPutG bg g s1.W s1.H N s1.G s1.x s1.y 32 s1.pen _ HD.out.gr Hok1.out.wf Hok1.out.x0 Hok1.out.y0 Hok1.out.y1 Hr.out).mono ?_; rintro e w3 ⟨rfl, G3, K3⟩; have e2 := keepC K3 lt ng))
  have HP3 : Hid (PrAt w3 bs bg g N (writeR s1 32) t) := HD.out.cells _ (K3.block _ lt ng) G3 rfl ng
  have K4 : Keep (fun i => i = bs ∨ i = bg ∨ i = g) w w3 := (K1.drew).trans K3 (fun _ _ h => Or.inr (Or.inr h))
  clear HD HP1 e2 G3 K3 K1 lt c0 c1 c2 c4 c5 c6 c7 c8
  have c1 : w3.cell? ⟨bs, 1, none⟩ = some (.int .i64 s1.x) := HP3.out.f1
  have c3 : w3.cell? ⟨bs, 3, none⟩ = some (.bool s1.pend) := HP3.out.f3
  have fz := HP3.out.free
  have x40 := Hok1.out.w2
  have Hst : Hid (stepR (writeR s1 32) 1 = { writeR s1 32 with pend := (s1.x + 1 == (s.W : Int)), x := leastI (s1.x + 1) ((s.W : Int) - 1) }) := by
    show _ = _
    have b := HW1.out
    have a := Hx1.out
    rw [← b]
    exact step_eq (s := writeR s1 32) hp1 (by show s1.x + 1 ≤ s1.W; omega)
  go_wp2_with (first | (go_at_call 66; refine (pLeast _ _ _).mono ?_; rintro e w' ⟨rfl, hw'⟩; replace hw' := hw'.symm; subst hw'))
  go_end0
  refine ⟨rfl, ?_, (K4.setCell ⟨bs, 3, none⟩ _ (fun _ => Or.inl rfl)).setCell ⟨bs, 1, none⟩ _ (fun _ => Or.inl rfl)⟩
  rw [Hst.out]
  exact (HP3.out.setPend _).setX _
theorem sPut0 (bs bg g N : Nat) (s : Rs) (t : Pt) (r : Int) (w : World) (h : PrAt w bs bg g N s t) (hk : wd r = 0) :
    Calls Tryd.prog 86 #[.pointer (some ⟨bs, 0, none⟩), .int .i32 r] w (SPost bs bg g N w (putR s r) t (.tuple #[])) := by
  have HP : Hid (PrAt w bs bg g N s t) := h
  have Hp : Hid (putR s r = { s with odd := wrap64 (s.odd + 1) }) := by show _ = _; unfold putR; rw [if_pos hk]
  clear h
  go_enter Tryd.func86, Tryd.ntmps86
  go_wp2_with (first | (go_at_call 42; refine (Wd.lettersWidth _ _).mono ?_; rintro e w' ⟨rfl, hw'⟩; replace hw' := hw'.symm; subst hw'))
  refine bodyPost_ret (v := .tuple #[]) (by simp [results, Tryd.results86, go_sem]) rfl ⟨rfl, ?_, Keep.refl _ _⟩
  rw [Hp.out]
  exact HP.out.congr _ rfl rfl rfl (fun _ _ _ _ => rfl)
theorem sPut (bs bg g N : Nat) (s : Rs) (t : Pt) (r : Int) (w : World) (h : PrAt w bs bg g N s t) (ok : s.Ok) :
    Calls Tryd.prog 86 #[.pointer (some ⟨bs, 0, none⟩), .int .i32 r] w (SPost bs bg g N w (putR s r) t (.tuple #[])) := by
  have x1 := ok.x1
  have w1 := ok.w1
  have hwd := Wd.wd_cases r
  by_cases h0 : wd r = 0
  · exact sPut0 bs bg g N s t r w h h0
  · by_cases hB : wd r = 2 ∧ s.W = 1
    · rw [putR_B hB.1 hB.2]
      cases hp : s.pend with
      | true =>
        rw [show brokenR s 1 = linefeedR { s with x := 0 } from if_pos (by simp [wraps, hp])]
        exact sPutBP bs bg g N s t r w h ok hB.1 hB.2 hp
      | false =>
        rw [show brokenR s 1 = s from if_neg (by simp [wraps, hp])]
        exact sPutBN bs bg g N s t r w h ok hB.1 hB.2 hp
    · obtain ⟨k, hk⟩ : ∃ k, wd r = k := ⟨_, rfl⟩
      rw [putR_A hk (by omega) (by omega)]
      cases hp : s.pend with
      | true =>
        rw [show brokenR s k = linefeedR { s with x := 0 } from if_pos (by simp [wraps, hp])]
        exact sPutAP bs bg g N s t r k w h ok hk (by omega) (by omega) hp
      | false =>
        by_cases hx : s.x + k ≤ s.W
        · rw [show brokenR s k = s from if_neg (by simp [wraps, hp]; omega)]
          exact sPutAN bs bg g N s t r k w h ok hk (by omega) (by omega) hp hx
        · rw [show brokenR s k = linefeedR { s with x := 0 } from if_pos (by simp [wraps, hp]; omega)]
          exact sPutAX bs bg g N s t r k w h ok hk (by omega) (by omega) hp (by omega)
end Go.Proofs.YtknhohbepkapdaaDoor
