/- Texts of the proof, one behind the other: PsD, PsE, PsF. -/
import Derived.Test.YtjlfibhbfdckpaaDoorK06
/- The program's screen: what Put writes. -/
namespace Go.Proofs.YtjlfibhbfdckpaaDoor
open Go.RowKit
open Wd (wd)
attribute [local go_sem ↓] Go.wp_at_zero Go.wp_at_succ
theorem put_write {W H : Nat} {G : Nat → Nat → Cel} (h : Wf W H G) {x y : Nat} {r : Int} (p : Pn) (hy : y < H) (hr : (wd r = 1 ∧ x < W) ∨ (wd r = 2 ∧ x + 2 ≤ W)) : EqOn W H (putX r p x y G) (writeG W H G x y r p) := by
  unfold putX
  rcases hr with ⟨hr, hx⟩ | ⟨hr, hx⟩
  · refine EqOn.trans (wr_dom h (fun a b _ _ => ?_) (fun a b _ _ _ => ?_)) (writeG_one h hx hy r p hr).symm
    · rw [hr, Bool.eq_iff_iff, stretch_iff]
      simp [pt]
      omega
    · unfold putCel; rw [hr, if_neg (by decide)]
  · refine EqOn.trans (wr_dom h (fun a b _ _ => ?_) (fun a b _ _ _ => ?_)) (writeG_two h (by omega) hy r p hr).symm
    · rw [hr, Bool.eq_iff_iff, stretch_iff]
      simp [pt2, pt]
      omega
    · unfold putCel wide
      rw [hr, if_pos rfl]
theorem pPutG (bg g W H N : Nat) (G : Nat → Nat → Cel) (x y r : Int) (p : Pn) (w : World) (h : GrAt w bg g W H N G) (hw : Wf W H G) (x0 : 0 ≤ x) (y0 : 0 ≤ y) (hy : y < H) (hr : (wd r = 1 ∧ x < W) ∨ (wd r = 2 ∧ x + 2 ≤ W)) :
    Calls Tryd.prog 102 #[.pointer (some ⟨bg, 0, none⟩), .int .i64 x, .int .i64 y, .int .i32 r, p.agg] w fun e w' => e = .returned (.tuple #[]) ∧ GrAt w' bg g W H N (writeG W H G x y r p) ∧ Keep (fun i => i = g) w w' := by
  obtain ⟨x, rfl⟩ := Int.eq_ofNat_of_zero_le x0
  obtain ⟨y, rfl⟩ := Int.eq_ofNat_of_zero_le y0
  have hr' : (wd r = 1 ∧ x < W) ∨ (wd r = 2 ∧ x + 2 ≤ W) := by omega
  have e := put_write hw p (show y < H by omega) hr'
  rcases hr' with ⟨hr, hx⟩ | ⟨hr, hx⟩
  · refine (pPut1 bg g W H N G x y r p w h hw (by omega) hr hx).mono ?_
    rintro _ w' ⟨rfl, G1, K1⟩
    exact ⟨rfl, G1.congr e, K1⟩
  · refine (pPut2 bg g W H N G x y r p w h hw (by omega) hr hx).mono ?_
    rintro _ w' ⟨rfl, G1, K1⟩
    exact ⟨rfl, G1.congr e, K1⟩
end Go.Proofs.YtjlfibhbfdckpaaDoor

/- The program's screen: put. -/
namespace Go.Proofs.YtjlfibhbfdckpaaDoor
open Go.RowKit
open Wd (wd)
attribute [local go_sem ↓] Go.wp_at_zero Go.wp_at_succ
theorem step_eq {s : Rs} {k : Int} (hp : s.pend = false) (hx : s.x + k ≤ s.W) : stepR s k = { s with pend := (s.x + k == (s.W : Int)), x := leastI (s.x + k) ((s.W : Int) - 1) } := by
  unfold stepR leastI
  by_cases h : (s.W : Int) ≤ s.x + k
  · have e : s.x + k = s.W := by omega
    rw [if_pos h, if_pos (by omega), e]; simp
  · have e : ¬ s.x + k = s.W := by omega
    rw [if_neg h, if_neg (by omega)]
    have : (s.x + k == (s.W : Int)) = false := by simpa using e
    rw [this, ← hp]
theorem putR_A {s : Rs} {r k : Int} (hk : wd r = k) (hk1 : k = 1 ∨ k = 2) (hkW : k ≤ s.W) : putR s r = stepR (writeR (brokenR s k) r) k := by
  unfold putR effW effR
  rw [if_neg (by omega), if_neg (by omega), if_neg (by omega), hk]
theorem putR_B {s : Rs} {r : Int} (hk : wd r = 2) (hW : s.W = 1) : putR s r = stepR (writeR (brokenR s 1) 32) 1 := by
  unfold putR effW effR
  rw [if_neg (by omega), if_pos ⟨hk, hW⟩, if_pos ⟨hk, hW⟩]
set_option maxHeartbeats 2000000 in
theorem sPutAN (bs bg g N : Nat) (s : Rs) (t : Pt) (r k : Int) (w : World) (h : PrAt w bs bg g N s t) (ok : s.Ok) (hk : wd r = k) (hk1 : k = 1 ∨ k = 2) (hkW : k ≤ s.W) (hp : s.pend = false) (hx : s.x + k ≤ s.W) :
    Calls Tryd.prog 86 #[.pointer (some ⟨bs, 0, none⟩), .int .i32 r] w (SPost bs bg g N w (stepR (writeR s r) k) t (.tuple #[])) := by
  have HP : Hid (PrAt w bs bg g N s t) := h
  have Hok : Hid s.Ok := ok
  have c0 := h.f0
  have c1 := h.f1
  have c3 := h.f3
  have fz := h.free
  have w2 := ok.w2
  have w1 := ok.w1
  have x0 := ok.x0
  have x1 := ok.x1
  rw [hp] at c3
  have hk0 : ¬ k = 0 := by omega
  have hkW' : ¬ (s.W : Int) < k := by omega
  have hx' : ¬ (s.W : Int) < s.x + k := by omega
  clear h ok
  go_enter Tryd.func86, Tryd.ntmps86
  go_wp2_with (first | (go_at_call 42; refine (Wd.lettersWidth _ _).mono ?_; rintro e w' ⟨rfl, hw'⟩; replace hw' := hw'.symm; subst hw') | (go_at_call 46; refine (pWidth bg g s.W s.H N s.G _ HP.out.gr).mono ?_; rintro e w' ⟨rfl, hw'⟩; replace hw' := hw'.symm; subst hw'))
  have K1 : Keep (fun i => i = bs ∨ i = bg ∨ i = g) w w := Keep.refl _ _
  have HP1 : Hid (PrAt w bs bg g N s t) := HP.out
  have Hok1 : Hid s.Ok := Hok.out
  clear c0 c1 c3 fz HP
  have Hr : Hid ((wd r = 1 ∧ s.x < s.W) ∨ (wd r = 2 ∧ s.x + 2 ≤ s.W)) := by
    show _ ∨ _
    omega
  have x0 := Hok1.out.x0
  have c0 := HP1.out.f0
  have c1 := HP1.out.f1
  have c2 := HP1.out.f2
  have c4 := HP1.out.f4
  have c5 := HP1.out.f5
  have c6 := HP1.out.f6
  have c7 := HP1.out.f7
  have c8 := HP1.out.f8
  have HD : Hid (PrAt w.drew bs bg g N s t) := HP1.out.drew
  have lt : bs < w.heap.size := HP1.out.lt
  have ng : ¬ bs = g := HP1.out.ne2
  go_region_held3 (fun w' => w'.cell? ⟨bs, 0, none⟩ = some (.pointer (some ⟨bg, 0, none⟩)) ∧ w'.cell? ⟨bs, 1, none⟩ = some (.int .i64 s.x) ∧ w'.cell? ⟨bs, 2, none⟩ = some (.int .i64 s.y) ∧ w'.cell? ⟨bs, 4, none⟩ = some (.int .i64 s.pen.f) ∧ w'.cell? ⟨bs, 5, none⟩ = some (.int .i64 s.pen.b) ∧ w'.cell? ⟨bs, 6, none⟩ = some (.bool s.pen.bo) ∧ w'.cell? ⟨bs, 7, none⟩ = some (.bool s.pen.un) ∧ w'.cell? ⟨bs, 8, none⟩ = some (.bool s.pen.re)) (simp [*]) (first | (go_at_call 102; refine (pPutG bg g s.W s.H N s.G s.x s.y r s.pen _ HD.out.gr Hok1.out.wf x0 Hok1.out.y0 Hok1.out.y1 Hr.out).mono ?_; rintro e w3 ⟨rfl, G3, K3⟩; have e2 := keepC K3 lt ng))
  have HP3 : Hid (PrAt w3 bs bg g N (writeR s r) t) := HD.out.cells _ (K3.block _ lt ng) G3 rfl ng
  have K4 : Keep (fun i => i = bs ∨ i = bg ∨ i = g) w w3 := (K1.drew).trans K3 (fun _ _ h => Or.inr (Or.inr h))
  clear HD HP1 e2 G3 K3 K1 lt c0 c1 c2 c4 c5 c6 c7 c8
  have c1 : w3.cell? ⟨bs, 1, none⟩ = some (.int .i64 s.x) := HP3.out.f1
  have c3 : w3.cell? ⟨bs, 3, none⟩ = some (.bool s.pend) := HP3.out.f3
  have fz := HP3.out.free
  have x40 := Hok1.out.w2
  have Hst : Hid (stepR (writeR s r) k = { writeR s r with pend := (s.x + k == (s.W : Int)), x := leastI (s.x + k) ((s.W : Int) - 1) }) := by
    show _ = _
    exact step_eq hp hx
  go_wp2_with (first | (go_at_call 66; refine (pLeast _ _ _).mono ?_; rintro e w' ⟨rfl, hw'⟩; replace hw' := hw'.symm; subst hw'))
  go_end0
  refine ⟨rfl, ?_, (K4.setCell ⟨bs, 3, none⟩ _ (fun _ => Or.inl rfl)).setCell ⟨bs, 1, none⟩ _ (fun _ => Or.inl rfl)⟩
  rw [Hst.out]
  exact (HP3.out.setPend _).setX _
set_option maxHeartbeats 2000000 in
theorem sPutAP (bs bg g N : Nat) (s : Rs) (t : Pt) (r k : Int) (w : World) (h : PrAt w bs bg g N s t) (ok : s.Ok) (hk : wd r = k) (hk1 : k = 1 ∨ k = 2) (hkW : k ≤ s.W) (hp : s.pend = true) :
    Calls Tryd.prog 86 #[.pointer (some ⟨bs, 0, none⟩), .int .i32 r] w (SPost bs bg g N w (stepR (writeR (linefeedR { s with x := 0 }) r) k) t (.tuple #[])) := by
  have HP : Hid (PrAt w bs bg g N s t) := h
  have Hok : Hid s.Ok := ok
  have c0 := h.f0
  have c1 := h.f1
  have c3 := h.f3
  have fz := h.free
  have w2 := ok.w2
  have w1 := ok.w1
  have x0 := ok.x0
  have x1 := ok.x1
  rw [hp] at c3
  have hk0 : ¬ k = 0 := by omega
  have hkW' : ¬ (s.W : Int) < k := by omega
  clear h ok
  go_enter Tryd.func86, Tryd.ntmps86
  go_wp2_with (first | (go_at_call 42; refine (Wd.lettersWidth _ _).mono ?_; rintro e w' ⟨rfl, hw'⟩; replace hw' := hw'.symm; subst hw') | (go_at_call 46; refine (pWidth bg g s.W s.H N s.G _ HP.out.gr).mono ?_; rintro e w' ⟨rfl, hw'⟩; replace hw' := hw'.symm; subst hw'))
  go_at_call 85
  refine (sLineFeed bs bg g N { s with x := 0 } t _ (HP.out.setX 0) (ok_x0' Hok.out)).mono ?_
  rintro e wa ⟨rfl, P1, K0⟩
  have K1 : Keep (fun i => i = bs ∨ i = bg ∨ i = g) w wa := ((Keep.refl _ w).setCell ⟨bs, 1, none⟩ _ (fun _ => Or.inl rfl)).trans K0 (fun _ _ h => h)
  have ok1 : (linefeedR { s with x := 0 }).Ok := ok_lf Hok.out
  have hW1' : (linefeedR { s with x := 0 }).W = s.W := lf_W _
  have hp1 : (linefeedR { s with x := 0 }).pend = false := lf_pend _
  have hx1' : (linefeedR { s with x := 0 }).x = 0 := by
    rcases lf_x { s with x := 0 } with e | e
    · exact e
    · rw [e]; exact clamp_id (Int.le_refl 0) (by show (0 : Int) < s.W; omega)
  generalize linefeedR { s with x := 0 } = s1 at *
  have HP1 : Hid (PrAt wa bs bg g N s1 t) := P1
  have Hok1 : Hid s1.Ok := ok1
  have Hx1 : Hid (s1.x = 0) := hx1'
  have HW1 : Hid (s1.W = s.W) := hW1'
  clear c0 c1 c3 fz HP K0 P1 ok1 hx1' hW1'
  go_wp2_with fail
  have Hr : Hid ((wd r = 1 ∧ s1.x < s1.W) ∨ (wd r = 2 ∧ s1.x + 2 ≤ s1.W)) := by
    show _ ∨ _
    have a := Hx1.out
    have b := HW1.out
    omega
  clear x0 x1
  have x0 := Hok1.out.x0
  have x1 := Hok1.out.x1
  have c0 := HP1.out.f0
  have c1 := HP1.out.f1
  have c2 := HP1.out.f2
  have c4 := HP1.out.f4
  have c5 := HP1.out.f5
  have c6 := HP1.out.f6
  have c7 := HP1.out.f7
  have c8 := HP1.out.f8
  have HD : Hid (PrAt wa.drew bs bg g N s1 t) := HP1.out.drew
  have lt : bs < wa.heap.size := HP1.out.lt
  have ng : ¬ bs = g := HP1.out.ne2
  go_region_held3 (fun w' => w'.cell? ⟨bs, 0, none⟩ = some (.pointer (some ⟨bg, 0, none⟩)) ∧ w'.cell? ⟨bs, 1, none⟩ = some (.int .i64 s1.x) ∧ w'.cell? ⟨bs, 2, none⟩ = some (.int .i64 s1.y) ∧ w'.cell? ⟨bs, 4, none⟩ = some (.int .i64 s1.pen.f) ∧ w'.cell? ⟨bs, 5, none⟩ = some (.int .i64 s1.pen.b) ∧ w'.cell? ⟨bs, 6, none⟩ = some (.bool s1.pen.bo) ∧ w'.cell? ⟨bs, 7, none⟩ = some (.bool s1.pen.un) ∧ w'.cell? ⟨bs, 8, none⟩ = some (.bool s1.pen.re)) (simp [*]) (first | (go_at_call 102; refine (pPutG bg g s1.W s1.H N s1.G s1.x s1.y r s1.pen _ HD.out.gr Hok1.out.wf Hok1.out.x0 Hok1.out.y0 Hok1.out.y1 Hr.out).mono ?_; rintro e w3 ⟨rfl, G3, K3⟩; have e2 := keepC K3 lt ng))
  have HP3 : Hid (PrAt w3 bs bg g N (writeR s1 r) t) := HD.out.cells _ (K3.block _ lt ng) G3 rfl ng
  have K4 : Keep (fun i => i = bs ∨ i = bg ∨ i = g) w w3 := (K1.drew).trans K3 (fun _ _ h => Or.inr (Or.inr h))
  clear HD HP1 e2 G3 K3 K1 lt c0 c1 c2 c4 c5 c6 c7 c8
  have c1 : w3.cell? ⟨bs, 1, none⟩ = some (.int .i64 s1.x) := HP3.out.f1
  have c3 : w3.cell? ⟨bs, 3, none⟩ = some (.bool s1.pend) := HP3.out.f3
  have fz := HP3.out.free
  have x40 := Hok1.out.w2
  have Hst : Hid (stepR (writeR s1 r) k = { writeR s1 r with pend := (s1.x + k == (s.W : Int)), x := leastI (s1.x + k) ((s.W : Int) - 1) }) := by
    show _ = _
    have b := HW1.out
    have a := Hx1.out
    rw [← b]
    exact step_eq (s := writeR s1 r) hp1 (by show s1.x + k ≤ s1.W; omega)
  go_wp2_with (first | (go_at_call 66; refine (pLeast _ _ _).mono ?_; rintro e w' ⟨rfl, hw'⟩; replace hw' := hw'.symm; subst hw'))
  go_end0
  refine ⟨rfl, ?_, (K4.setCell ⟨bs, 3, none⟩ _ (fun _ => Or.inl rfl)).setCell ⟨bs, 1, none⟩ _ (fun _ => Or.inl rfl)⟩
  rw [Hst.out]
  exact (HP3.out.setPend _).setX _
set_option maxHeartbeats 2000000 in
theorem sPutAX (bs bg g N : Nat) (s : Rs) (t : Pt) (r k : Int) (w : World) (h : PrAt w bs bg g N s t) (ok : s.Ok) (hk : wd r = k) (hk1 : k = 1 ∨ k = 2) (hkW : k ≤ s.W) (hp : s.pend = false) (hx : (s.W : Int) < s.x + k) :
    Calls Tryd.prog 86 #[.pointer (some ⟨bs, 0, none⟩), .int .i32 r] w (SPost bs bg g N w (stepR (writeR (linefeedR { s with x := 0 }) r) k) t (.tuple #[])) := by
  have HP : Hid (PrAt w bs bg g N s t) := h
  have Hok : Hid s.Ok := ok
  have c0 := h.f0
  have c1 := h.f1
  have c3 := h.f3
  have fz := h.free
  have w2 := ok.w2
  have w1 := ok.w1
  have x0 := ok.x0
  have x1 := ok.x1
  rw [hp] at c3
  have hk0 : ¬ k = 0 := by omega
  have hkW' : ¬ (s.W : Int) < k := by omega
  clear h ok
  go_enter Tryd.func86, Tryd.ntmps86
  go_wp2_with (first | (go_at_call 42; refine (Wd.lettersWidth _ _).mono ?_; rintro e w' ⟨rfl, hw'⟩; replace hw' := hw'.symm; subst hw') | (go_at_call 46; refine (pWidth bg g s.W s.H N s.G _ HP.out.gr).mono ?_; rintro e w' ⟨rfl, hw'⟩; replace hw' := hw'.symm; subst hw'))
  go_at_call 85
  refine (sLineFeed bs bg g N { s with x := 0 } t _ (HP.out.setX 0) (ok_x0' Hok.out)).mono ?_
  rintro e wa ⟨rfl, P1, K0⟩
  have K1 : Keep (fun i => i = bs ∨ i = bg ∨ i = g) w wa := ((Keep.refl _ w).setCell ⟨bs, 1, none⟩ _ (fun _ => Or.inl rfl)).trans K0 (fun _ _ h => h)
  have ok1 : (linefeedR { s with x := 0 }).Ok := ok_lf Hok.out
  have hW1' : (linefeedR { s with x := 0 }).W = s.W := lf_W _
  have hp1 : (linefeedR { s with x := 0 }).pend = false := lf_pend _
  have hx1' : (linefeedR { s with x := 0 }).x = 0 := by
    rcases lf_x { s with x := 0 } with e | e
    · exact e
    · rw [e]; exact clamp_id (Int.le_refl 0) (by show (0 : Int) < s.W; omega)
  generalize linefeedR { s with x := 0 } = s1 at *
  have HP1 : Hid (PrAt wa bs bg g N s1 t) := P1
  have Hok1 : Hid s1.Ok := ok1
  have Hx1 : Hid (s1.x = 0) := hx1'
  have HW1 : Hid (s1.W = s.W) := hW1'
  clear c0 c1 c3 fz HP K0 P1 ok1 hx1' hW1'
  go_wp2_with fail
  have Hr : Hid ((wd r = 1 ∧ s1.x < s1.W) ∨ (wd r = 2 ∧ s1.x + 2 ≤ s1.W)) := by
    show _ ∨ _
    have a := Hx1.out
    have b := HW1.out
    omega
  clear x0 x1
  have x0 := Hok1.out.x0
  have x1 := Hok1.out.x1
  have c0 := HP1.out.f0
  have c1 := HP1.out.f1
  have c2 := HP1.out.f2
  have c4 := HP1.out.f4
  have c5 := HP1.out.f5
  have c6 := HP1.out.f6
  have c7 := HP1.out.f7
  have c8 := HP1.out.f8
  have HD : Hid (PrAt wa.drew bs bg g N s1 t) := HP1.out.drew
  have lt : bs < wa.heap.size := HP1.out.lt
  have ng : ¬ bs = g := HP1.out.ne2
  go_region_held3 (fun w' => w'.cell? ⟨bs, 0, none⟩ = some (.pointer (some ⟨bg, 0, none⟩)) ∧ w'.cell? ⟨bs, 1, none⟩ = some (.int .i64 s1.x) ∧ w'.cell? ⟨bs, 2, none⟩ = some (.int .i64 s1.y) ∧ w'.cell? ⟨bs, 4, none⟩ = some (.int .i64 s1.pen.f) ∧ w'.cell? ⟨bs, 5, none⟩ = some (.int .i64 s1.pen.b) ∧ w'.cell? ⟨bs, 6, none⟩ = some (.bool s1.pen.bo) ∧ w'.cell? ⟨bs, 7, none⟩ = some (.bool s1.pen.un) ∧ w'.cell? ⟨bs, 8, none⟩ = some (.bool s1.pen.re)) (simp [*]) (first | (go_at_call 102; refine (pPutG bg g s1.W s1.H N s1.G s1.x s1.y r s1.pen _ HD.out.gr Hok1.out.wf Hok1.out.x0 Hok1.out.y0 Hok1.out.y1 Hr.out).mono ?_; rintro e w3 ⟨rfl, G3, K3⟩; have e2 := keepC K3 lt ng))
  have HP3 : Hid (PrAt w3 bs bg g N (writeR s1 r) t) := HD.out.cells _ (K3.block _ lt ng) G3 rfl ng
  have K4 : Keep (fun i => i = bs ∨ i = bg ∨ i = g) w w3 := (K1.drew).trans K3 (fun _ _ h => Or.inr (Or.inr h))
  clear HD HP1 e2 G3 K3 K1 lt c0 c1 c2 c4 c5 c6 c7 c8
  have c1 : w3.cell? ⟨bs, 1, none⟩ = some (.int .i64 s1.x) := HP3.out.f1
  have c3 : w3.cell? ⟨bs, 3, none⟩ = some (.bool s1.pend) := HP3.out.f3
  have fz := HP3.out.free
  have x40 := Hok1.out.w2
  have Hst : Hid (stepR (writeR s1 r) k = { writeR s1 r with pend := (s1.x + k == (s.W : Int)), x := leastI (s1.x + k) ((s.W : Int) - 1) }) := by
    show _ = _
    have b := HW1.out
    have a := Hx1.out
    rw [← b]
    exact step_eq (s := writeR s1 r) hp1 (by show s1.x + k ≤ s1.W; omega)
  go_wp2_with (first | (go_at_call 66; refine (pLeast _ _ _).mono ?_; rintro e w' ⟨rfl, hw'⟩; replace hw' := hw'.symm; subst hw'))
  go_end0
  refine ⟨rfl, ?_, (K4.setCell ⟨bs, 3, none⟩ _ (fun _ => Or.inl rfl)).setCell ⟨bs, 1, none⟩ _ (fun _ => Or.inl rfl)⟩
  rw [Hst.out]
  exact (HP3.out.setPend _).setX _
set_option maxHeartbeats 2000000 in
theorem sPutBN (bs bg g N : Nat) (s : Rs) (t : Pt) (r : Int) (w : World) (h : PrAt w bs bg g N s t) (ok : s.Ok) (hk : wd r = 2) (hW : s.W = 1) (hp : s.pend = false) :
    Calls Tryd.prog 86 #[.pointer (some ⟨bs, 0, none⟩), .int .i32 r] w (SPost bs bg g N w (stepR (writeR s 32) 1) t (.tuple #[])) := by
  have HP : Hid (PrAt w bs bg g N s t) := h
  have Hok : Hid s.Ok := ok
  have c0 := h.f0
  have c1 := h.f1
  have c3 := h.f3
  have fz := h.free
  have w2 := ok.w2
  have w1 := ok.w1
  have x0 := ok.x0
  have x1 := ok.x1
  rw [hp] at c3
  have hx0 : s.x = 0 := by omega
  have Hx0 : Hid (s.x = 0) := hx0
  have HW : Hid (s.W = 1) := hW
  have hW1 : (s.W : Int) < 2 := by omega
  have hx1 : s.x + 1 ≤ s.W := by omega
  clear hx0 hW
  have hx' : ¬ (s.W : Int) < s.x + 1 := by omega
  clear h ok
  go_enter Tryd.func86, Tryd.ntmps86
  go_wp2_with (first | (go_at_call 42; refine (Wd.lettersWidth _ _).mono ?_; rintro e w' ⟨rfl, hw'⟩; replace hw' := hw'.symm; subst hw') | (go_at_call 46; refine (pWidth bg g s.W s.H N s.G _ HP.out.gr).mono ?_; rintro e w' ⟨rfl, hw'⟩; replace hw' := hw'.symm; subst hw'))
  have K1 : Keep (fun i => i = bs ∨ i = bg ∨ i = g) w w := Keep.refl _ _
  have HP1 : Hid (PrAt w bs bg g N s t) := HP.out
  have Hok1 : Hid s.Ok := Hok.out
  clear c0 c1 c3 fz HP
  have Hr : Hid ((wd 32 = 1 ∧ s.x < s.W) ∨ (wd 32 = 2 ∧ s.x + 2 ≤ s.W)) := by
    show _ ∨ _
    exact Or.inl ⟨wd_32, x1⟩
  have x0 := Hok1.out.x0
  have c0 := HP1.out.f0
  have c1 := HP1.out.f1
  have c2 := HP1.out.f2
  have c4 := HP1.out.f4
  have c5 := HP1.out.f5
  have c6 := HP1.out.f6
  have c7 := HP1.out.f7
  have c8 := HP1.out.f8
  have HD : Hid (PrAt w.drew bs bg g N s t) := HP1.out.drew
  have lt : bs < w.heap.size := HP1.out.lt
  have ng : ¬ bs = g := HP1.out.ne2
  go_region_held3 (fun w' => w'.cell? ⟨bs, 0, none⟩ = some (.pointer (some ⟨bg, 0, none⟩)) ∧ w'.cell? ⟨bs, 1, none⟩ = some (.int .i64 s.x) ∧ w'.cell? ⟨bs, 2, none⟩ = some (.int .i64 s.y) ∧ w'.cell? ⟨bs, 4, none⟩ = some (.int .i64 s.pen.f) ∧ w'.cell? ⟨bs, 5, none⟩ = some (.int .i64 s.pen.b) ∧ w'.cell? ⟨bs, 6, none⟩ = some (.bool s.pen.bo) ∧ w'.cell? ⟨bs, 7, none⟩ = some (.bool s.pen.un) ∧ w'.cell? ⟨bs, 8, none⟩ = some (.bool s.pen.re)) (simp [*]) (first | (go_at_call 102; refine (pPutG bg g s.W s.H N s.G s.x s.y 32 s.pen _ HD.out.gr Hok1.out.wf x0 Hok1.out.y0 Hok1.out.y1 Hr.out).mono ?_; rintro e w3 ⟨rfl, G3, K3⟩; have e2 := keepC K3 lt ng))
  have HP3 : Hid (PrAt w3 bs bg g N (writeR s 32) t) := HD.out.cells _ (K3.block _ lt ng) G3 rfl ng
  have K4 : Keep (fun i => i = bs ∨ i = bg ∨ i = g) w w3 := (K1.drew).trans K3 (fun _ _ h => Or.inr (Or.inr h))
  clear HD HP1 e2 G3 K3 K1 lt c0 c1 c2 c4 c5 c6 c7 c8
  have c1 : w3.cell? ⟨bs, 1, none⟩ = some (.int .i64 s.x) := HP3.out.f1
  have c3 : w3.cell? ⟨bs, 3, none⟩ = some (.bool s.pend) := HP3.out.f3
  have fz := HP3.out.free
  have x40 := Hok1.out.w2
  have Hst : Hid (stepR (writeR s 32) 1 = { writeR s 32 with pend := (s.x + 1 == (s.W : Int)), x := leastI (s.x + 1) ((s.W : Int) - 1) }) := by
    show _ = _
    exact step_eq hp hx1
  go_wp2_with (first | (go_at_call 66; refine (pLeast _ _ _).mono ?_; rintro e w' ⟨rfl, hw'⟩; replace hw' := hw'.symm; subst hw'))
  go_end0
  refine ⟨rfl, ?_, (K4.setCell ⟨bs, 3, none⟩ _ (fun _ => Or.inl rfl)).setCell ⟨bs, 1, none⟩ _ (fun _ => Or.inl rfl)⟩
  rw [Hst.out]
  exact (HP3.out.setPend _).setX _
set_option maxHeartbeats 2000000 in
theorem sPutBP (bs bg g N : Nat) (s : Rs) (t : Pt) (r : Int) (w : World) (h : PrAt w bs bg g N s t) (ok : s.Ok) (hk : wd r = 2) (hW : s.W = 1) (hp : s.pend = true) :
    Calls Tryd.prog 86 #[.pointer (some ⟨bs, 0, none⟩), .int .i32 r] w (SPost bs bg g N w (stepR (writeR (linefeedR { s with x := 0 }) 32) 1) t (.tuple #[])) := by
  have HP : Hid (PrAt w bs bg g N s t) := h
  have Hok : Hid s.Ok := ok
  have c0 := h.f0
  have c1 := h.f1
  have c3 := h.f3
  have fz := h.free
  have w2 := ok.w2
  have w1 := ok.w1
  have x0 := ok.x0
  have x1 := ok.x1
  rw [hp] at c3
  have hx0 : s.x = 0 := by omega
  have Hx0 : Hid (s.x = 0) := hx0
  have HW : Hid (s.W = 1) := hW
  have hW1 : (s.W : Int) < 2 := by omega
  have hx1 : s.x + 1 ≤ s.W := by omega
  clear hx0 hW
  clear h ok
  go_enter Tryd.func86, Tryd.ntmps86
  go_wp2_with (first | (go_at_call 42; refine (Wd.lettersWidth _ _).mono ?_; rintro e w' ⟨rfl, hw'⟩; replace hw' := hw'.symm; subst hw') | (go_at_call 46; refine (pWidth bg g s.W s.H N s.G _ HP.out.gr).mono ?_; rintro e w' ⟨rfl, hw'⟩; replace hw' := hw'.symm; subst hw'))
  go_at_call 85
  refine (sLineFeed bs bg g N { s with x := 0 } t _ (HP.out.setX 0) (ok_x0' Hok.out)).mono ?_
  rintro e wa ⟨rfl, P1, K0⟩
  have K1 : Keep (fun i => i = bs ∨ i = bg ∨ i = g) w wa := ((Keep.refl _ w).setCell ⟨bs, 1, none⟩ _ (fun _ => Or.inl rfl)).trans K0 (fun _ _ h => h)
  have ok1 : (linefeedR { s with x := 0 }).Ok := ok_lf Hok.out
  have hW1' : (linefeedR { s with x := 0 }).W = s.W := lf_W _
  have hp1 : (linefeedR { s with x := 0 }).pend = false := lf_pend _
  have hx1' : (linefeedR { s with x := 0 }).x = 0 := by
    rcases lf_x { s with x := 0 } with e | e
    · exact e
    · rw [e]; exact clamp_id (Int.le_refl 0) (by show (0 : Int) < s.W; omega)
  generalize linefeedR { s with x := 0 } = s1 at *
  have HP1 : Hid (PrAt wa bs bg g N s1 t) := P1
  have Hok1 : Hid s1.Ok := ok1
  have Hx1 : Hid (s1.x = 0) := hx1'
  have HW1 : Hid (s1.W = s.W) := hW1'
  clear c0 c1 c3 fz HP K0 P1 ok1 hx1' hW1'
  go_wp2_with fail
  have Hr : Hid ((wd 32 = 1 ∧ s1.x < s1.W) ∨ (wd 32 = 2 ∧ s1.x + 2 ≤ s1.W)) := by
    show _ ∨ _
    exact Or.inl ⟨wd_32, Hok1.out.x1⟩
  clear x0 x1
  have x0 := Hok1.out.x0
  have x1 := Hok1.out.x1
  have c0 := HP1.out.f0
  have c1 := HP1.out.f1
  have c2 := HP1.out.f2
  have c4 := HP1.out.f4
  have c5 := HP1.out.f5
  have c6 := HP1.out.f6
  have c7 := HP1.out.f7
  have c8 := HP1.out.f8
  have HD : Hid (PrAt wa.drew bs bg g N s1 t) := HP1.out.drew
  have lt : bs < wa.heap.size := HP1.out.lt
  have ng : ¬ bs = g := HP1.out.ne2
  go_region_held3 (fun w' => w'.cell? ⟨bs, 0, none⟩ = some (.pointer (some ⟨bg, 0, none⟩)) ∧ w'.cell? ⟨bs, 1, none⟩ = some (.int .i64 s1.x) ∧ w'.cell? ⟨bs, 2, none⟩ = some (.int .i64 s1.y) ∧ w'.cell? ⟨bs, 4, none⟩ = some (.int .i64 s1.pen.f) ∧ w'.cell? ⟨bs, 5, none⟩ = some (.int .i64 s1.pen.b) ∧ w'.cell? ⟨bs, 6, none⟩ = some (.bool s1.pen.bo) ∧ w'.cell? ⟨bs, 7, none⟩ = some (.bool s1.pen.un) ∧ w'.cell? ⟨bs, 8, none⟩ = some (.bool s1.pen.re)) (simp [*]) (first | (go_at_call 102; refine (pPutG bg g s1.W s1.H N s1.G s1.x s1.y 32 s1.pen _ HD.out.gr Hok1.out.wf Hok1.out.x0 Hok1.out.y0 Hok1.out.y1 Hr.out).mono ?_; rintro e w3 ⟨rfl, G3, K3⟩; have e2 := keepC K3 lt ng))
  have HP3 : Hid (PrAt w3 bs bg g N (writeR s1 32) t) := HD.out.cells _ (K3.block _ lt ng) G3 rfl ng
  have K4 : Keep (fun i => i = bs ∨ i = bg ∨ i = g) w w3 := (K1.drew).trans K3 (fun _ _ h => Or.inr (Or.inr h))
  clear HD HP1 e2 G3 K3 K1 lt c0 c1 c2 c4 c5 c6 c7 c8
  have c1 : w3.cell? ⟨bs, 1, none⟩ = some (.int .i64 s1.x) := HP3.out.f1
  have c3 : w3.cell? ⟨bs, 3, none⟩ = some (.bool s1.pend) := HP3.out.f3
  have fz := HP3.out.free
  have x40 := Hok1.out.w2
  have Hst : Hid (stepR (writeR s1 32) 1 = { writeR s1 32 with pend := (s1.x + 1 == (s.W : Int)), x := leastI (s1.x + 1) ((s.W : Int) - 1) }) := by
    show _ = _
    have b := HW1.out
    have a := Hx1.out
    rw [← b]
    exact step_eq (s := writeR s1 32) hp1 (by show s1.x + 1 ≤ s1.W; omega)
  go_wp2_with (first | (go_at_call 66; refine (pLeast _ _ _).mono ?_; rintro e w' ⟨rfl, hw'⟩; replace hw' := hw'.symm; subst hw'))
  go_end0
  refine ⟨rfl, ?_, (K4.setCell ⟨bs, 3, none⟩ _ (fun _ => Or.inl rfl)).setCell ⟨bs, 1, none⟩ _ (fun _ => Or.inl rfl)⟩
  rw [Hst.out]
  exact (HP3.out.setPend _).setX _
theorem sPut0 (bs bg g N : Nat) (s : Rs) (t : Pt) (r : Int) (w : World) (h : PrAt w bs bg g N s t) (hk : wd r = 0) :
    Calls Tryd.prog 86 #[.pointer (some ⟨bs, 0, none⟩), .int .i32 r] w (SPost bs bg g N w (putR s r) t (.tuple #[])) := by
  have HP : Hid (PrAt w bs bg g N s t) := h
  have Hp : Hid (putR s r = { s with odd := wrap64 (s.odd + 1) }) := by show _ = _; unfold putR; rw [if_pos hk]
  clear h
  go_enter Tryd.func86, Tryd.ntmps86
  go_wp2_with (first | (go_at_call 42; refine (Wd.lettersWidth _ _).mono ?_; rintro e w' ⟨rfl, hw'⟩; replace hw' := hw'.symm; subst hw'))
  refine bodyPost_ret (v := .tuple #[]) (by simp [results, Tryd.results86, go_sem]) rfl ⟨rfl, ?_, Keep.refl _ _⟩
  rw [Hp.out]
  exact HP.out.congr _ rfl rfl rfl (fun _ _ _ _ => rfl)
theorem sPut (bs bg g N : Nat) (s : Rs) (t : Pt) (r : Int) (w : World) (h : PrAt w bs bg g N s t) (ok : s.Ok) :
    Calls Tryd.prog 86 #[.pointer (some ⟨bs, 0, none⟩), .int .i32 r] w (SPost bs bg g N w (putR s r) t (.tuple #[])) := by
  have x1 := ok.x1
  have w1 := ok.w1
  have hwd := Wd.wd_cases r
  by_cases h0 : wd r = 0
  · exact sPut0 bs bg g N s t r w h h0
  · by_cases hB : wd r = 2 ∧ s.W = 1
    · rw [putR_B hB.1 hB.2]
      cases hp : s.pend with
      | true =>
        rw [show brokenR s 1 = linefeedR { s with x := 0 } from if_pos (by simp [wraps, hp])]
        exact sPutBP bs bg g N s t r w h ok hB.1 hB.2 hp
      | false =>
        rw [show brokenR s 1 = s from if_neg (by simp [wraps, hp])]
        exact sPutBN bs bg g N s t r w h ok hB.1 hB.2 hp
    · obtain ⟨k, hk⟩ : ∃ k, wd r = k := ⟨_, rfl⟩
      rw [putR_A hk (by omega) (by omega)]
      cases hp : s.pend with
      | true =>
        rw [show brokenR s k = linefeedR { s with x := 0 } from if_pos (by simp [wraps, hp])]
        exact sPutAP bs bg g N s t r k w h ok hk (by omega) (by omega) hp
      | false =>
        by_cases hx : s.x + k ≤ s.W
        · rw [show brokenR s k = s from if_neg (by simp [wraps, hp]; omega)]
          exact sPutAN bs bg g N s t r k w h ok hk (by omega) (by omega) hp hx
        · rw [show brokenR s k = linefeedR { s with x := 0 } from if_pos (by simp [wraps, hp]; omega)]
          exact sPutAX bs bg g N s t r k w h ok hk (by omega) (by omega) hp (by omega)
end Go.Proofs.YtjlfibhbfdckpaaDoor

/- The program's screen: the sequence. -/
namespace Go.Proofs.YtjlfibhbfdckpaaDoor
open Go.RowKit
attribute [local go_sem ↓] Go.wp_at_zero Go.wp_at_succ
def pickI (n v : Int) : Int := if n = 0 then v else n
theorem qCounted (bs bg g N : Nat) (s : Rs) (t : Pt) (i : Nat) (v : Int) (w : World) (h : PrAt w bs bg g N s t) (hi : i < 8) :
    Calls Tryd.prog 93 #[.pointer (some ⟨bs, 17, none⟩), .int .i64 i, .int .i64 v] w fun e w' => e = .returned (.int .i64 (pickI (t.nm i) v)) ∧ w' = w := by
  have c := h.num i hi
  clear h
  by_cases h0 : t.nm i = 0
  · rw [show pickI (t.nm i) v = v from if_pos h0]
    rw [h0] at c
    go_enter Tryd.func93, Tryd.ntmps93
    go_wp2
    go_ret
    exact ⟨rfl, rfl⟩
  · rw [show pickI (t.nm i) v = t.nm i from if_neg h0]
    go_enter Tryd.func93, Tryd.ntmps93
    go_wp2
    go_ret
    exact ⟨rfl, rfl⟩
theorem qAll (bs bg g N : Nat) (s : Rs) (t : Pt) (w : World) (h : PrAt w bs bg g N s t) (c : Nat) (hc : t.cn = c) (hc8 : c ≤ 8) :
    Calls Tryd.prog 99 #[.pointer (some ⟨bs, 17, none⟩)] w fun e w' => e = .returned (.slice (some ⟨bs, 17, none⟩) (if c = 0 then 1 else c) 8) ∧ Below w.heap.size w w' := by
  have c25 := h.f25
  rw [hc] at c25
  obtain ⟨m, hm⟩ : ∃ m : Nat, (if c = 0 then 1 else c) = m := ⟨_, rfl⟩
  have hg : greatestI c 1 = m := by unfold greatestI; split at hm <;> split <;> omega
  have hm8 : m ≤ 8 := by split at hm <;> omega
  rw [hm]
  have hm9 : (m : Int) ≤ 8 := by omega
  have hm0 : (0 : Int) ≤ m := by omega
  clear h hm
  go_enter Tryd.func99, Tryd.ntmps99
  go_wp2_with fail
  go_quiet ((go_at_call 90; exact Calls.quiet_of_same (pGreatest _ _ _)))
  go_wp2_with fail
  go_ret
  exact ⟨rfl, below_drewN _ _⟩
def maxI1 (c : Int) : Int := if c < 1 then 1 else c
def digT (t : Pt) (d : Int) : Pt := if t.bad = true then t else { t with cn := maxI1 t.cn, nm := updI t.nm ((maxI1 t.cn).toNat - 1) (capN (t.nm ((maxI1 t.cn).toNat - 1) * 10 + d)) }
def sepT (t : Pt) : Pt := if t.bad = true then t else { t with cn := maxI1 t.cn + 1, bad := decide (8 < maxI1 t.cn + 1) }
theorem cap_least (n : Int) : leastI n 9999 = capN n := by unfold leastI capN; rfl
theorem max_greatest (c : Int) : greatestI c 1 = maxI1 c := by unfold greatestI maxI1; rfl
set_option maxHeartbeats 1000000 in
theorem qDigit (bs bg g N : Nat) (s : Rs) (t : Pt) (d : Int) (w : World) (h : PrAt w bs bg g N s t) (hcn : t.bad = false → 0 ≤ t.cn ∧ t.cn ≤ 8) (hn : t.bad = false → ∀ i, i < 8 → 0 ≤ t.nm i ∧ t.nm i ≤ 9999) (d0 : 0 ≤ d) (d9 : d ≤ 9) :
    Calls Tryd.prog 81 #[.pointer (some ⟨bs, 17, none⟩), .int .i64 d] w (SPost bs bg g N w s (digT t d) (.tuple #[])) := by
  have HP : Hid (PrAt w bs bg g N s t) := h
  have f26 := h.f26
  have f25 := h.f25
  have fz := h.free
  clear h
  cases hb : t.bad with
  | true =>
    rw [hb] at f26
    rw [show digT t d = t from if_pos hb]
    go_enter Tryd.func81, Tryd.ntmps81
    go_wp2_with fail
    exact bodyPost_ret (v := .tuple #[]) (by simp [results, Tryd.results81, go_sem]) rfl ⟨rfl, HP.out, Keep.refl _ _⟩
  | false =>
    rw [hb] at f26
    obtain ⟨c0, c8⟩ := hcn hb
    have hn := hn hb
    obtain ⟨i, hi⟩ : ∃ i : Nat, maxI1 t.cn = (i : Int) + 1 := ⟨(maxI1 t.cn - 1).toNat, by unfold maxI1; split <;> omega⟩
    have hi8 : i < 8 := by unfold maxI1 at hi; split at hi <;> omega
    have HT : Hid (digT t d = { t with cn := (i : Int) + 1, nm := updI t.nm i (capN (t.nm i * 10 + d)) }) := by
      show digT t d = _
      unfold digT
      rw [if_neg (by rw [hb]; decide), hi, show ((i : Int) + 1).toNat - 1 = i by omega]
    have hmg : greatestI t.cn 1 = (i : Int) + 1 := by rw [max_greatest, hi]
    obtain ⟨n0, n9⟩ := hn i hi8
    have hnum := HP.out.num i hi8
    have HP1 : Hid (PrAt (w.setCell ⟨bs, 25, none⟩ (.int .i64 ((i : Int) + 1))) bs bg g N s { t with cn := (i : Int) + 1 } ) := HP.out.setCn _
    have hcap := cap_least (t.nm i * 10 + d)
    have hoff : ¬ 25 = 17 + i := by omega
    generalize hnn : t.nm i = n at *
    have HN : Hid (t.nm i = n) := hnn
    clear hnn
    go_enter Tryd.func81, Tryd.ntmps81
    go_wp2_with (first | (go_at_call 90; refine (pGreatest _ _ _).mono ?_; rintro e w' ⟨rfl, hw'⟩; replace hw' := hw'.symm; subst hw') | (go_at_call 66; refine (pLeast _ _ _).mono ?_; rintro e w' ⟨rfl, hw'⟩; replace hw' := hw'.symm; subst hw'))
    clear HP f25 f26 fz hnum
    have K1 : Keep (fun i => i = bs ∨ i = bg ∨ i = g) w (w.setCell ⟨bs, 25, none⟩ (.int .i64 ((i : Int) + 1))) := (Keep.refl _ w).setCell ⟨bs, 25, none⟩ _ (fun _ => Or.inl rfl)
    generalize w.setCell ⟨bs, 25, none⟩ (.int .i64 ((i : Int) + 1)) = wa at *
    have f25 : wa.cell? ⟨bs, 25, none⟩ = some (.int .i64 ((i : Int) + 1)) := HP1.out.f25
    have wi : IntKind.i64.wrap ((i : Int) + 1 - 1) = i := by rw [wrap_id _ (by omega) (by omega)]; omega
    have i0 : (0 : Int) ≤ i := by omega
    have i8 : (i : Int) < 8 := by omega
    go_quiet (fail)
    have HP2 : Hid (PrAt (wa.drewN nq) bs bg g N s { t with cn := (i : Int) + 1 }) := HP1.out.drewN nq
    have K2 : Keep (fun i => i = bs ∨ i = bg ∨ i = g) w (wa.drewN nq) := K1.drewN nq
    generalize wa.drewN nq = wb at *
    clear HP1 K1 f25
    have fi : wb.cell? ⟨bs, 17 + i, none⟩ = some (.int .i64 n) := by rw [← HN.out]; exact HP2.out.num i hi8
    have fz := HP2.out.free
    go_wp2_with (first | (go_at_call 66; refine (pLeast _ _ _).mono ?_; rintro e w' ⟨rfl, hw'⟩; replace hw' := hw'.symm; subst hw'))
    go_end0
    refine ⟨rfl, ?_, K2.setCell ⟨bs, 17 + i, none⟩ _ (fun _ => Or.inl rfl)⟩
    rw [HT.out]
    exact HP2.out.setNum i hi8 _
set_option maxHeartbeats 1000000 in
theorem qSeparate (bs bg g N : Nat) (s : Rs) (t : Pt) (w : World) (h : PrAt w bs bg g N s t) (hcn : t.bad = false → 0 ≤ t.cn ∧ t.cn ≤ 8) :
    Calls Tryd.prog 82 #[.pointer (some ⟨bs, 17, none⟩)] w (SPost bs bg g N w s (sepT t) (.tuple #[])) := by
  have HP : Hid (PrAt w bs bg g N s t) := h
  have f26 := h.f26
  have f25 := h.f25
  have fz := h.free
  clear h
  cases hb : t.bad with
  | true =>
    rw [hb] at f26
    rw [show sepT t = t from if_pos hb]
    go_enter Tryd.func82, Tryd.ntmps82
    go_wp2_with fail
    exact bodyPost_ret (v := .tuple #[]) (by simp [results, Tryd.results82, go_sem]) rfl ⟨rfl, HP.out, Keep.refl _ _⟩
  | false =>
    rw [hb] at f26
    obtain ⟨c0, c8⟩ := hcn hb
    obtain ⟨m, hm⟩ : ∃ m : Int, maxI1 t.cn = m := ⟨_, rfl⟩
    have hm8 : m ≤ 8 := by unfold maxI1 at hm; split at hm <;> omega
    have hm0 : 0 ≤ m := by unfold maxI1 at hm; split at hm <;> omega
    have HT : Hid (sepT t = { t with cn := m + 1, bad := decide (8 < m + 1) }) := by
      show sepT t = _
      unfold sepT
      rw [if_neg (by rw [hb]; decide), hm]
    have hmg : greatestI t.cn 1 = m := by rw [max_greatest, hm]
    go_enter Tryd.func82, Tryd.ntmps82
    go_wp2_with (first | (go_at_call 90; refine (pGreatest _ _ _).mono ?_; rintro e w' ⟨rfl, hw'⟩; replace hw' := hw'.symm; subst hw'))
    go_end0
    refine ⟨rfl, ?_, ((Keep.refl _ w).setCell ⟨bs, 25, none⟩ _ (fun _ => Or.inl rfl)).setCell ⟨bs, 26, none⟩ _ (fun _ => Or.inl rfl)⟩
    rw [HT.out]
    exact (HP.out.setCn _).setBad _
end Go.Proofs.YtjlfibhbfdckpaaDoor
